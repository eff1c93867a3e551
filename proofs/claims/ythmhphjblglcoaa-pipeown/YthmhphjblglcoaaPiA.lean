/- What one call of the program's Add does. -/
import Derived.Test.YthmhphjblglcoaaPiP
import Derived.Deep.RegionHeld
import Derived.Deep.RegionHeld3
namespace Go.Proofs.Ythmhphjblglcoaa
open Go.RowKit
set_option linter.unusedVariables false
set_option maxRecDepth 4000
def addL (l : List Pq) (p : Pq) : List Pq := if l.length = 16 then l else l ++ [p]
theorem step_store_mid {P : Program} {ops : Array Oper} {o : Oper} {a : Act} {w : World} {K : Act → World → Prop} {Q : Exit → Act → World → Prop} {E : Prop} (hgd : o.guard = none) (ty : TypeId) (x y : Operand) (ho : o.op = .store ty x y)
    (b off : Nat) (cells : Array Value) (hx : a.eval x = .pointer (some ⟨b, off, none⟩)) (hy : a.eval y = .agg cells)
    (ht : w.there b off cells.size) (hi : (P.info? ty).map (·.size) = some cells.size) (h1 : cells.all (·.oneCell') = true)
    (h : K (a.put o.dst undef) (w.setCells b off cells.toList)) : if Region.wanted o (yielded ops a.tmps) = true then Oper.wp P o a w K Q else E := by
  have hw : Region.wanted o (yielded ops a.tmps) = true := by simp [Region.wanted, hgd]
  rw [if_pos hw]
  exact wp_store_mid ty x y ho b off cells hx hy ht hi h1 h
theorem splice_lo {α : Type} {L vs : List α} {o k : Nat} (h : k < o) (ho : o ≤ L.length) : (splice L o vs)[k]? = L[k]? := by
  unfold splice
  rw [List.getElem?_append_left (by simp; omega), List.getElem?_take_of_lt h]
theorem splice_mid {α : Type} {L vs : List α} {o k : Nat} (h : k < vs.length) (ho : o ≤ L.length) : (splice L o vs)[o + k]? = vs[k]? := by
  unfold splice
  rw [List.getElem?_append_right (by simp; omega), List.getElem?_append_left (by simp; omega)]
  congr 1; simp; omega
theorem splice_hi {α : Type} {L vs : List α} {o k : Nat} (h : o + vs.length ≤ k) (ho : o + vs.length ≤ L.length) : (splice L o vs)[k]? = L[k]? := by
  unfold splice
  rw [List.getElem?_append_right (by simp; omega), List.getElem?_append_right (by simp; omega), List.getElem?_drop]
  congr 1; simp; omega
theorem rqL_length (r : Rq) (v : Value) : (rqL r v).length = 6 := rfl
section
variable {X : Nat → Prop} {w : World} {b : Nat} {l : List Pq} {p : Pq} {v : Value}
theorem PP.put (h : PP X w b l) (hl : l.length < 16) (hd : QD X w p v) : PP X ((w.setCells b (l.length * 6) (rqL p.1 v)).setCell ⟨b, 96, none⟩ (.int .i64 ((l.length : Int) + 1))) b (l ++ [p]) := by
  obtain ⟨h1, cs, vs, h2, h3, h4, h5, h6⟩ := h
  have k1 := h2.setCells (rqL p.1 v) (l.length * 6) _ _ (by rw [rqL_length, h3]; omega)
  have hsl : (splice cs (l.length * 6) (rqL p.1 v)).length = 97 := by rw [length_splice _ _ _ (by rw [rqL_length, h3]; omega), h3]
  have ho : Out (fun k => k = b) w ((w.setCells b (l.length * 6) (rqL p.1 v)).setCell ⟨b, 96, none⟩ (.int .i64 ((l.length : Int) + 1))) := Out.setCell (O := fun k => k = b) (out_setCells (fun k => k = b) rfl _ _ _ (Out.refl _ _)) (.inl rfl) _
  have hty : ∀ c cur, w.heap[c]? = some (.cells cur 5 (0, 0)) → ¬ c = b := fun c cur hc => blk_type h2 hc pipe_not_u8
  refine ⟨by simp; omega, _, vs ++ [v], k1.set 96 _, by simp [hsl], by rw [List.getElem?_set]; simp [hsl], (h5.snoc hd).out ho (fun c cur _ hc => hty c cur hc), fun i q u g1 g2 j y hj => ?_⟩
  have hj6 : j < 6 := by have := (List.getElem?_eq_some_iff.1 hj).1; simpa [rqL] using this
  rw [List.getElem?_set, if_neg (by have := (List.getElem?_eq_some_iff.1 g1).1; simp at this; omega)]
  by_cases hlt : i < l.length
  · rw [List.getElem?_append_left hlt] at g1
    rw [List.getElem?_append_left (by rw [h5.1]; exact hlt)] at g2
    rw [splice_lo (by omega) (by omega)]
    exact h6 i q u g1 g2 j y hj
  · have hi : i = l.length := by have := (List.getElem?_eq_some_iff.1 g1).1; simp at this; omega
    subst hi
    simp at g1
    rw [← h5.1] at g2
    simp at g2
    subst g1; subst g2
    rw [splice_mid hj6 (by omega)]
    exact hj
end
set_option maxHeartbeats 2000000 in
theorem pAdd_of {X : Nat → Prop} {W : World} {b : Nat} {l : List Pq} (p : Pq) (A : Option Addr) (k C : Nat) (h : PP X W b l) (hD : DIn W A k C p.2) (hk : k ≤ 100) (hf : p.1.Fits) (hX : ∀ x, W.heap.size ≤ x → X x) :
    Calls Try.prog 13 #[.pointer (some ⟨b, 0, none⟩), .agg (rqL p.1 (.slice A k C)).toArray] W fun e w' => e = .returned (.bool (decide (l.length < 16))) ∧ PP X w' b (addL l p) ∧ Out (fun k => k = b) W w' := by
  obtain ⟨q, hq⟩ : ∃ q, q = W.heap.size := ⟨_, rfl⟩
  have hbW : Below W.heap.size W (W.alloc (.cells (rqL p.1 (.slice A k C)).toArray 34)) := (Below.refl _ _).alloc (Nat.le_refl _) _
  have b0 : Blk (W.alloc (.cells (rqL p.1 (.slice A k C)).toArray 34)) q (rqL p.1 (.slice A k C)) 34 := Blk.new' hq.symm rfl
  have HP : Hid (PP X (W.alloc (.cells (rqL p.1 (.slice A k C)).toArray 34)) b l ∧ DIn (W.alloc (.cells (rqL p.1 (.slice A k C)).toArray 34)) A k C p.2 ∧ Below W.heap.size W (W.alloc (.cells (rqL p.1 (.slice A k C)).toArray 34)) ∧ Blk (W.alloc (.cells (rqL p.1 (.slice A k C)).toArray 34)) q (rqL p.1 (.slice A k C)) 34) := ⟨h.below hbW, hD.alloc _, hbW, b0⟩
  have HQ : Hid (q = W.heap.size ∧ ∀ x, W.heap.size ≤ x → X x) := ⟨hq, hX⟩
  have hl16 := h.few
  obtain ⟨⟨fl, kd, ck, ofs, ln⟩, D⟩ := p
  clear h hD hbW b0 hX
  by_cases e16 : l.length = 16
  · rw [show addL l (⟨fl, kd, ck, ofs, ln⟩, D) = l by simp [addL, e16]]
    go_enter Try.func13, Try.ntmps13
    go_upto_region 1 with fail
    generalize hW : World.alloc W _ = W1 at HP ⊢
    clear hW
    go_wp2_with (go_at_call 20; refine (pFull_of HP.out.1).mono ?_; rintro e V ⟨rfl, rfl⟩; rw [e16])
    go_ret
    exact ⟨by simp [e16], HP.out.1, below_out _ HP.out.2.2.1⟩
  · rw [show addL l (⟨fl, kd, ck, ofs, ln⟩, D) = l ++ [(⟨fl, kd, ck, ofs, ln⟩, D)] by simp [addL, e16]]
    have hl : l.length < 16 := by omega
    have hl' : (l.length : Int) < 16 := by omega
    have hw1 : IntKind.i64.wrap ((l.length : Int) + 1) = (l.length : Int) + 1 := by rw [IntKind.wrap_i64]; omega
    go_enter Try.func13, Try.ntmps13
    go_upto_region 1 with fail
    rw [← hq]
    generalize hW : World.alloc W _ = W1 at HP ⊢
    clear hW hq
    go_wp2_with (go_at_call 20; refine (pFull_of HP.out.1).mono ?_; rintro e V ⟨rfl, rfl⟩; simp only [e16, decide_false])
    obtain ⟨hP, hD, hB, hQ⟩ := HP.out
    have HC : Hid (Calls Try.prog 25 #[.agg #[.int .u16 fl, .int .u16 kd, .int .u64 ck, .int .u64 ofs, .int .u32 ln, .slice A k C]] V.drew fun e w' => ∃ A' C', e = .returned (.agg #[.int .u16 fl, .int .u16 kd, .int .u64 ck, .int .u64 ofs, .int .u32 ln, .slice A' k C']) ∧ w'.cell? ⟨b, 96, none⟩ = some (.int .i64 (l.length : Int)) ∧ w'.cell? ⟨q, 0, none⟩ = some (.int .u16 fl) ∧ w'.cell? ⟨q, 1, none⟩ = some (.int .u16 kd) ∧ w'.cell? ⟨q, 2, none⟩ = some (.int .u64 ck) ∧ w'.cell? ⟨q, 3, none⟩ = some (.int .u64 ofs) ∧ w'.cell? ⟨q, 4, none⟩ = some (.int .u32 ln) ∧ w'.cell? ⟨q, 5, none⟩ = some (.slice A k C) ∧ w'.there b (l.length * 6) 6 ∧ ∀ U, U = ((((((w'.setCell ⟨b, l.length * 6, none⟩ (.int .u16 fl)).setCell ⟨b, l.length * 6 + 1, none⟩ (.int .u16 kd)).setCell ⟨b, l.length * 6 + 2, none⟩ (.int .u64 ck)).setCell ⟨b, l.length * 6 + 3, none⟩ (.int .u64 ofs)).setCell ⟨b, l.length * 6 + 4, none⟩ (.int .u32 ln)).setCell ⟨b, l.length * 6 + 5, none⟩ (.slice A' k C')) → U.cell? ⟨b, 96, none⟩ = some (.int .i64 (l.length : Int)) ∧ U.frozen? ⟨b, 96, none⟩ = false ∧ U.cell? ⟨q, 0, none⟩ = some (.int .u16 fl) ∧ U.cell? ⟨q, 1, none⟩ = some (.int .u16 kd) ∧ U.cell? ⟨q, 2, none⟩ = some (.int .u64 ck) ∧ U.cell? ⟨q, 3, none⟩ = some (.int .u64 ofs) ∧ U.cell? ⟨q, 4, none⟩ = some (.int .u32 ln) ∧ U.cell? ⟨q, 5, none⟩ = some (.slice A k C) ∧ PP X (U.setCell ⟨b, 96, none⟩ (.int .i64 ((l.length : Int) + 1))) b (l ++ [(⟨fl, kd, ck, ofs, ln⟩, D)]) ∧ Out (fun k => k = b) W (U.setCell ⟨b, 96, none⟩ (.int .i64 ((l.length : Int) + 1)))) := by
      have hP' : PP X V.drew b l := hP.below (Below.refl _ _).drew
      refine (copied_of (⟨fl, kd, ck, ofs, ln⟩, D) A k C V.drew (hD.below (Below.refl _ _).drew) hk hf).mono ?_
      rintro e w' ⟨A', C', rfl, hd, hbl⟩
      have hVs : W.heap.size ≤ V.heap.size := hB.size
      have hbl' : Below V.heap.size V w' := (Below.refl _ _).drew.trans hbl
      have hq2 : Blk w' q (rqL ⟨fl, kd, ck, ofs, ln⟩ (.slice A k C)) 34 := hQ.drew.below hbl hQ.lt
      have hne : q ≠ b := by
        rintro rfl
        obtain ⟨_, cs, vs, h2, _⟩ := hP
        have e1 : V.heap[q]? = some (.cells cs.toArray 49 (0, 0)) := h2
        have e2 : V.heap[q]? = some (.cells (rqL ⟨fl, kd, ck, ofs, ln⟩ (.slice A k C)).toArray 34 (0, 0)) := hQ
        rw [e1] at e2
        simp only [Option.some.injEq, Obj.cells.injEq] at e2
        exact absurd e2.2.1 (by decide)
      have hp2 := hP'.below hbl
      have hput := hp2.put hl (hd.wider (fun x hx _ => HQ.out.2 x (Nat.le_trans hVs hx)))
      have hth : w'.there b (l.length * 6) 6 := by
        obtain ⟨_, cs, vs, h2, h3, _⟩ := hp2
        exact h2.there _ _ (by rw [h3]; omega)
      refine ⟨A', C', rfl, hp2.len, hq2.cell 0, hq2.cell 1, hq2.cell 2, hq2.cell 3, hq2.cell 4, hq2.cell 5, hth, ?_⟩
      rintro U hU0
      obtain rfl : U = w'.setCells b (l.length * 6) (rqL ⟨fl, kd, ck, ofs, ln⟩ (.slice A' k C')) := hU0
      have hU : ∃ cs, Blk (w'.setCells b (l.length * 6) (rqL ⟨fl, kd, ck, ofs, ln⟩ (.slice A' k C'))) b cs 49 ∧ cs[96]? = some (.int .i64 (l.length : Int)) := by
        obtain ⟨_, cs, vs, h2, h3, h4, _⟩ := hp2
        exact ⟨_, h2.setCells _ _ _ _ (by rw [rqL_length, h3]; omega), by rw [splice_hi (by rw [rqL_length]; omega) (by rw [rqL_length, h3]; omega)]; exact h4⟩
      obtain ⟨cs, hc1, hc2⟩ := hU
      have hq3 := hq2.setCells_other hne (l.length * 6) (rqL ⟨fl, kd, ck, ofs, ln⟩ (.slice A' k C'))
      refine ⟨by rw [hc1.cell]; exact hc2, hc1.frozen 96, hq3.cell 0, hq3.cell 1, hq3.cell 2, hq3.cell 3, hq3.cell 4, hq3.cell 5, hput, ?_⟩
      exact Out.setCell (O := fun k => k = b) (out_setCells (fun k => k = b) rfl _ _ _ ((below_out _ hB).trans (below_out _ hbl') (fun j e => .inl e))) (.inl rfl) _
    have c96 : V.drew.cell? ⟨b, 96, none⟩ = some (.int .i64 (l.length : Int)) := hP.len
    have q0 : V.drew.cell? ⟨q, 0, none⟩ = some (.int .u16 fl) := hQ.cell 0
    have q1 : V.drew.cell? ⟨q, 1, none⟩ = some (.int .u16 kd) := hQ.cell 1
    have q2 : V.drew.cell? ⟨q, 2, none⟩ = some (.int .u64 ck) := hQ.cell 2
    have q3 : V.drew.cell? ⟨q, 3, none⟩ = some (.int .u64 ofs) := hQ.cell 3
    have q4 : V.drew.cell? ⟨q, 4, none⟩ = some (.int .u32 ln) := hQ.cell 4
    have q5 : V.drew.cell? ⟨q, 5, none⟩ = some (.slice A k C) := hQ.cell 5
    clear hP hD hB hQ
    go_region_held3 (fun Y => Y.cell? ⟨b, 96, none⟩ = some (.int .i64 (l.length : Int)) ∧ Y.cell? ⟨q, 0, none⟩ = some (.int .u16 fl) ∧ Y.cell? ⟨q, 1, none⟩ = some (.int .u16 kd) ∧ Y.cell? ⟨q, 2, none⟩ = some (.int .u64 ck) ∧ Y.cell? ⟨q, 3, none⟩ = some (.int .u64 ofs) ∧ Y.cell? ⟨q, 4, none⟩ = some (.int .u32 ln) ∧ Y.cell? ⟨q, 5, none⟩ = some (.slice A k C)) (refine ⟨?_, ?_, ?_, ?_, ?_, ?_, ?_⟩ <;> with_reducible assumption)
      (first
        | (go_simp; go_at_call 25; refine HC.out.mono ?_; rintro e w2 ⟨A', C', rfl, d96, dq0, dq1, dq2, dq3, dq4, dq5, dt, HU⟩; obtain ⟨y0, g0⟩ := Option.isSome_iff_exists.1 (dt 0 (by decide)).1; obtain ⟨y1, g1⟩ := Option.isSome_iff_exists.1 (dt 1 (by decide)).1; obtain ⟨y2, g2⟩ := Option.isSome_iff_exists.1 (dt 2 (by decide)).1; obtain ⟨y3, g3⟩ := Option.isSome_iff_exists.1 (dt 3 (by decide)).1; obtain ⟨y4, g4⟩ := Option.isSome_iff_exists.1 (dt 4 (by decide)).1; obtain ⟨y5, g5⟩ := Option.isSome_iff_exists.1 (dt 5 (by decide)).1; have z0 := (dt 0 (by decide)).2; have z1 := (dt 1 (by decide)).2; have z2 := (dt 2 (by decide)).2; have z3 := (dt 3 (by decide)).2; have z4 := (dt 4 (by decide)).2; have z5 := (dt 5 (by decide)).2; simp only [Nat.add_zero] at g0 z0; obtain ⟨u96, uz, uq0, uq1, uq2, uq3, uq4, uq5, uP, uO⟩ := HU _ rfl; clear HU dt))
    have HF := And.intro uP uO
    revert HF
    generalize hG : World.setCell _ ⟨b, l.length * 6 + 5, none⟩ _ = U at u96 uz ⊢
    clear hG uP uO uq0 uq1 uq2 uq3 uq4 uq5
    intro HF0
    have HF : Hid (PP X (U.setCell ⟨b, 96, none⟩ (.int .i64 ((l.length : Int) + 1))) b (l ++ [(⟨fl, kd, ck, ofs, ln⟩, D)]) ∧ Out (fun k => k = b) W (U.setCell ⟨b, 96, none⟩ (.int .i64 ((l.length : Int) + 1)))) := HF0
    clear HF0
    go_wp2
    go_ret
    exact ⟨by simp [hl], HF.out⟩
end Go.Proofs.Ythmhphjblglcoaa
