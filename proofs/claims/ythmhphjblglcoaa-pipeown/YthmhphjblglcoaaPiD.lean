/- What one call of the document's Add and Take does; of Same and SameAll. -/
import Derived.Test.YthmhphjblglcoaaPiTk
import Derived.Deep.RegionLaw
namespace Go.Proofs.Ythmhphjblglcoaa
open Go.RowKit
set_option linter.unusedVariables false
set_option maxRecDepth 4000
theorem step_append_run {P : Program} {w : World} {ops : Array Oper} {o : Oper} {a : Act} {K : Act → World → Prop} {Q : Exit → Act → World → Prop} {E : Prop} (hg : o.guard = none) (s x : Operand) (t t2 : TypeId)
    (hop : o.op = Op.call { callee := Callee.builtin Builtin.append, args := #[s, x], argTypes := #[t, t2] }) (u y : Value) (hs : a.eval s = u) (hx : a.eval x = y) (v' : Value) (w' : World)
    (hrun : (Builtin.append_ #[t, t2] o.type #[u, y]).run P w = .ok v' w') (hK : K (a.put o.dst v') w') : if Region.wanted o (yielded ops a.tmps) = true then Oper.wp P o a w K Q else E := by
  have hw : Region.wanted o (yielded ops a.tmps) = true := by simp [Region.wanted, hg]
  rw [if_pos hw]
  unfold Oper.wp
  simp [execOp, hop, resolve, invoke, builtin, hs, hx, hrun, Result.andThen]
  exact hK
theorem wpList_append_run {P : Program} {w : World} {ops : Array Oper} {rest : List Oper} {o : Oper} {a : Act} {Q : Exit → Act → World → Prop} (hg : o.guard = none) (s x : Operand) (t t2 : TypeId)
    (hop : o.op = Op.call { callee := Callee.builtin Builtin.append, args := #[s, x], argTypes := #[t, t2] }) (u y : Value) (hs : a.eval s = u) (hx : a.eval x = y) (v' : Value) (w' : World)
    (hrun : (Builtin.append_ #[t, t2] o.type #[u, y]).run P w = .ok v' w') (hK : wpList P ops Q rest (a.put o.dst v') w') : wpList P ops Q (o :: rest) a w := by
  refine wpList_plain hg fun _ hK' => ?_
  unfold Oper.wp
  simp [execOp, hop, resolve, invoke, builtin, hs, hx, hrun, Result.andThen]
  exact hK' _ _ hK
theorem app_req {W : World} {a : Option Addr} {n c : Nat} {xs : List Value} (h : W.ownsRow 0 34 6 (.slice a n c) n xs) (r : Rq) (a1 : Option Addr) (n1 c1 : Nat) (hle : n + 1 ≤ 100000) :
    ∃ a' c' w', (Builtin.append_ #[43, 43] 43 #[.slice a n c, .slice (some ⟨W.heap.size, 0, none⟩) 1 1]).run Try.prog (W.alloc (.cells #[.int .u16 r.fl, .int .u16 r.kd, .int .u64 r.ck, .int .u64 r.ofs, .int .u32 r.ln, .slice a1 n1 c1] 34)) = .ok (.slice a' (n + 1) c') w' ∧ w'.ownsRow 0 34 6 (.slice a' (n + 1) c') (n + 1) (xs ++ rqL r (.slice a1 n1 c1)) ∧ Out (fun k => (Value.slice a n c).ownBlock = some k) W w' ∧ ((Value.slice a' (n + 1) c').ownBlock = (Value.slice a n c).ownBlock ∨ ∀ g, (Value.slice a' (n + 1) c').ownBlock = some g → W.heap.size ≤ g) := by
  have h1 := h.alloc (.cells (rqL r (.slice a1 n1 c1)).toArray 34)
  obtain ⟨v', w', hrun, hown', hgrow, hbl⟩ := run_app (e := 34) (t := 43) (ty := 43) (size := 6) (bytes := 56) Try.under_reqs Try.zero_request rfl (by decide) (by decide) h1 ⟨W.heap.size, 0, none⟩ 1 1 (rqL r (.slice a1 n1 c1)) rfl (by
    intro j u hj
    rw [Addr.add_mid, Nat.zero_add, World.cell?_alloc_mark]
    simpa using hj) (rqL_one r a1 n1 c1) (by omega)
  obtain ⟨a', c', rfl⟩ : ∃ a' c', v' = .slice a' (n + 1) c' := own_slice hown'
  refine ⟨a', c', w', hrun, hown', ((Out.refl (fun k => (Value.slice a n c).ownBlock = some k) W).alloc _).grown hgrow (fun k hk => .inl hk), ?_⟩
  rcases hbl with h | h
  · exact .inl h
  · exact .inr fun g hg => by have := h g hg; simp at this; omega
/-- The document's pipe changes its own block and the row alone. -/
def DpO (w : World) (b : Nat) : Nat → Prop := fun k => k = b ∨ (b ≤ k ∧ ∃ cur, w.heap[k]? = some (.cells cur 34 (0, 0)))
set_option maxHeartbeats 2000000 in
theorem dpAdd_of {X : Nat → Prop} {W : World} {b : Nat} {l : List Pq} (p : Pq) (A : Option Addr) (k C : Nat) (h : PD X W b l) (hD : DIn W A k C p.2) (hk : k ≤ 100) (hf : p.1.Fits) (hX : ∀ x, W.heap.size ≤ x → X x) :
    Calls Try.prog 14 #[.pointer (some ⟨b, 0, none⟩), .agg (rqL p.1 (.slice A k C)).toArray] W fun e w' => e = .returned (.bool (decide (l.length < 16))) ∧ PD X w' b (addL l p) ∧ Out (DpO W b) W w' := by
  obtain ⟨q, hq⟩ : ∃ q, q = W.heap.size := ⟨_, rfl⟩
  have hbW : Below W.heap.size W (W.alloc (.cells (rqL p.1 (.slice A k C)).toArray 34)) := (Below.refl _ _).alloc (Nat.le_refl _) _
  have b0 : Blk (W.alloc (.cells (rqL p.1 (.slice A k C)).toArray 34)) q (rqL p.1 (.slice A k C)) 34 := Blk.new' hq.symm rfl
  have HP : Hid (PD X (W.alloc (.cells (rqL p.1 (.slice A k C)).toArray 34)) b l ∧ DIn (W.alloc (.cells (rqL p.1 (.slice A k C)).toArray 34)) A k C p.2 ∧ Below W.heap.size W (W.alloc (.cells (rqL p.1 (.slice A k C)).toArray 34)) ∧ Blk (W.alloc (.cells (rqL p.1 (.slice A k C)).toArray 34)) q (rqL p.1 (.slice A k C)) 34) := ⟨h.below hbW, hD.alloc _, hbW, b0⟩
  have HQ : Hid (q = W.heap.size ∧ ∀ x, W.heap.size ≤ x → X x) := ⟨hq, hX⟩
  have hl16 := h.few
  obtain ⟨⟨fl, kd, ck, ofs, ln⟩, D⟩ := p
  clear h hD hbW b0 hX
  by_cases e16 : l.length = 16
  · rw [show addL l (⟨fl, kd, ck, ofs, ln⟩, D) = l by simp [addL, e16]]
    go_enter Try.func14, Try.ntmps14
    go_upto_region 1 with fail
    generalize hW : World.alloc W _ = W1 at HP ⊢
    clear hW
    go_wp2_with (go_at_call 21; refine (dpFull_of HP.out.1).mono ?_; rintro e V ⟨rfl, rfl⟩; rw [e16])
    go_ret
    exact ⟨by simp [e16], HP.out.1, below_out _ HP.out.2.2.1⟩
  · rw [show addL l (⟨fl, kd, ck, ofs, ln⟩, D) = l ++ [(⟨fl, kd, ck, ofs, ln⟩, D)] by simp [addL, e16]]
    have hl : l.length < 16 := by omega
    go_enter Try.func14, Try.ntmps14
    go_upto_region 1 with fail
    rw [← hq]
    generalize hW : World.alloc W _ = W1 at HP ⊢
    clear hW hq
    go_wp2_with (go_at_call 21; refine (dpFull_of HP.out.1).mono ?_; rintro e V ⟨rfl, rfl⟩; simp only [e16, decide_false])
    obtain ⟨hP, hD, hB, hQ⟩ := HP.out
    obtain ⟨h1, v, vs, hb, hrow, hq, hhi⟩ := hP
    obtain ⟨A0, C0, rfl⟩ := own_slice hrow
    have HC : Hid (Calls Try.prog 26 #[.agg #[.int .u16 fl, .int .u16 kd, .int .u64 ck, .int .u64 ofs, .int .u32 ln, .slice A k C]] V.drew fun e w2 => ∃ A' C', e = .returned (.agg #[.int .u16 fl, .int .u16 kd, .int .u64 ck, .int .u64 ofs, .int .u32 ln, .slice A' k C']) ∧ w2.cell? ⟨b, 0, none⟩ = some (.slice A0 l.length C0) ∧ (w2.alloc (.cells #[.int .u16 fl, .int .u16 kd, .int .u64 ck, .int .u64 ofs, .int .u32 ln, .slice A' k C'] 34)).cell? ⟨b, 0, none⟩ = some (.slice A0 l.length C0) ∧ ∃ a9 c9 w9, (Builtin.append_ #[43, 43] 43 #[.slice A0 l.length C0, .slice (some ⟨w2.heap.size, 0, none⟩) 1 1]).run Try.prog (w2.alloc (.cells #[.int .u16 fl, .int .u16 kd, .int .u64 ck, .int .u64 ofs, .int .u32 ln, .slice A' k C'] 34)) = .ok (.slice a9 (l.length + 1) c9) w9 ∧ w9.cell? ⟨b, 0, none⟩ = some (.slice A0 l.length C0) ∧ w9.frozen? ⟨b, 0, none⟩ = false ∧ PD X (w9.setCell ⟨b, 0, none⟩ (.slice a9 (l.length + 1) c9)) b (l ++ [(⟨fl, kd, ck, ofs, ln⟩, D)]) ∧ Out (DpO W b) W (w9.setCell ⟨b, 0, none⟩ (.slice a9 (l.length + 1) c9))) := by
      refine (lent_of (⟨fl, kd, ck, ofs, ln⟩, D) A k C V.drew (hD.below (Below.refl _ _).drew) hk hf).mono ?_
      rintro e w2 ⟨A', C', rfl, hd, hbl⟩
      have hVs : W.heap.size ≤ V.heap.size := hB.size
      have hbl' : Below V.heap.size V w2 := (Below.refl _ _).drew.trans hbl
      have hb2 : Blk w2 b [.slice A0 l.length C0] 51 := hb.drew.below hbl hb.lt
      have hrow2 : w2.ownsRow 0 34 6 (.slice A0 l.length C0) l.length (rqC l vs) := (below_out Non hbl').own hrow (fun _ _ e => e)
      obtain ⟨a9, c9, w9, e9, o9, b9, g9⟩ := app_req hrow2 ⟨fl, kd, ck, ofs, ln⟩ A' k C' (by omega)
      have hrb : ∀ g, (Value.slice A0 l.length C0).ownBlock = some g → g ≠ b ∧ ∃ cur, V.heap[g]? = some (.cells cur 34 (0, 0)) := fun g hg => by
        obtain ⟨cur, hc⟩ := own_at_block hrow hg
        refine ⟨?_, cur, hc⟩
        rintro rfl
        have e1 : V.heap[g]? = some (.cells #[.slice A0 l.length C0] 51 (0, 0)) := hb
        rw [hc] at e1
        simp only [Option.some.injEq, Obj.cells.injEq] at e1
        exact absurd e1.2.1 (by decide)
      have hb9 : Blk w9 b [.slice A0 l.length C0] 51 := b9.blk hb2 (fun hg => (hrb b hg).1 rfl)
      have hd2 : QsD X w2 (l ++ [(⟨fl, kd, ck, ofs, ln⟩, D)]) (vs ++ [.slice A' k C']) := (hq.below hbl').snoc (hd.wider (fun x hx _ => HQ.out.2 x (Nat.le_trans hVs hx)))
      have hty : ∀ c cur, w2.heap[c]? = some (.cells cur 5 (0, 0)) → ¬ (Value.slice A0 l.length C0).ownBlock = some c := fun c cur hc hg => by
        obtain ⟨cur', hc'⟩ := own_at_block hrow2 hg
        rw [hc] at hc'
        simp only [Option.some.injEq, Obj.cells.injEq] at hc'
        exact absurd hc'.2.1 (by decide)
      have hd9 := hd2.out b9 (fun c cur _ hc => hty c cur hc)
      have hne9 : ∀ g, (Value.slice a9 (l.length + 1) c9).ownBlock = some g → g ≠ b := fun g hg => by
        rcases g9 with e | e
        · exact (hrb g (by rw [← e]; exact hg)).1
        · have := e g hg; have := hb2.lt; omega
      refine ⟨A', C', rfl, hb2.cell 0, (hb2.alloc _).cell 0, a9, c9, w9, e9, hb9.cell 0, hb9.frozen 0, ⟨by simp; omega, _, vs ++ [.slice A' k C'], hb9.set 0 _, ?_, ?_, fun g hg => ?_⟩, ?_⟩
      · rw [← rqC_snoc _ _ _ _ hq.1, List.length_append]
        exact (Out.setCell (O := fun x => x = b) (p := ⟨b, 0, none⟩) (Out.refl _ _) (.inl rfl) _).own o9 (fun g hg => hne9 g hg)
      · exact hd9.out (Out.setCell (O := fun x => x = b) (p := ⟨b, 0, none⟩) (Out.refl _ _) (.inl rfl) _) (fun c cur _ hc => blk_type hb9 hc dpipe_not_u8)
      · rcases g9 with e | e
        · exact hhi g (by rw [← e]; exact hg)
        · have := e g hg; have := hb2.lt; omega
      · refine Out.setCell (((below_out _ hB).trans (below_out (DpO W b) hbl') (fun j e => .inl e)).trans b9 (fun j e => ?_)) (.inl (.inl rfl)) _
        obtain ⟨_, cur, hc⟩ := hrb j e
        by_cases hj : j < W.heap.size
        · exact .inl (.inr ⟨hhi j e, cur, by rw [← hB.block j hj]; exact hc⟩)
        · exact .inr (by omega)
    have c0 : V.drew.cell? ⟨b, 0, none⟩ = some (.slice A0 l.length C0) := hb.cell 0
    have q0 : V.drew.cell? ⟨q, 0, none⟩ = some (.int .u16 fl) := hQ.cell 0
    have q1 : V.drew.cell? ⟨q, 1, none⟩ = some (.int .u16 kd) := hQ.cell 1
    have q2 : V.drew.cell? ⟨q, 2, none⟩ = some (.int .u64 ck) := hQ.cell 2
    have q3 : V.drew.cell? ⟨q, 3, none⟩ = some (.int .u64 ofs) := hQ.cell 3
    have q4 : V.drew.cell? ⟨q, 4, none⟩ = some (.int .u32 ln) := hQ.cell 4
    have q5 : V.drew.cell? ⟨q, 5, none⟩ = some (.slice A k C) := hQ.cell 5
    have c0' : V.cell? ⟨b, 0, none⟩ = some (.slice A0 l.length C0) := c0
    have q0' : V.cell? ⟨q, 0, none⟩ = some (.int .u16 fl) := q0
    have q1' : V.cell? ⟨q, 1, none⟩ = some (.int .u16 kd) := q1
    have q2' : V.cell? ⟨q, 2, none⟩ = some (.int .u64 ck) := q2
    have q3' : V.cell? ⟨q, 3, none⟩ = some (.int .u64 ofs) := q3
    have q4' : V.cell? ⟨q, 4, none⟩ = some (.int .u32 ln) := q4
    have q5' : V.cell? ⟨q, 5, none⟩ = some (.slice A k C) := q5
    clear hD hB hQ hb hrow hq hhi h1 q0 q1 q2 q3 q4 q5 c0
    go_region_law (first
      | (go_simp; go_at_call 26; refine HC.out.mono ?_; rintro e w2 ⟨A', C', rfl, d0, d1, a9, c9, w9, e9, f0, z0, k1, k2⟩)
      | (refine step_append_run rfl (.tmp 13) (.tmp 16) 43 43 rfl _ _ rfl rfl _ _ e9 ?_))
    all_goals (
      revert k1 k2
      generalize World.setCell w9 _ _ = U
      intro k1 k2
      have HK : Hid (PD X U b (l ++ [(⟨fl, kd, ck, ofs, ln⟩, D)]) ∧ Out (DpO W b) W U) := ⟨k1, k2⟩
      clear k1 k2
      go_wp2
      go_ret
      exact ⟨by simp [hl], HK.out⟩)
end Go.Proofs.Ythmhphjblglcoaa
