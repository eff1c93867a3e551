/- What one call of the document's own Decode does. -/
import Derived.Test.YtggeadjebkhomaaRcDocE
import Derived.Test.YtggeadjebkhomaaWRefT
namespace Go.Proofs.Ytggeadjebkhomaa
open Go.RowKit
set_option linter.unusedVariables false
set_option maxRecDepth 4000

theorem results_cell_two {P : Program} {fn : Func} {p u : Tmp} {ty : TypeId} (h : fn.results = #[.cell p ty, .tmp u]) (tmps : Array Value) (w : World) (g : Nat) (L : List Value) (t : TypeId) (d : TypeDesc) (hp : tmps.getD p undef = .pointer (some ⟨g, 0, none⟩))
    (hb : Blk w g L t) (hu : P.underlying ty = some d) (hd : d.isRow = true) (hi : (P.info? ty).map (·.size) = some L.length) (x : Value) (hx : tmps.getD u undef = x) : (results fn tmps).run P w = .ok (.tuple #[.agg L.toArray, x]) w := by
  subst hx
  have hl := run_loadVar_row (P := P) w g t ty L.toArray (0, 0) d hb hu (by cases d <;> first | rfl | cases hd) (by simpa using hi)
  have : (results fn tmps).run P w = ((asAddr (tmps.getD p undef)).run P w).andThen fun a w₁ => ((loadVar ty a).run P w₁).andThen fun z w₂ => .ok (.tuple #[z, tmps.getD u undef]) w₂ := by
    simp only [results, h]
    simp [Sem.run_bind, Result.andThen]
  rw [this, hp]
  simp [asAddr, hl, Result.andThen]
theorem rows_apart {w : World} {b1 b2 s1 s2 : Nat} {t e : TypeId} {v u : Value} {n m : Nat} {xs ys : List Value} (h : w.ownsRow b1 t s1 v n xs) (k : w.ownsRow b2 e s2 u m ys) (hte : t ≠ e) : v.ownBlock = none ∨ v.ownBlock ≠ u.ownBlock := by
  rcases h.2 with ⟨hv, _⟩ | ⟨g, cap, cur, hv, hb, hg, _⟩
  · left; rw [hv]; rfl
  · right
    rcases k.2 with ⟨hu, _⟩ | ⟨g', cap', cur', hu, hb', hg', _⟩
    · rw [hv, hu]; simp [Value.ownBlock]
    · rw [hv, hu]
      intro e1
      simp only [Value.ownBlock, Option.some.injEq] at e1
      subst e1
      rw [hg] at hg'
      cases hg'
      exact hte rfl
theorem row_set {w : World} {base s : Nat} {t T : TypeId} {v : Value} {n q : Nat} {zs L : List Value} (h : w.ownsRow base t s v n zs) (hb : Blk w q L T) (ht : t ≠ T) (i : Nat) (u : Value) : (w.setCell ⟨q, i, none⟩ u).ownsRow base t s v n zs := by
  refine ⟨h.1, ?_⟩
  rcases h.2 with h2 | ⟨g, cap, cur, hv, hbg, hg, hr⟩
  · exact .inl h2
  · have hne : g ≠ q := by
      rintro rfl
      unfold Blk at hb
      rw [hg] at hb
      cases hb
      exact ht rfl
    exact .inr ⟨g, cap, cur, hv, hbg, by rw [Below.heap_setCell _ _ _ _ hne]; exact hg, hr⟩
theorem row_below {w w' : World} {base s : Nat} {t : TypeId} {v : Value} {n : Nat} {zs : List Value} (h : w.ownsRow base t s v n zs) (hb : Below w.heap.size w w') : w'.ownsRow base t s v n zs := by
  refine ⟨h.1, ?_⟩
  rcases h.2 with h2 | ⟨g, cap, cur, hv, hbg, hg, hr⟩
  · exact .inl h2
  · exact .inr ⟨g, cap, cur, hv, hbg, by rw [hb.block g (Array.getElem?_eq_some_iff.1 hg).1]; exact hg, hr⟩
theorem app_item2 {W : World} {base : Nat} {a : Option Addr} {n c : Nat} {xs : List It} (h : W.ownsRow base 47 5 (.slice a n c) n (itC xs)) (x : It) (hle : n + 1 ≤ 100000) (hb : base ≤ W.heap.size) :
    ∃ a' c' w', (Builtin.append_ #[23, 23] 23 #[.slice a n c, .slice (some ⟨W.heap.size, 0, none⟩) 1 1]).run Try.prog (W.alloc (.cells #[.int .u32 x.t, .int .u64 x.b, .int .u8 x.k, .int .u32 x.s, .int .u16 x.e] 47)) = .ok (.slice a' (n + 1) c') w' ∧ w'.ownsRow base 47 5 (.slice a' (n + 1) c') (n + 1) (itC (xs ++ [x])) ∧ Below base W w' ∧ (∀ (t b m : Nat) (v : Value) (zs : List Value), t ≠ 47 → W.ownsRow b t 1 v m zs → w'.ownsRow b t 1 v m zs) := by
  obtain ⟨i0, hi, hz0, hz1, hz2⟩ := info_parts Try.zero_item
  obtain ⟨v', w', hrun, hown', hgrow, _⟩ := run_append_own (P := Try.prog) (W.alloc (.cells (itL x).toArray 47)) base 23 23 47 i0 _ 5 32 Try.underlying23 hi hz0 hz1 hz2 rfl (by decide) _ n (itC xs) (h.alloc _) ⟨W.heap.size, 0, none⟩ 1 1 (itL x) rfl (by
    intro j u hj
    rw [Addr.add_mid, Nat.zero_add, World.cell?_alloc_mark]
    simpa using hj) (itL_one x) (by unfold maxLen; omega) (by omega) (by simp; omega)
  rw [itC_snoc] at hown'
  obtain ⟨a', c', rfl⟩ : ∃ a' c', v' = .slice a' (n + 1) c' := by
    rcases hown'.2 with ⟨hv, hn⟩ | ⟨g, cap, cur, hv, _⟩
    · omega
    · exact ⟨_, _, hv⟩
  exact ⟨a', c', w', hrun, hown', ((Below.refl base W).alloc hb _).grown hgrow (by simp; omega) (fun k hk => (h.lt k hk).1), fun t b m v zs hte ho => (ho.alloc (.cells (itL x).toArray 47)).kept hgrow (rows_apart (ho.alloc (.cells (itL x).toArray 47)) (h.alloc (.cells (itL x).toArray 47)) hte)⟩

/-! ### The state between two items -/
structure DdSt (q : Nat) (w wr : World) (q5 g : Nat) (S : Int) (N : Nat) (A : Option Addr) (i C : Nat) (xs : List It) (R : Option Addr) (m F : Nat) (ys : List Int) : Prop where
  res : Blk wr q [.int .u64 0, .slice none 0 0] 25
  rc : Blk wr q5 [.int .u64 S, .slice A i C] 25
  own : wr.ownsRow (q5 + 1) 47 5 (.slice A i C) i (itC xs)
  cnt : wr.cell? ⟨g, 3, none⟩ = some (.int .u64 (N : Int))
  rest : wr.ownsRow (q + 1) 5 1 (.slice R m F) m (u8s ys)
  bel : Below q w wr
  lt : q < q5
  glt : g < q5
  heap : q = w.heap.size
section
variable {q : Nat} {w wr w' : World} {q5 g : Nat} {S : Int} {N : Nat} {A : Option Addr} {i C : Nat} {xs : List It} {R : Option Addr} {m F : Nat} {ys : List Int}
theorem DdSt.below (h : DdSt q w wr q5 g S N A i C xs R m F ys) (hb : Below wr.heap.size wr w') : DdSt q w w' q5 g S N A i C xs R m F ys := by
  have h1 := h.rc.lt
  have h2 := h.lt
  have h3 := h.glt
  exact ⟨h.res.below hb h.res.lt, h.rc.below hb h1, row_below h.own hb, by rw [hb.cell (show g < wr.heap.size by omega)]; exact h.cnt, row_below h.rest hb, h.bel.trans (hb.mono (by omega)), h2, h3, h.heap⟩
theorem DdSt.left (h : DdSt q w wr q5 g S N A i C xs R m F ys) {R' : Option Addr} {m' F' : Nat} {ys' : List Int} (hr : wr.ownsRow (q + 1) 5 1 (.slice R' m' F') m' (u8s ys')) : DdSt q w wr q5 g S N A i C xs R' m' F' ys' :=
  ⟨h.res, h.rc, h.own, h.cnt, hr, h.bel, h.lt, h.glt, h.heap⟩
theorem DdSt.more {A' : Option Addr} {C' : Nat} {x : It} (h : DdSt q w wr q5 g S N A i C xs R m F ys) (ho : w'.ownsRow (q5 + 1) 47 5 (.slice A' (i + 1) C') (i + 1) (itC (xs ++ [x]))) (hb : Below (q5 + 1) wr w') (hr : w'.ownsRow (q + 1) 5 1 (.slice R m F) m (u8s ys)) : DdSt q w (w'.setCell ⟨q5, 1, none⟩ (.slice A' (i + 1) C')) q5 g S N A' (i + 1) C' (xs ++ [x]) R m F ys := by
  have h2 := h.lt
  have h3 := h.glt
  have hrc := h.rc.below hb (by omega)
  refine ⟨(h.res.below hb (by omega)).set_other (by show q ≠ q5; omega) _, hrc.set 1 _, ownsItems_set ho (by show q5 < q5 + 1; omega) _, ?_, row_set hr hrc (by decide) 1 _, (h.bel.trans (hb.mono (by omega))).setCell (by show q ≤ q5; omega) _, h2, h3, h.heap⟩
  have hc : w'.cell? ⟨g, 3, none⟩ = some (.int .u64 (N : Int)) := by rw [hb.cell (show g < q5 + 1 by omega)]; exact h.cnt
  exact kept_set hc (by show g ≠ q5; omega)
end
def DDec (w : World) (bs : List Int) (e : Ending) (w' : World) : Prop :=
  ∃ A n C, e = .returned (.tuple #[.agg #[.int .u64 (decS bs), .slice A n C], .int .i64 (decE bs)]) ∧ ItsIn w' A n (decX bs) ∧ Below w.heap.size w w'
theorem ddec_no {w V : World} {bs : List Int} (h : Below w.heap.size w V) (hno : ¬ IsR bs) : DDec w bs (.returned (.tuple #[.agg #[.int .u64 0, .slice none 0 0], .int .i64 111])) V := by
  refine ⟨none, 0, 0, ?_⟩
  unfold decS decE decX
  rw [if_neg hno, if_neg hno, if_neg hno]
  exact ⟨rfl, itsIn_none _, h⟩
theorem ddec_yes {w V : World} {bs : List Int} {A : Option Addr} {n C : Nat} (h : Below w.heap.size w V) (hy : IsR bs) (hi : ItsIn V A n (rdIts bs)) : DDec w bs (.returned (.tuple #[.agg #[.int .u64 (rdSeq bs), .slice A n C], .int .i64 0])) V := by
  refine ⟨A, n, C, ?_⟩
  unfold decS decE decX
  rw [if_pos hy, if_pos hy, if_pos hy]
  exact ⟨rfl, hi, h⟩
/-- The result's cell is emptied, in whatever world. -/
theorem emptied {w V : World} {bs : List Int} {q : Nat} (hq : q = w.heap.size) (hb : Blk V q [.int .u64 0, .slice none 0 0] 25) (bel : Below q w V) (hno : ¬ IsR bs) :
    Blk ((V.setCell ⟨q, 0, none⟩ (.int .u64 0)).setCell ⟨q, 1, none⟩ (.slice none 0 0)) q [.int .u64 0, .slice none 0 0] 25 ∧ DDec w bs (.returned (.tuple #[.agg #[.int .u64 0, .slice none 0 0], .int .i64 111])) ((V.setCell ⟨q, 0, none⟩ (.int .u64 0)).setCell ⟨q, 1, none⟩ (.slice none 0 0)) :=
  ⟨(hb.set 0 _).set 1 _, ddec_no (by rw [← hq]; exact (bel.setCell (p := ⟨q, 0, none⟩) (Nat.le_refl _) _).setCell (p := ⟨q, 1, none⟩) (Nat.le_refl _) _) hno⟩
theorem tv_hd {bs : List Int} (h : 18 ≤ bs.length) : takeV bs hdW = [rdM bs, numI ((bs.drop 4).take 4), rdSeq bs, rdN bs] ∧ takeR bs hdW = bs.drop 18 := by
  unfold takeV takeR
  rw [off_hd, if_pos h, if_pos h, val_hd]
  exact ⟨rfl, rfl⟩
theorem tv_it {ys : List Int} (h : 19 ≤ ys.length) : takeV ys itW = itV (rdI ys) ∧ takeR ys itW = ys.drop 19 := by
  unfold takeV takeR
  rw [off_it, if_pos h, if_pos h, val_it]
  exact ⟨rfl, rfl⟩
set_option maxHeartbeats 2000000 in
theorem dDecode_of (a : Option Addr) (n c : Nat) (bs : List Int) (w : World) (hx : BIn w a n bs) (hnil : a = none → n = 0 ∧ c = 0) (hnc : n ≤ c) (hn : n ≤ 100000) :
    Calls Try.prog 17 #[.slice a n c] w (DDec w bs) := by
  obtain ⟨q, hq⟩ : ∃ q, q = w.heap.size := ⟨_, rfl⟩
  have r0 : Blk (w.alloc (.cells #[.int .u64 0, .slice none 0 0] 25)) q [.int .u64 0, .slice none 0 0] 25 := Blk.new' hq.symm rfl
  have bw : Below q w (w.alloc (.cells #[.int .u64 0, .slice none 0 0] 25)) := (Below.refl _ _).alloc (by omega) _
  have hsz : (w.alloc (.cells #[.int .u64 0, .slice none 0 0] 25)).heap.size = q + 1 := by simp [hq]
  have H : Hid (BIn w a n bs ∧ (a = none → n = 0 ∧ c = 0) ∧ n ≤ c ∧ q = w.heap.size) := ⟨hx, hnil, hnc, hq⟩
  clear hx hnil hnc
  go_enter Try.func17, Try.ntmps17
  go_upto_region 1 with fail
  rw [← hq]
  clear hq
  generalize hW : World.alloc w _ = W at r0 bw hsz ⊢
  have HW : Hid (Blk W q [.int .u64 0, .slice none 0 0] 25 ∧ Below q w W ∧ W.heap.size = q + 1) := ⟨r0, bw, hsz⟩
  clear r0 bw hsz hW
  go_wp2_with fail
  refine (refTake_of a n c bs (some ⟨W.heap.size, 0, none⟩) 4 4 hdW _ ((H.out.1.below (by rw [← H.out.2.2.2]; exact HW.out.2.1)).alloc _) H.out.2.1 H.out.2.2.1 (nin_hd rfl) hn (by omega)).mono ?_
  rw [off_hd, H.out.1.1]
  rintro e V ⟨A, k, D, R, r, F, rfl, ow, ow3, bl⟩
  have hW1 := HW.out.2.2
  have blV : Below (q + 1) W V := ((Below.refl (q + 1) W).alloc (by omega) _).trans (bl.mono (by simp; omega))
  have HB : Hid (Blk V q [.int .u64 0, .slice none 0 0] 25 ∧ Below q w V ∧ q + 1 ≤ V.heap.size) := ⟨HW.out.1.below blV (by omega), HW.out.2.1.trans (blV.mono (by omega)), by have := blV.size; omega⟩
  by_cases h18 : 18 ≤ n
  rotate_left
  · rw [decide_eq_false h18]
    have hno : ¬ IsR bs := fun h => by have := h.bounds; have := H.out.1.1; omega
    have bb : ∀ j, Blk (V.drewN j) q [.int .u64 0, .slice none 0 0] 25 := fun j => HB.out.1.below (below_drewN (Below.refl _ _) j) HB.out.1.lt
    have HE : Hid (∀ j, Blk (((V.drewN j).setCell ⟨q, 0, none⟩ (.int .u64 0)).setCell ⟨q, 1, none⟩ (.slice none 0 0)) q [.int .u64 0, .slice none 0 0] 25 ∧ DDec w bs (.returned (.tuple #[.agg #[.int .u64 0, .slice none 0 0], .int .i64 111])) (((V.drewN j).setCell ⟨q, 0, none⟩ (.int .u64 0)).setCell ⟨q, 1, none⟩ (.slice none 0 0))) := fun j => emptied H.out.2.2.2 (bb j) (below_drewN HB.out.2.1 j) hno
    have d0 : ∀ j, (V.drewN j).cell? ⟨q, 0, none⟩ = some (.int .u64 0) := fun j => (bb j).cell 0
    have d1 : ∀ j, (V.drewN j).cell? ⟨q, 1, none⟩ = some (.slice none 0 0) := fun j => (bb j).cell 1
    have z0 := fun j => (bb j).frozen 0
    have z1 := fun j => (bb j).frozen 1
    clear bb hno h18 ow ow3 bl blV hW1
    go_wp2
    go_quiet (fail)
    go_wp2
    exact bodyPost_ret (results_cell_two (p := 2) (u := 3) (ty := 25) rfl _ _ q _ _ _ rfl (HE.out _).1 Try.underlying25 rfl Try.info_record _ rfl) rfl (HE.out _).2
  · rw [decide_eq_true h18]
    have hbl := H.out.1.1
    rw [(tv_hd (bs := bs) (by omega)).1] at ow
    rw [(tv_hd (bs := bs) (by omega)).2] at ow3
    obtain ⟨g, rfl, hk, hg, hkC, hc⟩ := cown_at ow (by simp)
    have hk4 : k = 4 := by simpa using hk
    subst hk4
    have c2 : V.cell? ⟨g, 2, none⟩ = some (.int .u64 (rdSeq bs)) := hc 2 (by simp)
    have c3 : V.cell? ⟨g, 3, none⟩ = some (.int .u64 (rdN bs)) := hc 3 (by simp)
    have hgl : g < V.heap.size := old_block c3
    have hNf := rdN_fits H.out.1.2.2.1
    have hIf := rdL_fits (rdN bs).toNat (ys := bs.drop 18) (fun z hz => H.out.1.2.2.1 z (List.mem_of_mem_drop hz))
    obtain ⟨S, hS⟩ : ∃ S, S = rdSeq bs := ⟨_, rfl⟩
    obtain ⟨N, hN⟩ : ∃ N : Nat, rdN bs = N := ⟨(rdN bs).toNat, by have := hNf.1; omega⟩
    rw [← hS] at c2
    rw [hN] at c3
    have hr : r = n - 18 := by have := ow3.1; rw [u8s_length, List.length_drop, hbl] at this; omega
    have hNs : N < 65536 := by have := hNf.2; omega
    have HF : Hid (S = rdSeq bs ∧ (rdN bs).toNat = N ∧ rdIts bs = rdL N (bs.drop 18) ∧ (∀ x ∈ rdL N (bs.drop 18), x.Fits) ∧ bs.length = n ∧ (rdIts bs).length = N ∧ r = n - 18 ∧ g < V.heap.size ∧ FitsU S) := ⟨hS, by omega, by unfold rdIts; rw [hN]; rfl, by rw [hN] at hIf; exact hIf, hbl, by unfold rdIts; rw [rdL_length]; omega, hr, hgl, by rw [hS]; exact rdSeq_fits H.out.1.2.2.1⟩
    have H3 : Hid (V.ownsRow (q + 1) 5 1 (.slice R r F) r (u8s (bs.drop 18))) := own_lowerN ow3 (by simp; omega)
    have cR := fun X => dRoom_of (n : Int) X
    obtain ⟨M, hM⟩ : ∃ M, M = roomI (n : Int) := ⟨_, rfl⟩
    simp only [← hM] at cR
    have hMl := room_le (n : Int)
    rw [← hM] at hMl
    have hMw : IntKind.u64.wrap M = M := by rw [IntKind.wrap_u64]; omega
    have HM : Hid (M = roomI (n : Int)) := hM
    clear ow ow3 bl blV hW1 hk hg hkC hc hNf hIf hN hS hM hr hgl hMl hbl
    by_cases hNr : M < (N : Int)
    · have hno : ¬ IsR bs := fun h => by have h1 := h.1.2.1; rw [HF.out.2.2.2.2.2.1, HF.out.2.2.2.2.1, ← HM.out] at h1; omega
      have hnd : decide (M < (N : Int)) = true := by simp [hNr]
      have hbd := HB.out.1.drew
      have HE : Hid (Blk ((V.drew.setCell ⟨q, 0, none⟩ (.int .u64 0)).setCell ⟨q, 1, none⟩ (.slice none 0 0)) q [.int .u64 0, .slice none 0 0] 25 ∧ DDec w bs (.returned (.tuple #[.agg #[.int .u64 0, .slice none 0 0], .int .i64 111])) ((V.drew.setCell ⟨q, 0, none⟩ (.int .u64 0)).setCell ⟨q, 1, none⟩ (.slice none 0 0))) := emptied H.out.2.2.2 hbd HB.out.2.1.drew hno
      clear hNr hno
      go_wp2
      go_region_held3 (fun X => X.cell? ⟨g, 3, none⟩ = some (.int .u64 (N : Int))) (first | exact c3) ((go_at_call 14; refine (cR _).mono ?_; rintro e w2 ⟨rfl, hw2⟩; replace hw2 := hw2.symm; subst hw2))
      generalize World.drew V = V1 at hbd HE ⊢
      have d0 : V1.cell? ⟨q, 0, none⟩ = some (.int .u64 0) := hbd.cell 0
      have d1 : V1.cell? ⟨q, 1, none⟩ = some (.slice none 0 0) := hbd.cell 1
      have z0 := hbd.frozen 0
      have z1 := hbd.frozen 1
      clear hbd
      go_wp2
      exact bodyPost_ret (results_cell_two (p := 2) (u := 3) (ty := 25) rfl _ _ q _ _ _ rfl HE.out.1 Try.underlying25 rfl Try.info_record _ rfl) rfl HE.out.2
    · have hnd : decide (M < (N : Int)) = false := by simp; omega
      have hroom : 0 < N → 19 + 19 * N ≤ n := fun h => by
        have h1 := (room_bounds (b := (n : Int)) (by rw [← HM.out]; omega)).2
        rw [← HM.out] at h1
        omega
      have HR : Hid (0 < N → 19 + 19 * N ≤ n) := hroom
      have hvd : Hid (Blk V.drew q [.int .u64 0, .slice none 0 0] 25 ∧ Below q w V.drew ∧ q + 1 ≤ V.drew.heap.size ∧ V.drew.ownsRow (q + 1) 5 1 (.slice R r F) r (u8s (bs.drop 18)) ∧ g < V.drew.heap.size) := ⟨HB.out.1.drew, HB.out.2.1.drew, HB.out.2.2, H3.out.drew, HF.out.2.2.2.2.2.2.2.1⟩
      have e2 : V.drew.cell? ⟨g, 2, none⟩ = some (.int .u64 S) := c2
      have e3 : V.drew.cell? ⟨g, 3, none⟩ = some (.int .u64 (N : Int)) := c3
      clear hNr hroom
      go_wp2
      go_region_held3 (fun X => X.cell? ⟨g, 3, none⟩ = some (.int .u64 (N : Int))) (first | exact c3) ((go_at_call 14; refine (cR _).mono ?_; rintro e w2 ⟨rfl, hw2⟩; replace hw2 := hw2.symm; subst hw2))
      clear c2 c3 hMw hnd cR
      generalize World.drew V = V1 at hvd e2 e3 ⊢
      obtain ⟨q5, hq5⟩ : ∃ q5, q5 = V1.heap.size := ⟨_, rfl⟩
      have b5 : Below V1.heap.size V1 (V1.alloc (.cells #[.int .u64 S, .slice none 0 0] 25)) := (Below.refl _ _).alloc (Nat.le_refl _) _
      have st0 : DdSt q w (V1.alloc (.cells #[.int .u64 S, .slice none 0 0] 25)) q5 g S N none 0 0 (rdL 0 (bs.drop 18)) R r F (bs.drop (18 + 19 * 0)) :=
        ⟨hvd.out.1.alloc _, Blk.new' hq5.symm rfl, World.ownsRow_nil _ _ _ _, (b5.cell hvd.out.2.2.2.2).trans e3, hvd.out.2.2.2.1.alloc _, hvd.out.2.1.trans (b5.mono (by have := hvd.out.2.2.1; omega)), by have := hvd.out.2.2.1; omega, by have := hvd.out.2.2.2.2; omega, H.out.2.2.2⟩
      clear b5
      go_upto_region 5 with fail
      rw [← hq5]
      generalize hW5 : World.alloc V1 _ = W5 at st0 ⊢
      have H5 : Hid (DdSt q w W5 q5 g S N none 0 0 (rdL 0 (bs.drop 18)) R r F (bs.drop (18 + 19 * 0))) := st0
      clear st0 e2 e3 hq5 hW5
      go_wp2
      go_loopw [5, 8] (fun s x wr => ∃ (i : Nat) (A : Option Addr) (C : Nat) (L : Option Addr) (m c' : Nat), x = .int .u64 i ∧ s = .slice L m c' ∧ i ≤ N ∧ 18 + 19 * i + m = n ∧ DdSt q w wr q5 g S N A i C (rdL i (bs.drop 18)) L m c' (bs.drop (18 + 19 * i))) (fun _ x _ => N - (intOf x).toNat)
      case atStart => exact ⟨0, none, 0, R, r, F, rfl, rfl, Nat.zero_le _, by have := HF.out.2.2.2.2.2.2.1; omega, H5.out⟩
      case round =>
        obtain ⟨i, A, C', L, m, c', rfl, rfl, hi, hmn, st⟩ := hrel
        have cn := st.cnt
        rcases Nat.lt_or_ge i N with hlt | hge
        · have hi' : (i : Int) < N := by omega
          have hwi : IntKind.u64.wrap ((i : Int) + 1) = (i : Int) + 1 := by rw [IntKind.wrap_u64]; omega
          have hm19 : 19 ≤ m := by have := HR.out (by omega); omega
          obtain ⟨ys, hys⟩ : ∃ ys, ys = bs.drop (18 + 19 * i) := ⟨_, rfl⟩
          have hyl : ys.length = m := by rw [hys, List.length_drop, HF.out.2.2.2.2.1]; omega
          have hyf : ∀ z ∈ ys, Fits8 z := by rw [hys]; exact fun z hz => H.out.1.2.2.1 z (List.mem_of_mem_drop hz)
          rw [← hys] at st
          have HT : Hid (DdSt q w wr q5 g S N A i C' (rdL i (bs.drop 18)) L m c' ys ∧ ys = bs.drop (18 + 19 * i) ∧ ys.length = m ∧ (∀ z ∈ ys, Fits8 z) ∧ 19 ≤ m ∧ 18 + 19 * i + m = n) := ⟨st, hys, hyl, hyf, hm19, hmn⟩
          clear st hys hyl hyf hm19
          go_wp2_with fail
          refine (refTake_of L m c' ys (some ⟨wr.heap.size, 0, none⟩) 5 5 itW _ ((own_bin HT.out.1.rest (by unfold maxLen; omega) HT.out.2.2.2.1).alloc _) (cown_nil HT.out.1.rest) (own_capN HT.out.1.rest) (nin_it rfl) (by omega) (by omega)).mono ?_
          rw [off_it, HT.out.2.2.1, (tv_it (ys := ys) (by rw [HT.out.2.2.1]; exact HT.out.2.2.2.2.1)).1, (tv_it (ys := ys) (by rw [HT.out.2.2.1]; exact HT.out.2.2.2.2.1)).2, decide_eq_true HT.out.2.2.2.2.1]
          rintro e V2 ⟨A2, k2, C2, R2, r2, F2, rfl, ow2, ow3, bl2⟩
          obtain ⟨X, hX⟩ : ∃ X, X = rdI ys := ⟨_, rfl⟩
          have hXf : X.Fits := by rw [hX]; exact rdI_fits HT.out.2.2.2.1
          rw [← hX] at ow2
          obtain ⟨gN, rfl, hk5, hgN, _, hcN⟩ := cown_at ow2 (by simp [itV])
          have hk5' : k2 = 5 := by simpa [itV] using hk5
          subst hk5'
          have hr2 : r2 = m - 19 := by have := ow3.1; rw [u8s_length, List.length_drop, HT.out.2.2.1] at this; omega
          subst hr2
          have bw2 : Below wr.heap.size wr V2 := ((Below.refl _ _).alloc (Nat.le_refl _) _).trans (bl2.mono (by simp))
          have hq1 : q + 1 ≤ wr.heap.size := by have := HT.out.1.res.lt; omega
          have st2 := (HT.out.1.below bw2).left (own_lowerN ow3 (by simp; omega))
          have n0 : V2.cell? ⟨gN, 0, none⟩ = some (.int .u64 X.t) := hcN 0 (by simp [itV])
          have n1 : V2.cell? ⟨gN, 1, none⟩ = some (.int .u64 X.b) := hcN 1 (by simp [itV])
          have n2 : V2.cell? ⟨gN, 2, none⟩ = some (.int .u64 X.k) := hcN 2 (by simp [itV])
          have n3 : V2.cell? ⟨gN, 3, none⟩ = some (.int .u64 X.s) := hcN 3 (by simp [itV])
          have n4 : V2.cell? ⟨gN, 4, none⟩ = some (.int .u64 X.e) := hcN 4 (by simp [itV])
          obtain ⟨u0, u2, u3, u4⟩ : IntKind.u32.wrap X.t = X.t ∧ IntKind.u8.wrap X.k = X.k ∧ IntKind.u32.wrap X.s = X.s ∧ IntKind.u16.wrap X.e = X.e := by
            obtain ⟨f0, _, f2, f3, f4⟩ := hXf
            unfold Fits32 at f0 f3
            unfold Fits8 at f2
            unfold Fits16 at f4
            simp only [IntKind.wrap_u32, IntKind.wrap_u8, IntKind.wrap_u16]
            omega
          have m1 : V2.cell? ⟨q5, 1, none⟩ = some (.slice A i C') := st2.rc.cell 1
          have m2 : ∀ o, (V2.alloc o).cell? ⟨q5, 1, none⟩ = some (.slice A i C') := fun o => (st2.rc.alloc o).cell 1
          have st2 := st2.below ((Below.refl _ _).drew)
          obtain ⟨a9, c9, w9, e9', o9, b9, k9⟩ := app_item2 st2.own X (by omega) (by have := st2.rc.lt; omega)
          have e9 : (Builtin.append_ #[23, 23] 23 #[.slice A i C', .slice (some ⟨V2.heap.size, 0, none⟩) 1 1]).run Try.prog (V2.alloc (.cells #[.int .u32 X.t, .int .u64 X.b, .int .u8 X.k, .int .u32 X.s, .int .u16 X.e] 47)).drew = .ok (.slice a9 (i + 1) c9) w9 := e9'
          have rc9 := st2.rc.below b9 (by omega)
          have m4 : w9.cell? ⟨q5, 1, none⟩ = some (.slice A i C') := rc9.cell 1
          have m5 := rc9.frozen 1
          have st9 := st2.more o9 b9 (k9 5 _ _ _ _ (by decide) st2.rest)
          have ox9 := k9 22 _ _ _ _ (by decide) (row_below ow2 ((Below.refl _ _).drew))
          have hne : gN ≠ q5 := by have := HT.out.1.rc.lt; simp at hgN; omega
          have r0 : w9.cell? ⟨gN, 0, none⟩ = some (.int .u64 X.t) := (ox9.cellAt 0 (by decide)).trans rfl
          have r1 : w9.cell? ⟨gN, 1, none⟩ = some (.int .u64 X.b) := (ox9.cellAt 1 (by decide)).trans rfl
          have r2 : w9.cell? ⟨gN, 2, none⟩ = some (.int .u64 X.k) := (ox9.cellAt 2 (by decide)).trans rfl
          have r3 : w9.cell? ⟨gN, 3, none⟩ = some (.int .u64 X.s) := (ox9.cellAt 3 (by decide)).trans rfl
          have r4 : w9.cell? ⟨gN, 4, none⟩ = some (.int .u64 X.e) := (ox9.cellAt 4 (by decide)).trans rfl
          have t0 : (w9.setCell ⟨q5, 1, none⟩ (.slice a9 (i + 1) c9)).cell? ⟨gN, 0, none⟩ = some (.int .u64 X.t) := kept_set r0 (by show gN ≠ q5; exact hne)
          have t1 : (w9.setCell ⟨q5, 1, none⟩ (.slice a9 (i + 1) c9)).cell? ⟨gN, 1, none⟩ = some (.int .u64 X.b) := kept_set r1 (by show gN ≠ q5; exact hne)
          have t2 : (w9.setCell ⟨q5, 1, none⟩ (.slice a9 (i + 1) c9)).cell? ⟨gN, 2, none⟩ = some (.int .u64 X.k) := kept_set r2 (by show gN ≠ q5; exact hne)
          have t3 : (w9.setCell ⟨q5, 1, none⟩ (.slice a9 (i + 1) c9)).cell? ⟨gN, 3, none⟩ = some (.int .u64 X.s) := kept_set r3 (by show gN ≠ q5; exact hne)
          have t4 : (w9.setCell ⟨q5, 1, none⟩ (.slice a9 (i + 1) c9)).cell? ⟨gN, 4, none⟩ = some (.int .u64 X.e) := kept_set r4 (by show gN ≠ q5; exact hne)
          have p0 : ∀ o, (V2.alloc o).cell? ⟨gN, 0, none⟩ = some (.int .u64 X.t) := fun o => (((Below.refl _ V2).alloc (Nat.le_refl _) o).cell (old_block n0)).trans n0
          have p1 : ∀ o, (V2.alloc o).cell? ⟨gN, 1, none⟩ = some (.int .u64 X.b) := fun o => (((Below.refl _ V2).alloc (Nat.le_refl _) o).cell (old_block n1)).trans n1
          have p2 : ∀ o, (V2.alloc o).cell? ⟨gN, 2, none⟩ = some (.int .u64 X.k) := fun o => (((Below.refl _ V2).alloc (Nat.le_refl _) o).cell (old_block n2)).trans n2
          have p3 : ∀ o, (V2.alloc o).cell? ⟨gN, 3, none⟩ = some (.int .u64 X.s) := fun o => (((Below.refl _ V2).alloc (Nat.le_refl _) o).cell (old_block n3)).trans n3
          have p4 : ∀ o, (V2.alloc o).cell? ⟨gN, 4, none⟩ = some (.int .u64 X.e) := fun o => (((Below.refl _ V2).alloc (Nat.le_refl _) o).cell (old_block n4)).trans n4

          have H9 : Hid (DdSt q w (w9.setCell ⟨q5, 1, none⟩ (.slice a9 (i + 1) c9)) q5 g S N a9 (i + 1) c9 (rdL (i + 1) (bs.drop 18)) R2 (m - 19) F2 (bs.drop (18 + 19 * (i + 1)))) := by
            rw [HT.out.2.1, List.drop_drop] at st9
            have e : rdL (i + 1) (bs.drop 18) = rdL i (bs.drop 18) ++ [X] := by rw [rdL_snoc, List.drop_drop, hX, HT.out.2.1]
            rw [e]
            exact st9
          clear hX hXf ow2 ow3 bl2 hk5 hcN bw2 hq1 st2 o9 b9 k9 rc9 st9 e9' ox9 hne hgN
          go_upto_region 12 with fail
          refine wp_region_held_drew (S := fun Y => Y.cell? ⟨gN, 0, none⟩ = some (.int .u64 X.t) ∧ Y.cell? ⟨gN, 1, none⟩ = some (.int .u64 X.b) ∧ Y.cell? ⟨gN, 2, none⟩ = some (.int .u64 X.k) ∧ Y.cell? ⟨gN, 3, none⟩ = some (.int .u64 X.s) ∧ Y.cell? ⟨gN, 4, none⟩ = some (.int .u64 X.e)) (by kernel_rfl) (by exact ⟨n0, n1, n2, n3, n4⟩) (fun hS => ?_)
          refine wpAnyH_take (i := 0) (oi := { dst := some 56, op := Op.fieldAddr 25 (Operand.tmp 7) 1, type := 0, pos := "ref.go:58", after := #[], guard := none }) (v := .pointer (some ⟨q5, 1, none⟩)) rfl (by kernel_rfl) (by kernel_rfl) (by kernel_rfl) (fun _ _ _ h => h) (Or.inl ⟨by rfl, fun Y hY => by (try dsimp only at hY); go_simp⟩) hS ?_
          simp only [Act.put, List.setIfInBounds_toArray, List.set_cons_zero, List.set_cons_succ]
          refine wpAnyH_take (i := 2) (oi := { dst := some 58, op := Op.move (Operand.tmp 9), type := 55, pos := "ref.go:58", after := #[], guard := none }) (v := .slice (some ⟨gN, 0, none⟩) 5 C2) rfl (by kernel_rfl) (by kernel_rfl) (by kernel_rfl) (fun _ _ _ h => h) (Or.inl ⟨by rfl, fun Y hY => by (try dsimp only at hY); go_simp⟩) hS ?_
          simp only [Act.put, List.setIfInBounds_toArray, List.set_cons_zero, List.set_cons_succ]
          refine wpAnyH_take (i := 3) (oi := { dst := some 59, op := Op.indexAddr 55 (Operand.tmp 58) (Operand.const (Value.int IntKind.i64 0)), type := 0, pos := "ref.go:58", after := #[{ on := 2, ground := Ground.data }], guard := none }) (v := .pointer (some ⟨gN, 0, none⟩)) rfl (by kernel_rfl) (by kernel_rfl) (by kernel_rfl) (fun _ _ _ h => h) (Or.inl ⟨by rfl, fun Y hY => by (try dsimp only at hY); go_simp⟩) hS ?_
          simp only [Act.put, List.setIfInBounds_toArray, List.set_cons_zero, List.set_cons_succ]
          refine wpAnyH_take (i := 4) (oi := { dst := some 60, op := Op.load 22 (Operand.tmp 59), type := 22, pos := "ref.go:58", after := #[{ on := 3, ground := Ground.data }], guard := none }) (v := .int .u64 X.t) rfl (by kernel_rfl) (by kernel_rfl) (by kernel_rfl) (fun _ _ _ h => h) (Or.inl ⟨by rfl, fun Y hY => by (try dsimp only at hY); go_simp⟩) hS ?_
          simp only [Act.put, List.setIfInBounds_toArray, List.set_cons_zero, List.set_cons_succ]
          refine wpAnyH_take (i := 5) (oi := { dst := some 61, op := Op.convert 22 45 (Operand.tmp 60), type := 45, pos := "ref.go:58", after := #[{ on := 4, ground := Ground.data }], guard := none }) (v := .int .u32 X.t) rfl (by kernel_rfl) (by kernel_rfl) (by kernel_rfl) (fun _ _ _ h => h) (Or.inl ⟨by rfl, fun Y hY => by (try dsimp only at hY); go_simp⟩) hS ?_
          simp only [Act.put, List.setIfInBounds_toArray, List.set_cons_zero, List.set_cons_succ]
          refine wpAnyH_take (i := 6) (oi := { dst := some 62, op := Op.move (Operand.tmp 9), type := 55, pos := "ref.go:58", after := #[], guard := none }) (v := .slice (some ⟨gN, 0, none⟩) 5 C2) rfl (by kernel_rfl) (by kernel_rfl) (by kernel_rfl) (fun _ _ _ h => h) (Or.inl ⟨by rfl, fun Y hY => by (try dsimp only at hY); go_simp⟩) hS ?_
          simp only [Act.put, List.setIfInBounds_toArray, List.set_cons_zero, List.set_cons_succ]
          refine wpAnyH_take (i := 7) (oi := { dst := some 63, op := Op.indexAddr 55 (Operand.tmp 62) (Operand.const (Value.int IntKind.i64 1)), type := 0, pos := "ref.go:58", after := #[{ on := 6, ground := Ground.data }], guard := none }) (v := .pointer (some ⟨gN, 1, none⟩)) rfl (by kernel_rfl) (by kernel_rfl) (by kernel_rfl) (fun _ _ _ h => h) (Or.inl ⟨by rfl, fun Y hY => by (try dsimp only at hY); go_simp⟩) hS ?_
          simp only [Act.put, List.setIfInBounds_toArray, List.set_cons_zero, List.set_cons_succ]
          refine wpAnyH_take (i := 8) (oi := { dst := some 64, op := Op.load 22 (Operand.tmp 63), type := 22, pos := "ref.go:58", after := #[{ on := 7, ground := Ground.data }], guard := none }) (v := .int .u64 X.b) rfl (by kernel_rfl) (by kernel_rfl) (by kernel_rfl) (fun _ _ _ h => h) (Or.inl ⟨by rfl, fun Y hY => by (try dsimp only at hY); go_simp⟩) hS ?_
          simp only [Act.put, List.setIfInBounds_toArray, List.set_cons_zero, List.set_cons_succ]
          refine wpAnyH_take (i := 9) (oi := { dst := some 65, op := Op.move (Operand.tmp 9), type := 55, pos := "ref.go:58", after := #[], guard := none }) (v := .slice (some ⟨gN, 0, none⟩) 5 C2) rfl (by kernel_rfl) (by kernel_rfl) (by kernel_rfl) (fun _ _ _ h => h) (Or.inl ⟨by rfl, fun Y hY => by (try dsimp only at hY); go_simp⟩) hS ?_
          simp only [Act.put, List.setIfInBounds_toArray, List.set_cons_zero, List.set_cons_succ]
          refine wpAnyH_take (i := 10) (oi := { dst := some 66, op := Op.indexAddr 55 (Operand.tmp 65) (Operand.const (Value.int IntKind.i64 2)), type := 0, pos := "ref.go:58", after := #[{ on := 9, ground := Ground.data }], guard := none }) (v := .pointer (some ⟨gN, 2, none⟩)) rfl (by kernel_rfl) (by kernel_rfl) (by kernel_rfl) (fun _ _ _ h => h) (Or.inl ⟨by rfl, fun Y hY => by (try dsimp only at hY); go_simp⟩) hS ?_
          simp only [Act.put, List.setIfInBounds_toArray, List.set_cons_zero, List.set_cons_succ]
          refine wpAnyH_take (i := 11) (oi := { dst := some 67, op := Op.load 22 (Operand.tmp 66), type := 22, pos := "ref.go:58", after := #[{ on := 10, ground := Ground.data }], guard := none }) (v := .int .u64 X.k) rfl (by kernel_rfl) (by kernel_rfl) (by kernel_rfl) (fun _ _ _ h => h) (Or.inl ⟨by rfl, fun Y hY => by (try dsimp only at hY); go_simp⟩) hS ?_
          simp only [Act.put, List.setIfInBounds_toArray, List.set_cons_zero, List.set_cons_succ]
          refine wpAnyH_take (i := 12) (oi := { dst := some 68, op := Op.convert 22 5 (Operand.tmp 67), type := 5, pos := "ref.go:58", after := #[{ on := 11, ground := Ground.data }], guard := none }) (v := .int .u8 X.k) rfl (by kernel_rfl) (by kernel_rfl) (by kernel_rfl) (fun _ _ _ h => h) (Or.inl ⟨by rfl, fun Y hY => by (try dsimp only at hY); go_simp⟩) hS ?_
          simp only [Act.put, List.setIfInBounds_toArray, List.set_cons_zero, List.set_cons_succ]
          refine wpAnyH_take (i := 13) (oi := { dst := some 69, op := Op.move (Operand.tmp 9), type := 55, pos := "ref.go:58", after := #[], guard := none }) (v := .slice (some ⟨gN, 0, none⟩) 5 C2) rfl (by kernel_rfl) (by kernel_rfl) (by kernel_rfl) (fun _ _ _ h => h) (Or.inl ⟨by rfl, fun Y hY => by (try dsimp only at hY); go_simp⟩) hS ?_
          simp only [Act.put, List.setIfInBounds_toArray, List.set_cons_zero, List.set_cons_succ]
          refine wpAnyH_take (i := 14) (oi := { dst := some 70, op := Op.indexAddr 55 (Operand.tmp 69) (Operand.const (Value.int IntKind.i64 3)), type := 0, pos := "ref.go:58", after := #[{ on := 13, ground := Ground.data }], guard := none }) (v := .pointer (some ⟨gN, 3, none⟩)) rfl (by kernel_rfl) (by kernel_rfl) (by kernel_rfl) (fun _ _ _ h => h) (Or.inl ⟨by rfl, fun Y hY => by (try dsimp only at hY); go_simp⟩) hS ?_
          simp only [Act.put, List.setIfInBounds_toArray, List.set_cons_zero, List.set_cons_succ]
          refine wpAnyH_take (i := 15) (oi := { dst := some 71, op := Op.load 22 (Operand.tmp 70), type := 22, pos := "ref.go:58", after := #[{ on := 14, ground := Ground.data }], guard := none }) (v := .int .u64 X.s) rfl (by kernel_rfl) (by kernel_rfl) (by kernel_rfl) (fun _ _ _ h => h) (Or.inl ⟨by rfl, fun Y hY => by (try dsimp only at hY); go_simp⟩) hS ?_
          simp only [Act.put, List.setIfInBounds_toArray, List.set_cons_zero, List.set_cons_succ]
          refine wpAnyH_take (i := 16) (oi := { dst := some 72, op := Op.convert 22 45 (Operand.tmp 71), type := 45, pos := "ref.go:58", after := #[{ on := 15, ground := Ground.data }], guard := none }) (v := .int .u32 X.s) rfl (by kernel_rfl) (by kernel_rfl) (by kernel_rfl) (fun _ _ _ h => h) (Or.inl ⟨by rfl, fun Y hY => by (try dsimp only at hY); go_simp⟩) hS ?_
          simp only [Act.put, List.setIfInBounds_toArray, List.set_cons_zero, List.set_cons_succ]
          refine wpAnyH_take (i := 17) (oi := { dst := some 73, op := Op.move (Operand.tmp 9), type := 55, pos := "ref.go:58", after := #[], guard := none }) (v := .slice (some ⟨gN, 0, none⟩) 5 C2) rfl (by kernel_rfl) (by kernel_rfl) (by kernel_rfl) (fun _ _ _ h => h) (Or.inl ⟨by rfl, fun Y hY => by (try dsimp only at hY); go_simp⟩) hS ?_
          simp only [Act.put, List.setIfInBounds_toArray, List.set_cons_zero, List.set_cons_succ]
          refine wpAnyH_take (i := 18) (oi := { dst := some 74, op := Op.indexAddr 55 (Operand.tmp 73) (Operand.const (Value.int IntKind.i64 4)), type := 0, pos := "ref.go:58", after := #[{ on := 17, ground := Ground.data }], guard := none }) (v := .pointer (some ⟨gN, 4, none⟩)) rfl (by kernel_rfl) (by kernel_rfl) (by kernel_rfl) (fun _ _ _ h => h) (Or.inl ⟨by rfl, fun Y hY => by (try dsimp only at hY); go_simp⟩) hS ?_
          simp only [Act.put, List.setIfInBounds_toArray, List.set_cons_zero, List.set_cons_succ]
          refine wpAnyH_take (i := 19) (oi := { dst := some 75, op := Op.load 22 (Operand.tmp 74), type := 22, pos := "ref.go:58", after := #[{ on := 18, ground := Ground.data }], guard := none }) (v := .int .u64 X.e) rfl (by kernel_rfl) (by kernel_rfl) (by kernel_rfl) (fun _ _ _ h => h) (Or.inl ⟨by rfl, fun Y hY => by (try dsimp only at hY); go_simp⟩) hS ?_
          simp only [Act.put, List.setIfInBounds_toArray, List.set_cons_zero, List.set_cons_succ]
          refine wpAnyH_take (i := 20) (oi := { dst := some 76, op := Op.convert 22 27 (Operand.tmp 75), type := 27, pos := "ref.go:58", after := #[{ on := 19, ground := Ground.data }], guard := none }) (v := .int .u16 X.e) rfl (by kernel_rfl) (by kernel_rfl) (by kernel_rfl) (fun _ _ _ h => h) (Or.inl ⟨by rfl, fun Y hY => by (try dsimp only at hY); go_simp⟩) hS ?_
          simp only [Act.put, List.setIfInBounds_toArray, List.set_cons_zero, List.set_cons_succ]
          refine wpAnyH_take (i := 21) (oi := { dst := some 77, op := Op.build 47 #[(0, Operand.tmp 61), (1, Operand.tmp 64), (2, Operand.tmp 68), (3, Operand.tmp 72), (4, Operand.tmp 76)], type := 47, pos := "ref.go:58", after := #[{ on := 5, ground := Ground.data }, { on := 8, ground := Ground.data }, { on := 12, ground := Ground.data }, { on := 16, ground := Ground.data }, { on := 20, ground := Ground.data }], guard := none }) (v := .agg #[.int .u32 X.t, .int .u64 X.b, .int .u8 X.k, .int .u32 X.s, .int .u16 X.e]) rfl (by kernel_rfl) (by kernel_rfl) (by kernel_rfl) (fun _ _ _ h => h) (Or.inl ⟨by rfl, fun Y hY => by (try dsimp only at hY); go_simp⟩) hS ?_
          simp only [Act.put, List.setIfInBounds_toArray, List.set_cons_zero, List.set_cons_succ]
          refine wpAnyH_ready (rs := [1, 22]) (by kernel_rfl) (by simp) (AllReadyH.cons (o := { dst := some 57, op := Op.load 23 (Operand.tmp 56), type := 23, pos := "ref.go:58", after := #[{ on := 0, ground := Ground.data }], guard := none }) rfl (fun KK hK => ?ga) (AllReadyH.cons (o := { dst := some 78, op := Op.buildSlice 23 1 #[(0, Operand.tmp 77)], type := 23, pos := "ref.go:58", after := #[{ on := 21, ground := Ground.data }], guard := none }) rfl (fun KK hK => ?gb) AllReadyH.nil))
          case ga =>
            go_simp
            refine hK.out _ _ ⟨n0, n1, n2, n3, n4⟩ (fun hS1 => ?_)
            clear hK KK
            try simp only [Act.put, List.setIfInBounds_toArray, List.set_cons_zero, List.set_cons_succ]
            refine wpAnyH_ready (rs := [22]) (by kernel_rfl) (by simp) (AllReadyH.cons (o := { dst := some 78, op := Op.buildSlice 23 1 #[(0, Operand.tmp 77)], type := 23, pos := "ref.go:58", after := #[{ on := 21, ground := Ground.data }], guard := none }) rfl (fun KK hK => ?_) AllReadyH.nil)
            go_simp
            refine hK.out _ _ ⟨p0 _, p1 _, p2 _, p3 _, p4 _⟩ (fun hS2 => ?_)
            clear hK KK
            try simp only [Act.put, List.setIfInBounds_toArray, List.set_cons_zero, List.set_cons_succ]
            refine wpAnyH_ready (rs := [23]) (by kernel_rfl) (by simp) (AllReadyH.cons (o := { dst := some 79, op := Op.call { callee := Callee.builtin Builtin.append, args := #[Operand.tmp 57, Operand.tmp 78], argTypes := #[23, 23] }, type := 23, pos := "ref.go:58", after := #[{ on := 1, ground := Ground.data }, { on := 22, ground := Ground.data }], guard := none }) rfl (fun KK hK => ?_) AllReadyH.nil)
            refine cstep_append_run rfl (.tmp 57) (.tmp 78) 23 23 rfl _ _ rfl rfl _ _ e9 ?_
            refine hK.out _ _ ⟨r0, r1, r2, r3, r4⟩ (fun hS3 => ?_)
            clear hK KK
            try simp only [Act.put, List.setIfInBounds_toArray, List.set_cons_zero, List.set_cons_succ]
            refine wpAnyH_take (i := 24) (oi := { dst := some 80, op := Op.fieldAddr 25 (Operand.tmp 7) 1, type := 0, pos := "ref.go:58", after := #[{ on := 0, ground := Ground.phase }, { on := 1, ground := Ground.phase }, { on := 2, ground := Ground.phase }, { on := 3, ground := Ground.phase }, { on := 4, ground := Ground.phase }, { on := 5, ground := Ground.phase }, { on := 6, ground := Ground.phase }, { on := 7, ground := Ground.phase }, { on := 8, ground := Ground.phase }, { on := 9, ground := Ground.phase }, { on := 10, ground := Ground.phase }, { on := 11, ground := Ground.phase }, { on := 12, ground := Ground.phase }, { on := 13, ground := Ground.phase }, { on := 14, ground := Ground.phase }, { on := 15, ground := Ground.phase }, { on := 16, ground := Ground.phase }, { on := 17, ground := Ground.phase }, { on := 18, ground := Ground.phase }, { on := 19, ground := Ground.phase }, { on := 20, ground := Ground.phase }, { on := 21, ground := Ground.phase }, { on := 22, ground := Ground.phase }, { on := 23, ground := Ground.phase }], guard := none }) (v := .pointer (some ⟨q5, 1, none⟩)) rfl (by kernel_rfl) (by kernel_rfl) (by kernel_rfl) (fun _ _ _ h => h) (Or.inl ⟨by rfl, fun Y hY => by (try dsimp only at hY); go_simp⟩) hS3 ?_
            simp only [Act.put, List.setIfInBounds_toArray, List.set_cons_zero, List.set_cons_succ]
            refine wpAnyH_ready (rs := [25]) (by kernel_rfl) (by simp) (AllReadyH.cons (o := { dst := none, op := Op.store 23 (Operand.tmp 80) (Operand.tmp 79), type := 0, pos := "ref.go:58", after := #[{ on := 24, ground := Ground.data }, { on := 23, ground := Ground.data }, { on := 23, ground := Ground.chain }, { on := 0, ground := Ground.phase }, { on := 1, ground := Ground.phase }, { on := 2, ground := Ground.phase }, { on := 3, ground := Ground.phase }, { on := 4, ground := Ground.phase }, { on := 5, ground := Ground.phase }, { on := 6, ground := Ground.phase }, { on := 7, ground := Ground.phase }, { on := 8, ground := Ground.phase }, { on := 9, ground := Ground.phase }, { on := 10, ground := Ground.phase }, { on := 11, ground := Ground.phase }, { on := 12, ground := Ground.phase }, { on := 13, ground := Ground.phase }, { on := 14, ground := Ground.phase }, { on := 15, ground := Ground.phase }, { on := 16, ground := Ground.phase }, { on := 17, ground := Ground.phase }, { on := 18, ground := Ground.phase }, { on := 19, ground := Ground.phase }, { on := 20, ground := Ground.phase }, { on := 21, ground := Ground.phase }, { on := 22, ground := Ground.phase }, { on := 23, ground := Ground.phase }], guard := none }) rfl (fun KK hK => ?_) AllReadyH.nil)
            go_simp
            refine hK.out _ _ ⟨t0, t1, t2, t3, t4⟩ (fun hS4 => ?_)
            clear hK KK
            try simp only [Act.put, List.setIfInBounds_toArray, List.set_cons_zero, List.set_cons_succ]
            refine wpAnyH_done (by kernel_rfl) ?_ _
            clear e9 m4 m5 n0 n1 n2 n3 n4 m1 m2 u0 u2 u3 u4 r0 r1 r2 r3 r4 t0 t1 t2 t3 t4 p0 p1 p2 p3 p4 hS hS1 hS2 hS3 hS4
            generalize World.setCell w9 _ _ = V9 at H9 ⊢
            go_wp2
            go_roundw
            case rel => exact ⟨i + 1, a9, c9, R2, m - 19, F2, by simp, rfl, by omega, by have := HT.out.2.2.2.2.1; have := HT.out.2.2.2.2.2; omega, H9.out⟩
            case measure => simp [intOf]; omega
          case gb =>
            go_simp
            refine hK.out _ _ ⟨p0 _, p1 _, p2 _, p3 _, p4 _⟩ (fun hS1 => ?_)
            clear hK KK
            try simp only [Act.put, List.setIfInBounds_toArray, List.set_cons_zero, List.set_cons_succ]
            refine wpAnyH_ready (rs := [1]) (by kernel_rfl) (by simp) (AllReadyH.cons (o := { dst := some 57, op := Op.load 23 (Operand.tmp 56), type := 23, pos := "ref.go:58", after := #[{ on := 0, ground := Ground.data }], guard := none }) rfl (fun KK hK => ?_) AllReadyH.nil)
            go_simp
            refine hK.out _ _ ⟨p0 _, p1 _, p2 _, p3 _, p4 _⟩ (fun hS2 => ?_)
            clear hK KK
            try simp only [Act.put, List.setIfInBounds_toArray, List.set_cons_zero, List.set_cons_succ]
            refine wpAnyH_ready (rs := [23]) (by kernel_rfl) (by simp) (AllReadyH.cons (o := { dst := some 79, op := Op.call { callee := Callee.builtin Builtin.append, args := #[Operand.tmp 57, Operand.tmp 78], argTypes := #[23, 23] }, type := 23, pos := "ref.go:58", after := #[{ on := 1, ground := Ground.data }, { on := 22, ground := Ground.data }], guard := none }) rfl (fun KK hK => ?_) AllReadyH.nil)
            refine cstep_append_run rfl (.tmp 57) (.tmp 78) 23 23 rfl _ _ rfl rfl _ _ e9 ?_
            refine hK.out _ _ ⟨r0, r1, r2, r3, r4⟩ (fun hS3 => ?_)
            clear hK KK
            try simp only [Act.put, List.setIfInBounds_toArray, List.set_cons_zero, List.set_cons_succ]
            refine wpAnyH_take (i := 24) (oi := { dst := some 80, op := Op.fieldAddr 25 (Operand.tmp 7) 1, type := 0, pos := "ref.go:58", after := #[{ on := 0, ground := Ground.phase }, { on := 1, ground := Ground.phase }, { on := 2, ground := Ground.phase }, { on := 3, ground := Ground.phase }, { on := 4, ground := Ground.phase }, { on := 5, ground := Ground.phase }, { on := 6, ground := Ground.phase }, { on := 7, ground := Ground.phase }, { on := 8, ground := Ground.phase }, { on := 9, ground := Ground.phase }, { on := 10, ground := Ground.phase }, { on := 11, ground := Ground.phase }, { on := 12, ground := Ground.phase }, { on := 13, ground := Ground.phase }, { on := 14, ground := Ground.phase }, { on := 15, ground := Ground.phase }, { on := 16, ground := Ground.phase }, { on := 17, ground := Ground.phase }, { on := 18, ground := Ground.phase }, { on := 19, ground := Ground.phase }, { on := 20, ground := Ground.phase }, { on := 21, ground := Ground.phase }, { on := 22, ground := Ground.phase }, { on := 23, ground := Ground.phase }], guard := none }) (v := .pointer (some ⟨q5, 1, none⟩)) rfl (by kernel_rfl) (by kernel_rfl) (by kernel_rfl) (fun _ _ _ h => h) (Or.inl ⟨by rfl, fun Y hY => by (try dsimp only at hY); go_simp⟩) hS3 ?_
            simp only [Act.put, List.setIfInBounds_toArray, List.set_cons_zero, List.set_cons_succ]
            refine wpAnyH_ready (rs := [25]) (by kernel_rfl) (by simp) (AllReadyH.cons (o := { dst := none, op := Op.store 23 (Operand.tmp 80) (Operand.tmp 79), type := 0, pos := "ref.go:58", after := #[{ on := 24, ground := Ground.data }, { on := 23, ground := Ground.data }, { on := 23, ground := Ground.chain }, { on := 0, ground := Ground.phase }, { on := 1, ground := Ground.phase }, { on := 2, ground := Ground.phase }, { on := 3, ground := Ground.phase }, { on := 4, ground := Ground.phase }, { on := 5, ground := Ground.phase }, { on := 6, ground := Ground.phase }, { on := 7, ground := Ground.phase }, { on := 8, ground := Ground.phase }, { on := 9, ground := Ground.phase }, { on := 10, ground := Ground.phase }, { on := 11, ground := Ground.phase }, { on := 12, ground := Ground.phase }, { on := 13, ground := Ground.phase }, { on := 14, ground := Ground.phase }, { on := 15, ground := Ground.phase }, { on := 16, ground := Ground.phase }, { on := 17, ground := Ground.phase }, { on := 18, ground := Ground.phase }, { on := 19, ground := Ground.phase }, { on := 20, ground := Ground.phase }, { on := 21, ground := Ground.phase }, { on := 22, ground := Ground.phase }, { on := 23, ground := Ground.phase }], guard := none }) rfl (fun KK hK => ?_) AllReadyH.nil)
            go_simp
            refine hK.out _ _ ⟨t0, t1, t2, t3, t4⟩ (fun hS4 => ?_)
            clear hK KK
            try simp only [Act.put, List.setIfInBounds_toArray, List.set_cons_zero, List.set_cons_succ]
            refine wpAnyH_done (by kernel_rfl) ?_ _
            clear e9 m4 m5 n0 n1 n2 n3 n4 m1 m2 u0 u2 u3 u4 r0 r1 r2 r3 r4 t0 t1 t2 t3 t4 p0 p1 p2 p3 p4 hS hS1 hS2 hS3 hS4
            generalize World.setCell w9 _ _ = V9 at H9 ⊢
            go_wp2
            go_roundw
            case rel => exact ⟨i + 1, a9, c9, R2, m - 19, F2, by simp, rfl, by omega, by have := HT.out.2.2.2.2.1; have := HT.out.2.2.2.2.2; omega, H9.out⟩
            case measure => simp [intOf]; omega
        · obtain rfl : i = N := by omega
          have k0 : wr.cell? ⟨q5, 0, none⟩ = some (.int .u64 S) := st.rc.cell 0
          have k1 : wr.cell? ⟨q5, 1, none⟩ = some (.slice A i C') := st.rc.cell 1
          have hits : ItsIn wr A i (rdIts bs) := by rw [HF.out.2.2.1]; exact own_its st.own (by unfold maxLen; omega) HF.out.2.2.2.1
          have HT : Hid (DdSt q w wr q5 g S i A i C' (rdL i (bs.drop 18)) L m c' (bs.drop (18 + 19 * i)) ∧ ItsIn wr A i (rdIts bs)) := ⟨st, hits⟩
          clear st hits
          go_wp2_with fail
          refine (dEncode_of S A i C' (rdIts bs) (n : Int) wr HF.out.2.2.2.2.2.2.2.2 HT.out.2).mono ?_
          rintro e W6 ⟨A6, n6, C6, rfl, ow6, b6⟩
          have st6 := HT.out.1.below b6
          have d0 : W6.cell? ⟨q, 0, none⟩ = some (.int .u64 0) := st6.res.cell 0
          have d1 : W6.cell? ⟨q, 1, none⟩ = some (.slice none 0 0) := st6.res.cell 1
          have z0 := st6.res.frozen 0
          have z1 := st6.res.frozen 1
          have p0 : W6.cell? ⟨q5, 0, none⟩ = some (.int .u64 S) := st6.rc.cell 0
          have p1 : W6.cell? ⟨q5, 1, none⟩ = some (.slice A i C') := st6.rc.cell 1
          have hbad : Hid (¬ IsR bs → Blk ((W6.setCell ⟨q, 0, none⟩ (.int .u64 0)).setCell ⟨q, 1, none⟩ (.slice none 0 0)) q [.int .u64 0, .slice none 0 0] 25 ∧ DDec w bs (.returned (.tuple #[.agg #[.int .u64 0, .slice none 0 0], .int .i64 111])) ((W6.setCell ⟨q, 0, none⟩ (.int .u64 0)).setCell ⟨q, 1, none⟩ (.slice none 0 0))) := fun hno => emptied H.out.2.2.2 st6.res st6.bel hno
          have H6 : Hid (DdSt q w W6 q5 g S i A i C' (rdL i (bs.drop 18)) L m c' (bs.drop (18 + 19 * i))) := st6
          clear st6 k0 k1 cn
          by_cases hgd : GoodR (rdIts bs) (n : Int)
          · have e1 : encE (rdIts bs) (n : Int) = 0 := by unfold encE; rw [if_pos hgd]
            have e2 : encB S (rdIts bs) (n : Int) = encL S (rdIts bs) n := by unfold encB; rw [if_pos hgd, Int.toNat_natCast]
            rw [e1]
            rw [e2] at ow6
            have hle : (encL S (rdIts bs) n).length = n := enc_length (by have := hgd.bounds; omega)
            have hn6 : n6 = n := by have := ow6.1; rw [u8s_length, hle] at this; omega
            obtain ⟨zs, hzs⟩ : ∃ zs, zs = encL S (rdIts bs) n := ⟨_, rfl⟩
            rw [← hzs] at ow6
            have hzf : ∀ z ∈ zs, Fits8 z := by rw [hzs]; exact enc_fits _ _ _
            have s1 := str_of W6 A6 n6 C6 zs (own_bin ow6 (by unfold maxLen; omega) hzf)
            have s2 := str_of W6 a n c bs ((H.out.1.below (by rw [← H.out.2.2.2]; exact H6.out.bel)))
            have HZ : Hid (zs = encL S (rdIts bs) n ∧ GoodR (rdIts bs) (n : Int)) := ⟨hzs, hgd⟩
            by_cases heq : zs = bs
            · have hy : IsR bs := ⟨by rw [HF.out.2.2.2.2.1]; exact HZ.out.2, by rw [HF.out.2.2.2.2.1, ← HF.out.1, ← HZ.out.1]; exact heq⟩
              have hlt5 := H6.out.lt
              have HE : Hid (Blk ((W6.setCell ⟨q, 0, none⟩ (.int .u64 S)).setCell ⟨q, 1, none⟩ (.slice A i C')) q [.int .u64 S, .slice A i C'] 25 ∧ DDec w bs (.returned (.tuple #[.agg #[.int .u64 S, .slice A i C'], .int .i64 0])) ((W6.setCell ⟨q, 0, none⟩ (.int .u64 S)).setCell ⟨q, 1, none⟩ (.slice A i C'))) := by
                refine ⟨(H6.out.res.set 0 _).set 1 _, ?_⟩
                rw [HF.out.1]
                refine ddec_yes (by rw [← H.out.2.2.2]; exact (H6.out.bel.setCell (p := ⟨q, 0, none⟩) (Nat.le_refl _) _).setCell (p := ⟨q, 1, none⟩) (Nat.le_refl _) _) hy ?_
                rw [HF.out.2.2.1]
                exact own_its (ownsItems_set (ownsItems_set H6.out.own (by show q < q5 + 1; omega) _) (by show q < q5 + 1; omega) _) (by unfold maxLen; omega) HF.out.2.2.2.1
              rw [heq] at s1
              clear hgd e1 e2 ow6 hle hn6 hzs hzf hy heq
              go_wp2
              exact bodyPost_ret (results_cell_two (p := 2) (u := 3) (ty := 25) rfl _ _ q _ _ _ rfl HE.out.1 Try.underlying25 rfl Try.info_record _ rfl) rfl HE.out.2
            · have hno : ¬ IsR bs := fun h => heq (by have h2 := h.2; rw [HF.out.2.2.2.2.1, ← HF.out.1, ← HZ.out.1] at h2; exact h2)
              have HE := hbad.out hno
              have h3 := str_other hzf H.out.1.2.2.1 heq
              have HE : Hid (Blk ((W6.setCell ⟨q, 0, none⟩ (.int .u64 0)).setCell ⟨q, 1, none⟩ (.slice none 0 0)) q [.int .u64 0, .slice none 0 0] 25 ∧ DDec w bs (.returned (.tuple #[.agg #[.int .u64 0, .slice none 0 0], .int .i64 111])) ((W6.setCell ⟨q, 0, none⟩ (.int .u64 0)).setCell ⟨q, 1, none⟩ (.slice none 0 0))) := hbad.out hno
              clear hgd e1 e2 ow6 hle hn6 hzs hzf hno heq
              go_wp2
              exact bodyPost_ret (results_cell_two (p := 2) (u := 3) (ty := 25) rfl _ _ q _ _ _ rfl HE.out.1 Try.underlying25 rfl Try.info_record _ rfl) rfl HE.out.2
          · have e1 : encE (rdIts bs) (n : Int) = 110 := by unfold encE; rw [if_neg hgd]
            rw [e1]
            have hno : ¬ IsR bs := fun h => hgd (by have h2 := h.1; rw [HF.out.2.2.2.2.1] at h2; exact h2)
            have HE : Hid (Blk ((W6.setCell ⟨q, 0, none⟩ (.int .u64 0)).setCell ⟨q, 1, none⟩ (.slice none 0 0)) q [.int .u64 0, .slice none 0 0] 25 ∧ DDec w bs (.returned (.tuple #[.agg #[.int .u64 0, .slice none 0 0], .int .i64 111])) ((W6.setCell ⟨q, 0, none⟩ (.int .u64 0)).setCell ⟨q, 1, none⟩ (.slice none 0 0))) := hbad.out hno
            clear hgd e1 ow6 hno
            go_wp2
            exact bodyPost_ret (results_cell_two (p := 2) (u := 3) (ty := 25) rfl _ _ q _ _ _ rfl HE.out.1 Try.underlying25 rfl Try.info_record _ rfl) rfl HE.out.2
end Go.Proofs.Ytggeadjebkhomaa
