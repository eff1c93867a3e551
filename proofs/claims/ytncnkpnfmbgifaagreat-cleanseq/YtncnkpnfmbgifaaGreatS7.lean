/- Texts of this seat, one behind the other: ClE, ClF. -/
import Derived.Test.YtncnkpnfmbgifaaGreatS6
/- What a step of cleaning leaves: the number, the zone that is free, which one is picked. -/
namespace Go.Proofs.YtncnkpnfmbgifaaGreat
open Go.RowKit
set_option linter.unusedVariables false
set_option maxRecDepth 4000
theorem car_n {st : St} (h : Inv2 st) (z : Int) : (carL st z).length = liveN st.S z := by
 unfold carL
 rw [List.length_map]
 exact live_in h.inv.plc.1 (isIn_ex h.inv.plc.1 z)
theorem pick_down {st : St} (h : pickM st < 0) : (stepM st).2 = st ∧ (stepM st).1 = false := by
 unfold stepM
 rw [if_pos h]
 exact ⟨rfl, rfl⟩
theorem step_q {st : St} (h : Inv2 st) (hf : ∀ p ∈ carL st (pickM st), p.Fits) (h0 : 0 ≤ st.q ∧ st.q ≤ 1200) (hn : liveN st.S (pickM st) ≤ 1000) : st.q ≤ (stepM st).2.q ∧ (stepM st).2.q - st.q ≤ liveN st.S (pickM st) ∧ (pickM st < 0 → (stepM st).2.q = st.q) ∧ (stepM st).2.q ≤ 2200 := by
 obtain ⟨r, hr, e⟩ := step_seq h hf
 rw [car_n h] at hr
 refine ⟨?_, ?_, fun hp => by rw [(pick_down hp).1], ?_⟩
 ·rcases e with e | ⟨_, e⟩ <;> rw [e] <;> omega
 ·rcases e with e | ⟨_, e⟩ <;> rw [e] <;> omega
 ·rcases e with e | ⟨_, e⟩ <;> rw [e] <;> omega
theorem fl_durable (zs : List Zn) (i : Int) : ((atZ (flushZ zs) i).1.length : Int) = (atZ (flushZ zs) i).2 := by
 unfold atZ flushZ
 split
 ·simp only [List.getD_eq_getElem?_getD, List.getElem?_mapIdx]
  cases zs[i.toNat]? with
  | none => rfl
  | some z => rfl
 ·rfl
theorem reset_durable {zs : List Zn} (h : ∀ i, ((atZ zs i).1.length : Int) = (atZ zs i).2) (z i : Int) : ((atZ (resetZ zs z) i).1.length : Int) = (atZ (resetZ zs z) i).2 := by
 have hi := h i
 unfold atZ at hi ⊢
 unfold resetZ
 split
 ·rename_i hz
  rw [if_pos hz] at hi
  split
  ·simp only [List.getD_eq_getElem?_getD, List.getElem?_set] at hi ⊢
   split
   ·split <;> rfl
   ·exact hi
  ·exact hi
 ·rfl
theorem reset_none (zs : List Zn) (z : Int) : (atZ (resetZ zs z) z).1.length = 0 := by
 unfold atZ resetZ
 split
 ·simp only [List.getD_eq_getElem?_getD, List.getElem?_set]
  rw [if_pos trivial]
  split <;> rfl
 ·rfl
theorem mark_durable (st : St) (i : Int) : ((atZ (markM (flushM st)).2.zs i).1.length : Int) = (atZ (markM (flushM st)).2.zs i).2 := by
 show ((atZ (svZ _ (flushZ st.zs) _ _ _) i).1.length : Int) = (atZ (svZ _ (flushZ st.zs) _ _ _) i).2
 unfold svZ
 split
 ·unfold putZ
  exact fl_durable _ i
 ·exact fl_durable _ i
theorem step_free {st : St} (h : Inv2 st) (ht : (stepM st).1 = true) : 0 ≤ pickM st ∧ (∀ i, ((atZ (stepM st).2.zs i).1.length : Int) = (atZ (stepM st).2.zs i).2) ∧ (atZ (stepM st).2.zs (pickM st)).1.length = 0 ∧ stZ (stepM st).2.L (pickM st) = 1 ∧ emIn (stepM st).2.S (pickM st) ∧ lastI (stepM st).2.la (pickM st) = 0 := by
 unfold stepM at ht ⊢
 by_cases h1 : pickM st < 0
 ·rw [if_pos h1] at ht; cases ht
 ·rw [if_neg h1] at ht ⊢
  by_cases h2 : (stepP st).1 ≠ 0
  ·rw [if_pos h2] at ht; cases ht
  ·rw [if_neg h2] at ht ⊢
   by_cases h3 : (stepK st).1 ≠ 0
   ·rw [if_pos h3] at ht; cases ht
   ·rw [if_neg h3] at ht ⊢
    have hc : clearOk (stepK st).2 (pickM st) := of_decide_eq_true ht
    have hd : ∀ i, ((atZ (stepK st).2.zs i).1.length : Int) = (atZ (stepK st).2.zs i).2 := fun i => mark_durable _ i
    generalize (stepK st).2 = K at hc hd
    generalize pickM st = z at h1 hc
    show 0 ≤ z ∧ (∀ i, ((atZ (clearM K z).zs i).1.length : Int) = (atZ (clearM K z).zs i).2) ∧ (atZ (clearM K z).zs z).1.length = 0 ∧ stZ (clearM K z).L z = 1 ∧ emIn (clearM K z).S z ∧ lastI (clearM K z).la z = 0
    unfold clearM
    rw [if_pos hc]
    refine ⟨by omega, reset_durable hd z, reset_none _ _, ?_, hc.2, ?_⟩
    ·show stZ (turnZ K.L z 3 1) z = 1
     rw [stZ_turn (by decide), if_pos ⟨rfl, hc.1⟩]
    ·show lastI (K.la.set z.toNat 0) z = 0
     unfold lastI
     split
     ·simp only [List.getD_eq_getElem?_getD, List.getElem?_set]
      rw [if_pos trivial]
      split <;> rfl
     ·rfl
theorem pick_full {st : St} (h : Inv2 st) (h0 : 0 ≤ pickM st) : stZ st.L (pickM st) = 3 := by
 rcases pick_cases st h.inv.wf.right with ⟨e, _⟩ | ⟨k, e, _, h3, _⟩
 ·omega
 ·rw [e, stZ_nat]; exact h3
def EmpIs (st : St) (F : List Int) (m : Nat) (E : Int) : Prop := (E = -1 ∧ ∀ x ∈ F.drop m, 0 < liveN st.S x) ∨ ∃ j : Nat, m ≤ j ∧ F[j]? = some E ∧ liveN st.S E = 0 ∧ ∀ x ∈ (F.take j).drop m, 0 < liveN st.S x
def FewIs (st : St) (F : List Int) (m : Nat) (b : Bool) : Prop := b = true ↔ ∃ x ∈ F.drop m, (liveN st.S x : Int) ≤ st.s.zb / 2
theorem emp_start (st : St) (F : List Int) : EmpIs st F F.length (-1) := .inl ⟨rfl, by rw [List.drop_length]; simp⟩
theorem few_start (st : St) (F : List Int) : FewIs st F F.length false := by
 unfold FewIs
 rw [List.drop_length]
 simp
theorem drop_one {F : List Int} {m : Nat} {x : Int} (hx : F[m]? = some x) : F.drop m = x :: F.drop (m + 1) := by
 obtain ⟨h, rfl⟩ := List.getElem?_eq_some_iff.1 hx
 exact List.drop_eq_getElem_cons h
theorem emp_zero {st : St} {F : List Int} {m : Nat} {x E : Int} (hx : F[m]? = some x) (h0 : liveN st.S x = 0) : EmpIs st F m x := .inr ⟨m, Nat.le_refl _, hx, h0, by rw [List.drop_eq_nil_of_le (by rw [List.length_take]; omega)]; simp⟩
theorem emp_pos {st : St} {F : List Int} {m : Nat} {x E : Int} (hx : F[m]? = some x) (h0 : 0 < liveN st.S x) (h : EmpIs st F (m + 1) E) : EmpIs st F m E := by
 rcases h with ⟨e, h⟩ | ⟨j, hj, h1, h2, h3⟩
 ·refine .inl ⟨e, fun y hy => ?_⟩
  rw [drop_one hx] at hy
  rcases List.mem_cons.1 hy with rfl | hy
  ·exact h0
  ·exact h y hy
 ·refine .inr ⟨j, by omega, h1, h2, fun y hy => ?_⟩
  have hx' : (F.take j)[m]? = some x := by rw [List.getElem?_take, if_pos (by omega)]; exact hx
  rw [drop_one hx'] at hy
  rcases List.mem_cons.1 hy with rfl | hy
  ·exact h0
  ·exact h3 y hy
theorem few_next {st : St} {F : List Int} {m : Nat} {x : Int} {b : Bool} (hx : F[m]? = some x) (h : FewIs st F (m + 1) b) : FewIs st F m (b || decide ((liveN st.S x : Int) ≤ st.s.zb / 2)) := by
 unfold FewIs at h ⊢
 rw [Bool.or_eq_true, h, decide_eq_true_iff, drop_one hx]
 constructor
 ·rintro (⟨y, hy, h⟩ | h)
  ·exact ⟨y, List.mem_cons_of_mem _ hy, h⟩
  ·exact ⟨x, List.mem_cons_self, h⟩
 ·rintro ⟨y, hy, h⟩
  rcases List.mem_cons.1 hy with rfl | hy
  ·exact .inr h
  ·exact .inl ⟨y, hy, h⟩
theorem picks_end {st : St} (h : Inv2 st) {E : Int} {b : Bool} (he : EmpIs st (listZ st.L 3) 0 E) (hb : FewIs st (listZ st.L 3) 0 b) : (0 ≤ E ∧ pickM st = E) ∨ (E < 0 ∧ pickM st < 0 ∧ b = false) ∨ (E < 0 ∧ 0 ≤ pickM st ∧ b = true ∧ stZ st.L (pickM st) = 3 ∧ (liveN st.S (pickM st) : Int) ≤ st.s.zb / 2) := by
 have hr := h.inv.wf.right
 rcases he with ⟨rfl, h1⟩ | ⟨j, _, h1, h2, h3⟩
 ·rw [List.drop_zero] at h1
  unfold FewIs at hb
  rw [List.drop_zero] at hb
  rcases pick_cases st hr with ⟨e, hp⟩ | ⟨k, e, hk, k3, hc⟩
  ·refine .inr (.inl ⟨by omega, by omega, ?_⟩)
   cases b with
   | false => rfl
   | true =>
    obtain ⟨x, hx, hl⟩ := hb.1 rfl
    obtain ⟨i, hi, i3, rfl⟩ := listTo_mem.1 hx
    have := (hp i hi i3).2
    omega
  ·have hm : (k : Int) ∈ listZ st.L 3 := listTo_mem.2 ⟨k, hk, k3, rfl⟩
   have hpos := h1 _ hm
   rcases hc with ⟨z, _⟩ | ⟨_, hh, _⟩
   ·omega
   ·refine .inr (.inr ⟨by omega, by omega, hb.2 ⟨_, hm, hh⟩, by rw [e, stZ_nat]; exact k3, by rw [e]; exact hh⟩)
 ·rw [List.drop_zero] at h3
  obtain ⟨i, _, _, rfl⟩ := listTo_mem.1 (List.mem_of_getElem? h1)
  exact .inl ⟨by omega, pick_zero hr h1 h2 h3⟩
theorem live_small {st : St} (h : Inv st) (hz : Sml st.s) (z : Int) : liveN st.S z ≤ 192 := by
 have := size_S h hz
 unfold liveN
 exact Nat.le_trans (List.length_filter_le _ _) this
end Go.Proofs.YtncnkpnfmbgifaaGreat

/- What a store that the call made answers; how it was made. -/
namespace Go.Proofs.YtncnkpnfmbgifaaGreat
open Go.RowKit
set_option linter.unusedVariables false
set_option maxRecDepth 4000
section
variable {W V V' : World} {k : Bs} {st st' : St} {c c' : Nat}
theorem Ky.map (h : Ky W k st c V) : Calls Tryz.prog 19 #[.pointer (some ⟨k.ps, 0, none⟩)] V fun e w' => e = .returned (.pointer (some ⟨k.pm, 0, none⟩)) ∧ w' = V := by
 obtain ⟨D, h1, _⟩ := h; exact smap_of h1
theorem Ky.seq (h : Ky W k st c V) : Calls Tryz.prog 30 #[.pointer (some ⟨k.ps, 0, none⟩)] V fun e w' => e = .returned (.int .u64 st.q) ∧ w' = V := by
 obtain ⟨D, h1, _⟩ := h; exact sseq_of h1
theorem Ky.last (z : Int) (h : Ky W k st c V) : Calls Tryz.prog 28 #[.pointer (some ⟨k.ps, 0, none⟩), .int .i64 z] V fun e w' => e = .returned (.int .u64 (lastI st.la z)) ∧ Ky W k st c w' := by
 have hu := fun w' hb => h.under (V' := w') hb
 obtain ⟨D, h1, _⟩ := h
 exact (slast_of z h1).mono (fun e w' hh => ⟨hh.1, hu w' hh.2⟩)
theorem Ky.inz (z : Int) (h : Ky W k st c V) (hi : Inv2 st) (hc : c < 10000) : Calls Tryz.prog 27 #[.pointer (some ⟨k.pm, 0, none⟩), .int .i64 z] V fun e w' => ∃ a cc, e = .returned (.slice a (liveN st.S z) cc) ∧ Ky W k st c w' ∧ Below V.heap.size V w' := by
 have hu := fun w' hb => h.under (V' := w') hb
 obtain ⟨D, h1, _⟩ := h
 refine (mIn_of k.pm k.b1 k.b2 st.S c z V h1.mp (by omega)).mono ?_
 rintro e w' ⟨L, a, n, cc, rfl, hL, ow, hb⟩
 have hn : L.length = n := (own_pl ow).1
 rw [live_in hi.inv.plc.1 hL] at hn
 subst hn
 exact ⟨a, cc, rfl, hu w' hb, hb⟩
theorem list_small {st : St} (hi : Inv2 st) (a : Int) : (listZ st.L a).length ≤ 256 ∧ ∀ z ∈ listZ st.L a, 0 ≤ z ∧ z < 256 := by
 have h1 := hi.inv.len
 have h2 := hi.inv.wf.len
 have h3 := hi.inv.wf.right.2.1
 have h4 : (listZ st.L a).length ≤ st.L.length := listTo_length _ _ _
 refine ⟨by omega, fun z hz => ?_⟩
 obtain ⟨i, hi, _, rfl⟩ := listTo_mem.1 hz
 omega
theorem Ky.list (a : Int) (h : Ky W k st c V) (hi : Inv2 st) : Calls Tryz.prog 29 #[.pointer (some ⟨k.pg, 0, none⟩), .int .u8 a] V fun e w' => ∃ A cc, e = .returned (.slice A (listZ st.L a).length cc) ∧ NIn .i64 w' A (listZ st.L a).length (listZ st.L a) ∧ Ky W k st c w' := by
 have hu := fun w' hb => h.under (V' := w') hb
 obtain ⟨D, h1, _⟩ := h
 refine (gList_of k.pg k.gg st.s.r st.L a V h1.sg).mono ?_
 rintro e w' ⟨A, cc, rfl, ow, hb⟩
 have hs := list_small hi a
 exact ⟨A, cc, rfl, own_nin ow (by unfold maxLen; omega) (fun z hz => WalkArith.wf_i64 (by have := hs.2 z hz; omega)), hu w' hb⟩
end
theorem wrap16 {H : Nat} (h : H ≤ 16) : IntKind.i64.wrap (H : Int) = H ∧ wrap64 (H : Int) = H := ⟨by rw [IntKind.wrap_i64]; omega, by unfold wrap64; omega⟩
def PkRel (st : St) (F : List Int) (M : Nat) (Z wr : World) (v f x : Value) : Prop := ∃ (m : Nat) (E : Int) (b : Bool), x = .int .i64 ((m : Int) - 1) ∧ m ≤ M ∧ v = .int .i64 E ∧ f = .bool b ∧ EmpIs st F m E ∧ FewIs st F m b ∧ Below Z.heap.size Z wr
theorem half_iff {m ZB H : Nat} (h : H = ZB / 2) : ((m : Int) ≤ (ZB : Int) / 2 ↔ m ≤ H) := by omega
theorem both_ky (s0 : Sh) (a1 : Option Addr) (n1 c1 : Nat) (x1 : List Od) (w V : World) (hz : ShF s0) (hpr : OdsR w a1 n1 x1) (hof : ∀ o ∈ x1, Fits8 o.k ∧ F64 o.z) (hl : n1 ≤ 40 ∧ ∀ o ∈ x1, o.l.length ≤ 30 ∧ ∀ p ∈ o.l, p.d.length ≤ 200) (hV : Below w.heap.size w V) (hr : RightS s0) :
  Calls Tryz.prog 11 #[.agg #[.int .i64 s0.z, .int .i64 s0.zb, .int .i64 s0.b, .int .i64 s0.r], .slice a1 n1 c1] V fun e w' => ∃ rs st k, e = .returned (.tuple #[.pointer (some ⟨k.ps, 0, none⟩), .pointer (some ⟨rs, 0, none⟩)]) ∧ Ky V k st 1200 w' ∧ Inv2 st ∧ st.s = s0 ∧ 0 ≤ st.q ∧ st.q ≤ 1200 := by
 refine (both_of s0 a1 n1 c1 x1 V V hz (hpr.below hV) hof hl (Below.refl _ _)).mono ?_
 rintro e w' ⟨b1, ⟨hn, _⟩ | ⟨_, ps, rs, st, rfl, hbo, h2, h3, h4, h5⟩⟩
 ·exact (hn hr).elim
 ·obtain ⟨D, k, rfl, hv, hx, hb⟩ := bo_st hbo
  exact ⟨rs, st, k, rfl, ⟨D, hv.mono (by have := hl.1; omega), hb, hx⟩, h2, h3, h4, by have := hl.1; omega⟩
theorem both_nil (s0 : Sh) (a1 : Option Addr) (n1 c1 : Nat) (x1 : List Od) (w V : World) (hz : ShF s0) (hpr : OdsR w a1 n1 x1) (hof : ∀ o ∈ x1, Fits8 o.k ∧ F64 o.z) (hl : n1 ≤ 40 ∧ ∀ o ∈ x1, o.l.length ≤ 30 ∧ ∀ p ∈ o.l, p.d.length ≤ 200) (hV : Below w.heap.size w V) (hr : ¬ RightS s0) :
  Calls Tryz.prog 11 #[.agg #[.int .i64 s0.z, .int .i64 s0.zb, .int .i64 s0.b, .int .i64 s0.r], .slice a1 n1 c1] V fun e w' => e = .returned (.tuple #[.pointer none, .pointer none]) ∧ Below w.heap.size w w' := by
 refine (both_of s0 a1 n1 c1 x1 w V hz hpr hof hl hV).mono ?_
 rintro e w' ⟨b1, ⟨_, rfl⟩ | ⟨hn, _⟩⟩
 ·exact ⟨rfl, b1⟩
 ·exact (hr hn).elim
end Go.Proofs.YtncnkpnfmbgifaaGreat
