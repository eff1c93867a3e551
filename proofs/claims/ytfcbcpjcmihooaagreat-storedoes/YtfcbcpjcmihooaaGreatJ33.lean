/- Texts of this seat, one behind the other: StMk, DkSave, ZRRd, StDm. -/
import Derived.Test.YtfcbcpjcmihooaaGreatJ24
import Derived.Test.YtfcbcpjcmihooaaGreatJ31
import Derived.Test.YtfcbcpjcmihooaaGreatJ32
import Derived.Test.YtfcbcpjcmihooaaGreatJ21
import Derived.Deep.RegionHeld3
import Derived.Test.YtfcbcpjcmihooaaGreatJ14
import Derived.Test.YtfcbcpjcmihooaaGreatJ30
import Derived.Deep.DeepCutAuto
import Derived.Test.YtfcbcpjcmihooaaGreatJ13
import Derived.Test.YtfcbcpjcmihooaaGreatJ29
/- What one call of Flush, Mark, Clear, Last, Low, Seg of the program's store does. -/
namespace Go.Proofs.YtfcbcpjcmihooaaGreat
open Go.RowKit
set_option linter.unusedVariables false
set_option maxRecDepth 4000
/-- What Flush, Mark and Clear make of a store. -/
def flushM (st : St) : St := { st with zs := flushZ st.zs }
open Classical in
noncomputable def markM (st : St) : Int × St := (svE st.s (1 - st.o) st.S, { st with zs := svZ st.s st.zs (1 - st.o) st.q st.S, o := if svE st.s (1 - st.o) st.S = 0 then 1 - st.o else st.o })
def emIn (S : List Pl) (z : Int) : Prop := ∀ p ∈ S, p.2.1 ≠ z
instance (S : List Pl) (z : Int) : Decidable (emIn S z) := by unfold emIn; infer_instance
def clearOk (st : St) (z : Int) : Prop := stZ st.L z = 3 ∧ emIn st.S z
instance (st : St) (z : Int) : Decidable (clearOk st z) := by unfold clearOk; infer_instance
def clearM (st : St) (z : Int) : St := if clearOk st z then { st with zs := resetZ st.zs z, la := st.la.set z.toNat 0, L := turnZ st.L z 3 1 } else st
theorem emIn_iff {S : List Pl} {z : Int} {L : List Pl} (h : IsIn S z L) : emIn S z ↔ L.length = 0 := by
  constructor
  · intro he
    cases L with
    | nil => rfl
    | cons p r => exact (he p ((h.2 p).1 (by simp)).1 ((h.2 p).1 (by simp)).2).elim
  · intro he p hp hz
    have := (h.2 p).2 ⟨hp, hz⟩
    rw [List.length_eq_zero_iff.1 he] at this
    simp at this
theorem st3_in {L : List Int} {z : Int} (h : stZ L z = 3) : ∃ i : Nat, z = i ∧ i < L.length := by
  by_cases hz : z < 0 ∨ (L.length : Int) ≤ z
  · rw [stZ_out hz] at h
    cases h
  · exact ⟨z.toNat, by omega, by omega⟩
section
variable {D : Nat → Prop} {W W' : World} {k : Bs} {st : St} {c : Nat}
theorem StV.svstep {zs' : List Zn} (h : StV D W k st c) (hs : SvSt 134 D W k.pd st.s zs' W') (hw : Wf st.s zs') : Sv D W k { st with zs := zs' } c W' := by
  obtain ⟨O', hd, hO, ho⟩ := hs
  have hlen : zs'.length = st.zs.length := by have := hw.len; have := h.wf.len; omega
  have hn : ∀ x, k.has x → ¬ D x := h.nd
  refine ⟨fun x => O' x ∧ x < W'.heap.size, ⟨ho.blk h.hp (hn _ (.inl rfl)), hd.there, h.sg.out ho (hn _ (.inr (.inl rfl))) (hn _ (.inr (.inr (.inl rfl)))), h.mp.out ho ?_, ho.blk h.hl (hn _ (.inr (.inr (.inr (.inr (.inr (.inr rfl))))))), hw, h.fq, by rw [hlen]; exact h.len, fun x hx => hx.2, ?_, h.ap⟩, fun x hx => hO x hx.1, ho.mono (fun j e _ => .inl e)⟩
  · rintro x (rfl | rfl | rfl)
    · exact hn _ (.inr (.inr (.inr (.inl rfl))))
    · exact hn _ (.inr (.inr (.inr (.inr (.inl rfl)))))
    · exact hn _ (.inr (.inr (.inr (.inr (.inr (.inl rfl))))))
  · rintro x hx ⟨hd, _⟩
    rcases hO x hd with h' | h'
    · exact hn x hx h'
    · have := h.kin x hx; omega
theorem sflush_of (h : StV D W k st c) : Calls Tryz.prog 78 #[.pointer (some ⟨k.ps, 0, none⟩)] W fun e w' => (∃ v, e = .returned v) ∧ Sv D W k (flushM st) c w' := by
  obtain ⟨c0, _⟩ := h.cells
  have HF : Hid (Calls Tryz.prog 92 #[.pointer (some ⟨k.pd, 0, none⟩)] W fun e w' => (∃ v, e = .returned v) ∧ Sv D W k (flushM st) c w') := (flush_of h.dv).mono (fun e w' hh => ⟨hh.1, h.dvstep hh.2 h.wf.flush⟩)
  clear h
  go_enter Tryz.func78, Tryz.ntmps78
  go_wp2_with (go_at_call 92; refine HF.out.mono ?_; rintro e w2 ⟨⟨v, rfl⟩, sv⟩)
  first | go_end0 | refine bodyPost_ret (results_none rfl _ _ _) rfl ?_
  exact ⟨⟨_, rfl⟩, sv⟩
theorem sseg_of (h : StV D W k st c) : Calls Tryz.prog 24 #[.pointer (some ⟨k.ps, 0, none⟩)] W fun e w' => e = .returned (.pointer (some ⟨k.pg, 0, none⟩)) ∧ w' = W := by
  obtain ⟨_, c1, _⟩ := h.cells
  clear h
  go_enter Tryz.func24, Tryz.ntmps24
  go_wp2
  go_ret
  exact ⟨rfl, rfl⟩
theorem slow_of (h : StV D W k st c) : Calls Tryz.prog 85 #[.pointer (some ⟨k.ps, 0, none⟩)] W fun e w' => e = .returned (.bool (lowB st.L st.s.r)) ∧ Below W.heap.size W w' := by
  obtain ⟨_, c1, _⟩ := h.cells
  have HL : Hid (Calls Tryz.prog 140 #[.pointer (some ⟨k.pg, 0, none⟩)] W fun e w' => e = .returned (.bool (lowB st.L st.s.r)) ∧ Below W.heap.size W w') := gLow_of k.pg k.gg st.s.r st.L W h.sg
  clear h
  go_enter Tryz.func85, Tryz.ntmps85
  go_wp2_with (go_at_call 140; refine HL.out.mono ?_; rintro e w2 ⟨rfl, hb⟩)
  go_ret
  exact ⟨rfl, hb⟩
def lastI (la : List Int) (z : Int) : Int := if 0 ≤ z then la.getD z.toNat 0 else 0
theorem slast_of (z : Int) (h : StV D W k st c) : Calls Tryz.prog 28 #[.pointer (some ⟨k.ps, 0, none⟩), .int .i64 z] W fun e w' => e = .returned (.int .u64 (lastI st.la z)) ∧ Below W.heap.size W w' := by
  obtain ⟨_, _, _, _, c4, _⟩ := h.cells
  obtain ⟨N, hN⟩ : ∃ N, N = st.la.length := ⟨_, rfl⟩
  rw [← hN] at c4
  by_cases h0 : z < 0
  · have HE : Hid (lastI st.la z = 0) := by show _ = _; unfold lastI; rw [if_neg (by omega)]
    clear h
    go_enter Tryz.func28, Tryz.ntmps28
    go_wp2
    go_ret
    exact ⟨by rw [HE.out]; rfl, Below.refl _ _⟩
  · obtain ⟨i, rfl⟩ : ∃ i : Nat, z = i := ⟨z.toNat, by omega⟩
    by_cases h1 : i < N
    · have hlt : ¬ (N : Int) ≤ i := by omega
      have hi' : (i : Int) < N := by omega
      have y0 : W.cell? ⟨k.lb, i, none⟩ = some (.int .u64 (lastI st.la i)) := by
        rw [h.hl.cell]
        unfold lastI
        simp [kInts, hN ▸ h1, List.getD]
      generalize lastI st.la i = v at y0 ⊢
      clear h hN
      go_enter Tryz.func28, Tryz.ntmps28
      go_wp2
      go_ret
      exact ⟨rfl, Below.refl _ _⟩
    · have hge : (N : Int) ≤ i := by omega
      have HE : Hid (lastI st.la i = 0) := by show _ = _; unfold lastI; simp [List.getD, List.getElem?_eq_none (by omega : st.la.length ≤ i)]
      clear h hN
      go_enter Tryz.func28, Tryz.ntmps28
      go_wp2
      go_ret
      exact ⟨by rw [HE.out]; rfl, Below.refl _ _⟩
set_option maxHeartbeats 4000000 in
theorem smark_of (h : StV D W k st c) (hc : c < 100000) (hS : st.S.length ≤ 100000) (ho : st.o = 0 ∨ st.o = 1) : Calls Tryz.prog 79 #[.pointer (some ⟨k.ps, 0, none⟩)] W fun e w' => e = .returned (.int .u16 (markM st).1) ∧ Sv D W k (markM st).2 c w' := by
  obtain ⟨c0, c1, c2, c3, c4, c5⟩ := h.cells
  obtain ⟨o1, ho1⟩ : ∃ o1, o1 = 1 - st.o := ⟨_, rfl⟩
  have hwo : IntKind.i64.wrap (1 - st.o) = o1 := by rw [ho1, IntKind.wrap_i64]; omega
  have H : Hid (StV D W k st c ∧ o1 = 1 - st.o) := ⟨h, ho1⟩
  have kc : ∀ Y, Below W.heap.size W Y → Y.cell? ⟨k.ps, 0, none⟩ = some (.pointer (some ⟨k.pd, 0, none⟩)) ∧ Y.cell? ⟨k.ps, 2, none⟩ = some (.pointer (some ⟨k.pm, 0, none⟩)) ∧ Y.cell? ⟨k.ps, 3, none⟩ = some (.int .u64 st.q) := fun Y hY => ⟨(h.under hY).cells.1, (h.under hY).cells.2.2.1, (h.under hY).cells.2.2.2.1⟩
  have HAl : Hid (∀ Y, Below W.heap.size W Y → Calls Tryz.prog 23 #[.pointer (some ⟨k.pm, 0, none⟩)] Y fun e Z => ∃ a n cc, e = .returned (.slice a n cc) ∧ (KIn Z a n st.S ∧ n ≤ cc ∧ Below W.heap.size W Z) ∧ Z.cell? ⟨k.ps, 0, none⟩ = some (.pointer (some ⟨k.pd, 0, none⟩)) ∧ Z.cell? ⟨k.ps, 2, none⟩ = some (.pointer (some ⟨k.pm, 0, none⟩)) ∧ Z.cell? ⟨k.ps, 3, none⟩ = some (.int .u64 st.q)) := fun Y hY => by
    refine (mAll_of k.pm k.b1 k.b2 st.S c Y (h.under hY).mp hc).mono ?_
    rintro e Z ⟨a, n, cc, rfl, ow, hZ⟩
    have hb := hY.trans (hZ.mono hY.size)
    have hn : st.S.length = n := (own_pl ow).1
    exact ⟨a, n, cc, rfl, ⟨own_kin ow (by unfold maxLen; omega) h.mp.good.fits, lown_cap ow, hb⟩, kc Z hb⟩
  have HSa : Hid (∀ Y a n cc, (KIn Y a n st.S ∧ n ≤ cc ∧ Below W.heap.size W Y) → Calls Tryz.prog 43 #[.pointer (some ⟨k.pd, 0, none⟩), .int .i64 o1, .agg #[.int .u64 st.q, .slice a n cc]] Y fun e Z => e = .returned (.int .u16 (svE st.s o1 st.S)) ∧ Sv D W k { st with zs := svZ st.s st.zs o1 st.q st.S } c Z ∧ Z.cell? ⟨k.ps, 0, none⟩ = some (.pointer (some ⟨k.pd, 0, none⟩)) ∧ Z.cell? ⟨k.ps, 2, none⟩ = some (.pointer (some ⟨k.pm, 0, none⟩)) ∧ Z.cell? ⟨k.ps, 3, none⟩ = some (.int .u64 st.q)) := fun Y a n cc hY => by
    have hv := h.under hY.2.2
    refine (ksave_of o1 st.q a n cc st.S hv.dv hv.wf hv.fq hY.1 hY.2.1).mono ?_
    rintro e Z ⟨rfl, hs⟩
    have sv := hv.svstep hs (swf_svZ hv.wf _ _ _)
    obtain ⟨D9, hv9, hD9, ho9⟩ := sv
    exact ⟨rfl, Sv.from hY.2.2 ⟨D9, hv9, hD9, ho9⟩, hv9.cells.1, hv9.cells.2.2.1, hv9.cells.2.2.2.1⟩
  clear h kc ho1
  go_enter Tryz.func79, Tryz.ntmps79
  go_wp2_with fail
  go_region_held3 (fun Y => Y.cell? ⟨k.ps, 0, none⟩ = some (.pointer (some ⟨k.pd, 0, none⟩)) ∧ Y.cell? ⟨k.ps, 2, none⟩ = some (.pointer (some ⟨k.pm, 0, none⟩)) ∧ Y.cell? ⟨k.ps, 3, none⟩ = some (.int .u64 st.q)) (first | exact ⟨c0, c2, c3⟩ | exact ⟨d0, d1, d2⟩ | exact ⟨e0, e1, e2⟩)
    (first
    | (go_simp; go_at_call 23; refine (HAl.out _ (by exact (Below.refl _ _).drew)).mono ?_; rintro e Y ⟨a, n, cc, rfl, hY, d0, d1, d2⟩)
    | (go_simp; go_at_call 43; refine (HSa.out _ a n cc hY).mono ?_; rintro e Z ⟨rfl, sv, e0, e1, e2⟩))
  have HZ : Hid (Sv D W k { st with zs := svZ st.s st.zs o1 st.q st.S } c Z) := sv
  clear sv hY d0 d1 d2 e0 e1 e2 c0 c1 c2 c3 c4 c5 HAl HSa
  by_cases hE : svE st.s o1 st.S = 0
  · have HM : Hid (markM st = (0, { st with zs := svZ st.s st.zs o1 st.q st.S, o := o1 })) := by
      have e := H.out.2
      show _ = _
      unfold markM
      rw [← e, if_pos hE, hE]
    obtain ⟨D9, hv9, hD9, ho9⟩ := HZ.out
    obtain ⟨_, _, _, _, _, z5⟩ := hv9.cells
    have f5 := hv9.hp.frozen 5
    have HV : Hid (Sv D W k { st with zs := svZ st.s st.zs o1 st.q st.S, o := o1 } c (Z.setCell ⟨k.ps, 5, none⟩ (.int .i64 o1))) := Sv.next hD9 ho9 (hv9.setP (q := st.q) (o := o1) rfl hv9.fq)
    clear hv9 hD9 ho9 HZ
    simp only at z5
    rw [hE]
    clear hE
    go_wp2
    go_ret
    rw [HM.out]
    exact ⟨rfl, HV.out⟩
  · have hE' : (svE st.s o1 st.S == 0) = false := by simpa using hE
    have HM : Hid (markM st = (svE st.s o1 st.S, { st with zs := svZ st.s st.zs o1 st.q st.S })) := by
      have e := H.out.2
      show _ = _
      unfold markM
      rw [← e, if_neg hE]
    generalize svE st.s o1 st.S = E at HM hE hE' ⊢
    go_wp2
    go_ret
    rw [HM.out]
    exact ⟨rfl, HZ.out⟩
set_option maxHeartbeats 4000000 in
theorem sclear_of (z : Int) (h : StV D W k st c) (hc : c < 100000) : Calls Tryz.prog 80 #[.pointer (some ⟨k.ps, 0, none⟩), .int .i64 z] W fun e w' => e = .returned (.bool (decide (clearOk st z))) ∧ Sv D W k (clearM st z) c w' := by
  obtain ⟨c0, c1, c2, c3, c4, c5⟩ := h.cells
  have H : Hid (StV D W k st c) := h
  have HSt : Hid (∀ Y, Below W.heap.size W Y → Calls Tryz.prog 25 #[.pointer (some ⟨k.pg, 0, none⟩), .int .i64 z] Y fun e Z => e = .returned (.int .u8 (stZ st.L z)) ∧ Z = Y) := fun Y hY => gState_of k.pg k.gg st.s.r st.L z Y (h.under hY).sg
  by_cases h3 : stZ st.L z = 3
  · obtain ⟨i, rfl, hi⟩ := st3_in h3
    have hiz : i < st.la.length := by have := h.len; omega
    have kc : ∀ Y, Below W.heap.size W Y → Y.cell? ⟨k.ps, 1, none⟩ = some (.pointer (some ⟨k.pg, 0, none⟩)) ∧ Y.cell? ⟨k.ps, 2, none⟩ = some (.pointer (some ⟨k.pm, 0, none⟩)) := fun Y hY => ⟨(h.under hY).cells.2.1, (h.under hY).cells.2.2.1⟩
    by_cases he : emIn st.S i
    · have HIn : Hid (∀ Y, Below W.heap.size W Y → Calls Tryz.prog 132 #[.pointer (some ⟨k.pm, 0, none⟩), .int .i64 (i : Nat)] Y fun e Z => ∃ a cc, e = .returned (.slice a 0 cc) ∧ (Below W.heap.size W Z) ∧ Z.cell? ⟨k.ps, 1, none⟩ = some (.pointer (some ⟨k.pg, 0, none⟩)) ∧ Z.cell? ⟨k.ps, 2, none⟩ = some (.pointer (some ⟨k.pm, 0, none⟩))) := fun Y hY => by
        refine (mIn_of k.pm k.b1 k.b2 st.S c (i : Nat) Y (h.under hY).mp hc).mono ?_
        rintro e Z ⟨L, a, n, cc, rfl, hI, ow, hZ⟩
        have hb := hY.trans (hZ.mono hY.size)
        have hn : L.length = n := (own_pl ow).1
        rw [(emIn_iff hI).1 he] at hn
        subst hn
        exact ⟨a, cc, rfl, hb, kc Z hb⟩
      have HM : Hid (decide (clearOk st (i : Nat)) = true ∧ clearM st (i : Nat) = { st with zs := resetZ st.zs (i : Nat), la := st.la.set i 0, L := turnZ st.L (i : Nat) 3 1 }) := by
        have ho : clearOk st (i : Nat) := ⟨h3, he⟩
        refine ⟨by simp [ho], ?_⟩
        unfold clearM
        rw [if_pos ho, Int.toNat_natCast]
      have HRe : Hid (∀ Y, Below W.heap.size W Y → Calls Tryz.prog 90 #[.pointer (some ⟨k.pd, 0, none⟩), .int .i64 (i : Nat)] Y fun e Z => (∃ v, e = .returned v) ∧ Sv D W k { st with zs := resetZ st.zs (i : Nat) } c Z) := fun Y hY => by
        have hv := h.under hY
        refine (reset_of (i : Nat) hv.dv).mono ?_
        rintro e Z ⟨rfl, hs⟩
        exact ⟨⟨_, rfl⟩, Sv.from hY (hv.dvstep hs (hv.wf.reset _))⟩
      have HAf : Hid (∀ Z, Sv D W k { st with zs := resetZ st.zs (i : Nat) } c Z → (∃ old, Z.cell? ⟨k.lb, i, none⟩ = some (.int .u64 old)) ∧ Z.frozen? ⟨k.lb, i, none⟩ = false ∧ Z.cell? ⟨k.ps, 1, none⟩ = some (.pointer (some ⟨k.pg, 0, none⟩)) ∧ Z.cell? ⟨k.ps, 4, none⟩ = some (.slice (some ⟨k.lb, 0, none⟩) st.la.length st.la.length) ∧ k.ps ≠ k.lb ∧ k.lb ≠ k.ps ∧ Calls Tryz.prog 133 #[.pointer (some ⟨k.pg, 0, none⟩), .int .i64 (i : Nat)] (Z.setCell ⟨k.lb, i, none⟩ (.int .u64 0)) fun e w' => e = .returned (.bool true) ∧ Sv D W k { st with zs := resetZ st.zs (i : Nat), la := st.la.set i 0, L := turnZ st.L (i : Nat) 3 1 } c w') := by
        intro Z sv
        obtain ⟨D4, hv4, hD4, ho4⟩ := sv
        have n1 : k.ps ≠ k.lb := (nodup7 hv4.ap).1.2.2.2.2.2
        refine ⟨⟨st.la[i], by rw [hv4.hl.cell]; simp [kInts, hiz]⟩, hv4.hl.frozen i, hv4.cells.2.1, hv4.cells.2.2.2.2.1, n1, fun e => n1 e.symm, ?_⟩
        obtain ⟨D5, hv5, hD5, ho5⟩ := Sv.next hD4 ho4 (hv4.setLa i 0)
        refine (gClear_of k.pg k.gg st.s.r st.L (i : Nat) _ hv5.sg).mono ?_
        rintro e w' ⟨rfl, h1, h2⟩
        exact ⟨by simp [h3], Sv.next hD5 ho5 (hv5.sgstep h1 h2 (turnZ_length _ _ _ _))⟩
      have HC0 : Hid (∀ Y, Below W.heap.size W Y → Y.cell? ⟨k.ps, 0, none⟩ = some (.pointer (some ⟨k.pd, 0, none⟩))) := fun Y hY => (h.under hY).cells.1
      have h3' : (stZ st.L (i : Nat) != 3) = false := by simp [h3]
      clear h kc he
      go_enter Tryz.func80, Tryz.ntmps80
      go_wp2_with (first
        | (go_at_call 25; refine (HSt.out _ (Below.refl _ _)).mono ?_; rintro e w2 ⟨rfl, rfl⟩)
        | (go_at_call 132; refine (HIn.out _ (Below.refl _ _)).mono ?_; rintro e w3 ⟨a, cc, rfl, hb3, d1, d2⟩; have d0 := HC0.out _ hb3)
        | (go_at_call 90; refine (HRe.out _ hb3).mono ?_; rintro e w4 ⟨⟨v4, rfl⟩, sv4⟩; obtain ⟨⟨old, y0⟩, yf, y1, y4, n1, n2, hcl⟩ := HAf.out _ sv4; clear sv4)
        | (go_at_call 133; refine hcl.mono ?_; rintro e w5 ⟨rfl, sv5⟩))
      go_ret
      rw [HM.out.1, HM.out.2]
      exact ⟨rfl, sv5⟩
    · have HIn : Hid (∀ Y, Below W.heap.size W Y → Calls Tryz.prog 132 #[.pointer (some ⟨k.pm, 0, none⟩), .int .i64 (i : Nat)] Y fun e Z => ∃ (a : Option Addr) (n cc : Nat), e = .returned (.slice a n cc) ∧ (0 : Int) < n ∧ Below W.heap.size W Z) := fun Y hY => by
        refine (mIn_of k.pm k.b1 k.b2 st.S c (i : Nat) Y (h.under hY).mp hc).mono ?_
        rintro e Z ⟨L, a, n, cc, rfl, hI, ow, hZ⟩
        have hn : L.length = n := (own_pl ow).1
        have h0 : ¬ L.length = 0 := fun e => he ((emIn_iff hI).2 e)
        exact ⟨a, n, cc, rfl, by omega, hY.trans (hZ.mono hY.size)⟩
      have HM : Hid (decide (clearOk st (i : Nat)) = false ∧ clearM st (i : Nat) = st) := by
        have ho : ¬ clearOk st (i : Nat) := fun ho => he ho.2
        refine ⟨by simp [ho], ?_⟩
        unfold clearM
        rw [if_neg ho]
      have h3' : (stZ st.L (i : Nat) != 3) = false := by simp [h3]
      clear h kc he
      go_enter Tryz.func80, Tryz.ntmps80
      go_wp2_with (first
        | (go_at_call 25; refine (HSt.out _ (Below.refl _ _)).mono ?_; rintro e w2 ⟨rfl, rfl⟩)
        | (go_at_call 132; refine (HIn.out _ (Below.refl _ _)).mono ?_; rintro e w3 ⟨a, n, cc, rfl, hn0, hb3⟩))
      go_ret
      rw [HM.out.1, HM.out.2]
      exact ⟨rfl, (Sv.start H.out).under hb3⟩
  · have h3' : (stZ st.L z != 3) = true := by simpa using h3
    have HM : Hid (decide (clearOk st z) = false ∧ clearM st z = st) := by
      have ho : ¬ clearOk st z := fun ho => h3 ho.1
      refine ⟨by simp [ho], ?_⟩
      unfold clearM
      rw [if_neg ho]
    generalize stZ st.L z = S at h3' HSt
    clear h h3
    go_enter Tryz.func80, Tryz.ntmps80
    go_wp2_with (go_at_call 25; refine (HSt.out _ (Below.refl _ _)).mono ?_; rintro e w2 ⟨rfl, rfl⟩)
    go_ret
    rw [HM.out.1, HM.out.2]
    exact ⟨rfl, Sv.start H.out⟩
end
end Go.Proofs.YtfcbcpjcmihooaaGreat

/- What one call of the document's own Save does. -/
namespace Go.Proofs.YtfcbcpjcmihooaaGreat
open Go.RowKit Go.Shelf
set_option linter.unusedVariables false
set_option maxRecDepth 4000

theorem rShape_of {O : Nat → Prop} {W : World} {p : Nat} {s : Sh} {zs : List Zn} (hd : Dv 142 O W p s zs) :
    Calls Tryz.prog 99 #[.pointer (some ⟨p, 0, none⟩)] W fun e w' => e = .returned (.agg (shL s).toArray) ∧ Below W.heap.size W w' := by
  obtain ⟨g, c, vs, hv⟩ := hd
  obtain ⟨q, hq⟩ : ∃ q, q = W.heap.size := ⟨_, rfl⟩
  have hb : Blk (W.alloc (.cells #[.int .i64 0, .int .i64 0, .int .i64 0, .int .i64 0] 23)) q [.int .i64 0, .int .i64 0, .int .i64 0, .int .i64 0] 23 := Blk.new' hq.symm rfl
  have hbel : Below q W (W.alloc (.cells #[.int .i64 0, .int .i64 0, .int .i64 0, .int .i64 0] 23)) := (Below.refl _ _).alloc (by omega) _
  have hv' := hv.under (by rw [← hq]; exact hbel)
  rw [← hq]
  go_enter Tryz.func99, Tryz.ntmps99
  go_upto_region 1 with fail
  rw [← hq]
  generalize hW1 : World.alloc _ _ = W1 at *
  obtain ⟨c0, c1, c2, c3, c4⟩ := hv'.pcell
  have e0 : W1.cell? ⟨q, 0, none⟩ = some (.int .i64 0) := hb.cell 0
  have e1 : W1.cell? ⟨q, 1, none⟩ = some (.int .i64 0) := hb.cell 1
  have e2 : W1.cell? ⟨q, 2, none⟩ = some (.int .i64 0) := hb.cell 2
  have e3 : W1.cell? ⟨q, 3, none⟩ = some (.int .i64 0) := hb.cell 3
  have f0 := hb.frozen 0
  have f1 := hb.frozen 1
  have f2 := hb.frozen 2
  have f3 := hb.frozen 3
  have HB : Hid (Blk W1 q [.int .i64 0, .int .i64 0, .int .i64 0, .int .i64 0] 23 ∧ Below q W W1) := ⟨hb, hbel⟩
  clear hb hbel hv hv' hW1 hq
  go_wp2
  refine bodyPost_ret (results_cell_one (p := 2) (ty := 23) rfl _ _ q [.int .i64 s.z, .int .i64 s.zb, .int .i64 s.b, .int .i64 s.r] _ _ rfl ((((HB.out.1.set 0 _).set 1 _).set 2 _).set 3 _) Tryz.underlying23 rfl Tryz.info_shape) rfl ⟨rfl, ?_⟩
  exact (((HB.out.2.setCell (p := ⟨q, 0, none⟩) (Nat.le_refl _) _).setCell (p := ⟨q, 1, none⟩) (Nat.le_refl _) _).setCell (p := ⟨q, 2, none⟩) (Nat.le_refl _) _).setCell (p := ⟨q, 3, none⟩) (Nat.le_refl _) _
set_option maxHeartbeats 4000000 in
theorem dkSave_of (slot seq : Int) (A : Option Addr) (n C : Nat) (ps : List Pl) {O : Nat → Prop} {W : World} {p : Nat} {s : Sh} {zs : List Zn} (hd : Dv 142 O W p s zs) (hw : Wf s zs) (hs : FitsU seq) (hk : KIn W A n ps) (hn : n ≤ 100000000) :
    Calls Tryz.prog 46 #[.pointer (some ⟨p, 0, none⟩), .int .i64 slot, .agg #[.int .u64 seq, .slice A n C]] W (Saved 142 .i64 O W p s zs slot seq ps) := by
  obtain ⟨q, hq⟩ : ∃ q, q = W.heap.size := ⟨_, rfl⟩
  have H : Hid (Dv 142 O W p s zs ∧ Wf s zs ∧ FitsU seq ∧ KIn W A n ps ∧ n ≤ 100000000 ∧ q = W.heap.size) := ⟨hd, hw, hs, hk, hn, hq⟩
  have HW : Hid (Blk (W.alloc (.cells #[.int .u64 seq, .slice A n C] 86)) q [.int .u64 seq, .slice A n C] 86 ∧ Below W.heap.size W (W.alloc (.cells #[.int .u64 seq, .slice A n C] 86))) := ⟨Blk.new' hq.symm rfl, (Below.refl _ _).alloc (Nat.le_refl _) _⟩
  clear hd hw hs hk hn
  by_cases hsl : 0 ≤ slot ∧ slot < 2
  · obtain ⟨i, rfl⟩ : ∃ i : Nat, slot = i := ⟨slot.toNat, by omega⟩
    have hi2 : (i : Int) < 2 := hsl.2
    obtain ⟨E, hE⟩ : ∃ E, E = ckE s ps := ⟨_, rfl⟩
    have HE : Hid (E = ckE s ps ∧ svE s i ps = E ∧ i < 2) := ⟨hE, by unfold svE; rw [if_pos hsl, hE], by omega⟩
    clear hE hsl
    go_enter Tryz.func46, Tryz.ntmps46
    go_upto_region 1 with fail
    rw [← hq]
    clear hq
    generalize hW1 : World.alloc W _ = W1 at HW ⊢
    clear hW1
    go_cut [15] (fun v X => v = .bool false ∧ X = W1)
    case first =>
      have h01 : i = 0 ∨ i = 1 := by have := HE.out.2.2; omega
      rcases h01 with rfl | rfl
      · go_wp2_with fail
        go_meet
        exact ⟨rfl, rfl⟩
      · go_wp2_with fail
        go_meet
        exact ⟨rfl, rfl⟩
    case rest =>
    obtain ⟨rfl, hX⟩ := hcut
    replace hX := hX.symm
    subst hX
    go_upto_region 3 with fail
    have c0 : W1.cell? ⟨q, 0, none⟩ = some (.int .u64 seq) := HW.out.1.cell 0
    have c1 : W1.cell? ⟨q, 1, none⟩ = some (.slice A n C) := HW.out.1.cell 1
    have HSh : Hid (∀ X, Below W1.heap.size W1 X → Calls Tryz.prog 99 #[.pointer (some ⟨p, 0, none⟩)] X fun e Y => e = .returned (.agg (shL s).toArray) ∧ Below W1.heap.size W1 Y ∧ Y.cell? ⟨q, 0, none⟩ = some (.int .u64 seq) ∧ Y.cell? ⟨q, 1, none⟩ = some (.slice A n C)) := by
      intro X hX
      refine (rShape_of (kdv_under (kdv_under H.out.1 HW.out.2) hX)).mono ?_
      rintro e Y ⟨rfl, hY⟩
      have hb := hX.trans (hY.mono hX.size)
      have kb := HW.out.1.below hb HW.out.1.lt
      exact ⟨rfl, hb, kb.cell 0, kb.cell 1⟩
    have HEn : Hid (∀ X, Below W1.heap.size W1 X → Calls Tryz.prog 98 #[.agg (shL s).toArray, .agg #[.int .u64 seq, .slice A n C]] X fun e Z => ∃ av nv cv, e = .returned (.tuple #[.slice av nv cv, .int .i64 E]) ∧ RowAt (fun j => W.heap.size ≤ j ∧ j < Z.heap.size) Z (.slice av nv cv) (ckO s seq ps) ∧ Below W.heap.size W Z ∧ Z.cell? ⟨q, 0, none⟩ = some (.int .u64 seq) ∧ Z.cell? ⟨q, 1, none⟩ = some (.slice A n C)) := by
      intro X hX
      have hbX := HW.out.2.trans (hX.mono HW.out.2.size)
      refine (dkEncode_of s seq A n C ps X (by have := H.out.2.1.right.1; omega) H.out.2.2.1 (H.out.2.2.2.1.below hbX) H.out.2.2.2.2.1).mono ?_
      rintro e Z ⟨v, rfl, rZ, bZ⟩
      obtain ⟨av, cv, rfl⟩ := rZ.slice
      have hb := hX.trans (bZ.mono hX.size)
      have kb := HW.out.1.below hb HW.out.1.lt
      exact ⟨av, _, cv, by rw [HE.out.1], rZ.mono (fun c hc hlt => ⟨Nat.le_trans hbX.size hc, hlt⟩), hbX.trans (bZ.mono hbX.size), kb.cell 0, kb.cell 1⟩
    go_region_held3 (fun X => X.cell? ⟨q, 0, none⟩ = some (.int .u64 seq) ∧ X.cell? ⟨q, 1, none⟩ = some (.slice A n C)) (first | exact ⟨c0, c1⟩ | exact ⟨d0, d1⟩ | exact ⟨e0, e1⟩)
      (first
      | (go_simp; go_at_call 98; refine (HEn.out _ (by exact bY)).mono ?_; rintro e Z ⟨av, nv, cv, rfl, rZ, bZ, e0, e1⟩)
      | (go_simp; go_at_call 99; refine (HSh.out _ (by exact (Below.refl _ _).drew)).mono ?_; rintro e Y ⟨rfl, bY, d0, d1⟩))
    all_goals (
      have HZ : Hid (RowAt (fun j => W.heap.size ≤ j ∧ j < Z.heap.size) Z (.slice av nv cv) (ckO s seq ps) ∧ Below W.heap.size W Z) := ⟨rZ, bZ⟩
      clear rZ bZ e0 e1 d0 d1 bY HEn HSh c0 c1
      by_cases hE0 : E = 0
      · subst hE0
        have hck : ckE s ps = 0 := HE.out.1.symm
        obtain ⟨ls, hls⟩ : ∃ ls, ls = ckL s seq ps := ⟨_, rfl⟩
        have hO : ckO s seq ps = ls := by unfold ckO; rw [if_pos hck, hls]
        have hsz := ckL_size (seq := seq) hck
        have hsh := ckL_short (seq := seq) hck
        rw [← hls] at hsz hsh
        have hlz : (ls.length : Int) ≤ s.zb := by rw [hls, ckL_length]; exact (ckE_zero.1 hck).2
        have hnv : nv = ls.length := by obtain ⟨_, _, e⟩ := HZ.out.1.slice; cases e; rw [hO]
        have hiz : i < zs.length := by have h1 := H.out.2.1.len; have h2 := H.out.2.1.right.1; have := HE.out.2.2; omega
        have hd1 : Dv 142 (fun x => O x ∧ x < W.heap.size) Z p s zs := kdv_under H.out.1.there HZ.out.2
        have HL : Hid (ls = ckL s seq ps ∧ ckO s seq ps = ls ∧ (∀ D ∈ ls, (D.length : Int) = s.b) ∧ Short ls ∧ (ls.length : Int) ≤ s.zb ∧ nv = ls.length ∧ i < zs.length ∧ RowAt (fun j => W.heap.size ≤ j ∧ j < Z.heap.size) Z (.slice av nv cv) ls ∧ Below W.heap.size W Z) := ⟨hls, hO, hsz, hsh, hlz, hnv, hiz, by rw [← hO]; exact HZ.out.1, HZ.out.2⟩
        have HD : Hid (Dv 142 (fun x => O x ∧ x < W.heap.size) Z p s zs) := hd1
        have hnv4 : nv ≤ 4096 := by have h1 := H.out.2.1.right.2.2.2.1; omega
        clear hls hO hsz hsh hlz hnv hiz hd1 hck HZ
        go_upto_region 7 with (go_at_call 100; refine (rReset_of (i : Int) HD.out).mono ?_; rintro e V ⟨rfl, sV⟩)
        rw [resetZ_in] at sV
        have HV : Hid (SvSt 142 (fun x => O x ∧ x < W.heap.size) Z p s (zs.set i (ls.take 0, 0)) V) := by
          have := SvSt.step (O := fun x => O x ∧ x < W.heap.size) (W := Z) (fun x h => .inl h) (Out.refl _ _) sV
          show SvSt 142 (fun x => O x ∧ x < W.heap.size) Z p s (zs.set i (ls.take 0, 0)) V
          simpa using this
        clear sV
        go_wp2
        go_loopw [9] (fun x wr => ∃ k : Nat, x = .int .i64 k ∧ k ≤ nv ∧ SvSt 142 (fun x => O x ∧ x < W.heap.size) Z p s (zs.set i (ls.take k, 0)) wr) (fun x _ => nv - (intOf x).toNat)
        case atStart => exact ⟨0, rfl, Nat.zero_le _, HV.out⟩
        case round =>
          obtain ⟨k, rfl, hk, O', hdk, hOk, hok⟩ := hrel
          rcases Nat.lt_or_ge k nv with hlt | hge
          · obtain ⟨D, hD⟩ : ∃ D, ls[k]? = some D := ⟨ls[k]'(by have := HL.out.2.2.2.2.2.1; omega), by simp⟩
            have row := HL.out.2.2.2.2.2.2.2.1.out hok (fun r e h => by obtain ⟨_, _, r2, _⟩ := HL.out.2.2.2.2.2.2.2.1; have := r2 r e; omega) (fun c _ hc _ h => by omega)
            obtain ⟨b', off, A1, L1, C1, hA, k1, k2, k3, _, k5⟩ := (row.bsin HL.out.2.2.2.1).at hD
            subst hA
            have hAp := rAppend_of (i : Int) A1 L1 C1 D hdk (wf_put H.out.2.1 i k HL.out.2.2.1 HL.out.2.2.2.2.1) k2 k3 k5
            have hk' : (k : Int) < nv := by omega
            have hwk : IntKind.i64.wrap ((k : Int) + 1) = (k : Int) + 1 := by rw [IntKind.wrap_i64]; omega
            have HA : Hid (Calls Tryz.prog 101 #[.pointer (some ⟨p, 0, none⟩), .int .i64 (i : Int), .slice A1 L1 C1] wr fun e w' => (∃ v, e = .returned v) ∧ SvSt 142 (fun x => O x ∧ x < W.heap.size) Z p s (zs.set i (ls.take (k + 1), 0)) w') := by
              refine hAp.mono ?_
              rintro e w' ⟨rfl, st⟩
              rw [app_next HL.out.2.2.2.2.2.2.1 hD (HL.out.2.2.1 D (List.mem_of_getElem? hD)) HL.out.2.2.2.2.1] at st
              exact ⟨⟨_, rfl⟩, SvSt.step hOk hok st⟩
            clear hAp row k2 k3 k5 hD hdk hOk hok
            go_wp2_with (go_at_call 101; refine HA.out.mono ?_; rintro e w9 ⟨⟨v9, rfl⟩, st9⟩)
            have H9 : Hid (SvSt 142 (fun x => O x ∧ x < W.heap.size) Z p s (zs.set i (ls.take (k + 1), 0)) w9) := st9
            clear st9
            go_roundw
            case rel => exact ⟨k + 1, by simp, by omega, H9.out⟩
            case measure => simp [intOf]; omega
          · obtain rfl : k = nv := by omega
            have htk : ls.take k = ls := List.take_of_length_le (by rw [HL.out.2.2.2.2.2.1]; exact Nat.le_refl _)
            rw [htk] at hdk
            have HF : Hid (Calls Tryz.prog 102 #[.pointer (some ⟨p, 0, none⟩)] wr fun e w' => (∃ v, e = .returned v) ∧ SvSt 142 O W p s (putZ zs i ls) w') := by
              refine (rFlush_of hdk).mono ?_
              rintro e w' ⟨hv, st⟩
              exact ⟨hv, SvSt.of (O1 := fun x => O x ∧ x < W.heap.size) (fun x h => h.1) HL.out.2.2.2.2.2.2.2.2 (SvSt.step hOk hok st)⟩
            clear hdk hOk hok htk
            go_wp2_with (go_at_call 102; refine HF.out.mono ?_; rintro e w9 ⟨⟨v9, rfl⟩, st9⟩)
            go_ret
            refine ⟨by rw [HE.out.2.1]; rfl, ?_⟩
            unfold svZ
            rw [if_pos HE.out.2.1, Int.toNat_natCast, ← HL.out.1]
            exact st9
      · have hEb : (E != 0) = true := by simp [hE0]
        have HN : Hid (SvSt 142 O W p s (svZ s zs i seq ps) Z) := by
          have : svZ s zs i seq ps = zs := by unfold svZ; rw [if_neg (by rw [HE.out.2.1]; exact hE0)]
          rw [this]
          exact (SvSt.start H.out.1).under HZ.out.2
        clear hE0 HZ
        go_wp2
        go_ret
        exact ⟨by rw [HE.out.2.1]; rfl, HN.out⟩)
  · have HN : Hid (∀ X, Below W.heap.size W X → Saved 142 .i64 O W p s zs slot seq ps (.returned (.int .i64 1)) X) := by
      intro X hX
      have h1 : svE s slot ps = 1 := by unfold svE; rw [if_neg hsl]
      refine ⟨by rw [h1], ?_⟩
      have : svZ s zs slot seq ps = zs := by unfold svZ; rw [if_neg (by rw [h1]; decide)]
      rw [this]
      exact (SvSt.start H.out.1).under hX
    have h0 : (slot != 0) = true := by simp; omega
    have h1 : (slot != 1) = true := by simp; omega
    clear hsl
    go_enter Tryz.func46, Tryz.ntmps46
    go_wp2
    go_ret
    exact HN.out _ HW.out.2
end Go.Proofs.YtfcbcpjcmihooaaGreat

/- What one call of the document's Read does. -/
namespace Go.Proofs.YtfcbcpjcmihooaaGreat
open Go.RowKit Go.Shelf
set_option linter.unusedVariables false
set_option maxRecDepth 4000
section
variable {O : Nat → Prop} {W : World} {p : Nat} {s : Sh} {zs : List Zn}
set_option maxHeartbeats 4000000 in
theorem rRead_of (zn bn : Int) (hd : Dv 142 O W p s zs) (hw : Wf s zs) :
    Calls Tryz.prog 52 #[.pointer (some ⟨p, 0, none⟩), .agg #[.int .i64 zn, .int .i64 bn]] W (ReadE .i64 W zs zn bn) := by
  obtain ⟨q, hq⟩ : ∃ q, q = W.heap.size := ⟨_, rfl⟩
  have ab : Blk (W.alloc (.cells #[.int .i64 zn, .int .i64 bn] 60)) q [.int .i64 zn, .int .i64 bn] 60 := Blk.new' hq.symm rfl
  have abel : Below q W (W.alloc (.cells #[.int .i64 zn, .int .i64 bn] 60)) := (Below.refl _ _).alloc (by omega) _
  have hd1 : Dv 142 O (W.alloc (.cells #[.int .i64 zn, .int .i64 bn] 60)) p s zs := by
    obtain ⟨g, c, vs, hv⟩ := hd; exact ⟨g, c, vs, hv.under (by rw [← hq]; exact abel)⟩
  go_enter Tryz.func52, Tryz.ntmps52
  go_upto_region 1 with fail
  rw [← hq]
  generalize hW1 : World.alloc _ _ = W1 at *
  clear hW1
  have e0 : W1.cell? ⟨q, 0, none⟩ = some (.int .i64 zn) := ab.cell 0
  have e1 : W1.cell? ⟨q, 1, none⟩ = some (.int .i64 bn) := ab.cell 1
  have HA : Hid (Below W.heap.size W W1 ∧ Wf s zs) := ⟨by rw [← hq]; exact abel, hw⟩
  clear ab abel hd hw hq
  obtain ⟨g, cz, vs, hv⟩ := hd1
  obtain ⟨p0, p1, p2, p3, c4⟩ := hv.pcell
  rcases zone_cases zs zn with ⟨i, z, rfl, hz, hi, hbb⟩ | ⟨hno, hbb⟩
  · obtain ⟨ua, uc, hu, hr, z0, z1⟩ := hv.at hz
    have hi' : (i : Int) < zs.length := by omega
    have hi0 : decide ((i : Int) < 0) = false := by simp
    have hi1 : decide ((zs.length : Int) ≤ (i : Int)) = false := by simp; omega
    have hi2 : decide (zs.length ≤ i) = false := by simp; omega
    have hzi : zoneIn zs i := ⟨by omega, by omega⟩
    clear hbb
    by_cases hbi : 0 ≤ bn ∧ bn ≤ (z.1.length : Int) - 1
    · obtain ⟨j, rfl⟩ : ∃ j : Nat, bn = j := ⟨bn.toNat, by omega⟩
      have hj : j < z.1.length := by omega
      obtain ⟨D, hD⟩ : ∃ D, z.1[j]? = some D := ⟨z.1[j], by simp⟩
      obtain ⟨b, off, A, L, C, rfl, k1, k2, k3, k4⟩ := hv.block HA.out.2 hz hu hD
      have HI : Hid (∀ V, Below W1.heap.size W1 V → Calls Tryz.prog 114 #[.slice A L C] V (LentE V D)) := fun V hV => rLent_of A L C D V (k2.below hV) k3 (by omega)
      have HZ : Hid (zs[i]? = some z ∧ z.1[j]? = some D) := ⟨hz, hD⟩
      have hj' : (j : Int) < z.1.length := by omega
      have hj0 : decide ((j : Int) < 0) = false := by simp
      have hj1 : decide ((z.1.length : Int) ≤ (j : Int)) = false := by simp; omega
      have hj2 : decide (z.1.length ≤ j) = false := by simp; omega
      clear k2 k3 k4 hv hr hu hz hD hbi
      go_quiet (fail)
      go_wp2
      go_quiet (fail)
      go_wp2
      go_region_held3 (fun w' => w'.cell? ⟨p, 4, none⟩ = some (.slice (some ⟨g, 0, none⟩) zs.length cz) ∧ w'.cell? ⟨q, 0, none⟩ = some (.int .i64 i) ∧ w'.cell? ⟨q, 1, none⟩ = some (.int .i64 j) ∧ w'.cell? ⟨g, i * 2, none⟩ = some (.slice (some ⟨b, off, none⟩) z.1.length uc) ∧ w'.cell? ⟨b, off + j, none⟩ = some (.slice A L C)) (first | exact ⟨c4, e0, e1, z0, k1⟩ | exact ⟨m4, m0, m1, n0, n1⟩)
        ((go_at_call 114; refine (HI.out _ (by exact ⟨rfl, rfl, rfl, Nat.le_refl _, fun _ _ => rfl⟩)).mono ?_; rintro e w3 ⟨h3, rfl, bk3, bl3⟩; have m4 := (bl3.cell (old_block c4)).trans c4; have m0 := (bl3.cell (old_block e0)).trans e0; have m1 := (bl3.cell (old_block e1)).trans e1; have n0 := (bl3.cell (old_block z0)).trans z0; have n1 := (bl3.cell (old_block k1)).trans k1))
      go_wp2
      go_ret2
      have hsz := HA.out.1.size
      have bl4 : Below W1.heap.size W1 w3 := ⟨bl3.os, bl3.tape, bl3.output, bl3.size, bl3.block⟩
      exact read_ok HZ.out.1 HZ.out.2 (bk3.mono (fun x hx _ => Nat.le_trans hsz hx)) (HA.out.1.trans (bl4.mono hsz))
    · have HN : Hid (zoneIn zs i ∧ ¬ blockIn zs i bn) := ⟨hzi, by unfold blockIn; rw [atZ_in hz]; exact hbi⟩
      by_cases hb0 : bn < 0
      · clear hv hr hu hz hbi hzi
        go_quiet (fail)
        go_wp2
        go_quiet (fail)
        go_wp2
        go_ret2
        exact read_none HN.out.1 HN.out.2 (HA.out.1.trans ⟨rfl, rfl, rfl, Nat.le_refl _, fun _ _ => rfl⟩)
      · have hge : (z.1.length : Int) ≤ bn := by omega
        have b0 : decide (bn < 0) = false := by simp; omega
        have b1 : decide ((z.1.length : Int) ≤ bn) = true := by simp; omega
        clear hv hr hu hz hbi hzi
        go_quiet (fail)
        go_wp2
        go_quiet (fail)
        go_wp2
        go_ret2
        exact read_none HN.out.1 HN.out.2 (HA.out.1.trans ⟨rfl, rfl, rfl, Nat.le_refl _, fun _ _ => rfl⟩)
  · have HN : Hid (¬ zoneIn zs zn) := hno
    rcases out_cases hno with h | ⟨h1, h2⟩
    · have hb : decide (zn < 0) = true := by simp [h]
      clear hbb hno hv
      go_quiet (fail)
      go_wp2
      go_ret2
      exact read_no HN.out (HA.out.1.trans ⟨rfl, rfl, rfl, Nat.le_refl _, fun _ _ => rfl⟩)
    · have hb : decide (zn < 0) = false := by simp; omega
      have hb2 : decide ((zs.length : Int) ≤ zn) = true := by simp [h2]
      clear hbb hno hv
      go_quiet (fail)
      go_wp2
      go_ret2
      exact read_no HN.out (HA.out.1.trans ⟨rfl, rfl, rfl, Nat.le_refl _, fun _ _ => rfl⟩)
end
end Go.Proofs.YtfcbcpjcmihooaaGreat

/- What one call of Flush, Mark, Clear, Last, Low, Get of the document's store does. -/
namespace Go.Proofs.YtfcbcpjcmihooaaGreat
open Go.RowKit
set_option linter.unusedVariables false
set_option maxRecDepth 4000
section
variable {D M : Nat → Prop} {W W' : World} {k : Rs} {st : St}
theorem SdV.svstep {zs' : List Zn} (h : SdV D M W k st) (hs : SvSt 142 D W k.pd st.s zs' W') (hw : Wf st.s zs') : Sd (SdO D M k) W k { st with zs := zs' } W' := by
  obtain ⟨O', hd, hO, ho⟩ := hs
  have hlen : zs'.length = st.zs.length := by have := hw.len; have := h.wf.len; omega
  have hn : ∀ x, k.has x → ¬ D x := fun x hx => (h.nd x hx).1
  refine ⟨fun x => O' x ∧ x < W'.heap.size, M, ⟨ho.blk h.hp (hn _ (.inl rfl)), hd.there, h.sg.out ho (hn _ (.inr (.inl rfl))) (hn _ (.inr (.inr (.inl rfl)))), h.mp.out ho (hn _ (.inr (.inr (.inr (.inl rfl))))) (fun x hx hd => h.dm x hd hx), ho.blk h.hl (hn _ (.inr (.inr (.inr (.inr rfl))))), hw, h.fq, by rw [hlen]; exact h.len, ?_, ?_, ?_, h.ap⟩, ?_, ho.mono (fun j e _ => .inl e)⟩
  · rintro x (hx | hx)
    · exact hx.2
    · exact Nat.lt_of_lt_of_le (h.lt x (.inr hx)) ho.size
  · intro x hx
    refine ⟨?_, (h.nd x hx).2⟩
    rintro ⟨hd, _⟩
    rcases hO x hd with h' | h'
    · exact hn x hx h'
    · have := h.kin x hx; omega
  · rintro x ⟨hx, _⟩ hm
    rcases hO x hx with h' | h'
    · exact h.dm x h' hm
    · have := h.lt x (.inr hm); omega
  · rintro x (⟨hx, _⟩ | hx | hx)
    · rcases hO x hx with h' | h'
      · exact .inl (.inl h')
      · exact .inr h'
    · exact .inl (.inr (.inl hx))
    · exact .inl (.inr (.inr hx))
theorem dsflush_of (h : SdV D M W k st) : Calls Tryz.prog 82 #[.pointer (some ⟨k.ps, 0, none⟩)] W fun e w' => (∃ v, e = .returned v) ∧ Sd (SdO D M k) W k (flushM st) w' := by
  obtain ⟨c0, _⟩ := h.cells
  have HF : Hid (Calls Tryz.prog 102 #[.pointer (some ⟨k.pd, 0, none⟩)] W fun e w' => (∃ v, e = .returned v) ∧ Sd (SdO D M k) W k (flushM st) w') := (rFlush_of h.dv).mono (fun e w' hh => ⟨hh.1, h.dvstep hh.2 h.wf.flush⟩)
  clear h
  go_enter Tryz.func82, Tryz.ntmps82
  go_wp2_with (go_at_call 102; refine HF.out.mono ?_; rintro e w2 ⟨⟨v, rfl⟩, sv⟩)
  first | go_end0 | refine bodyPost_ret (results_none rfl _ _ _) rfl ?_
  exact ⟨⟨_, rfl⟩, sv⟩
theorem dslow_of (h : SdV D M W k st) : Calls Tryz.prog 86 #[.pointer (some ⟨k.ps, 0, none⟩)] W fun e w' => e = .returned (.bool (lowB st.L st.s.r)) ∧ Below W.heap.size W w' := by
  obtain ⟨_, c1, _⟩ := h.cells
  have HL : Hid (Calls Tryz.prog 141 #[.pointer (some ⟨k.pg, 0, none⟩)] W fun e w' => e = .returned (.bool (lowB st.L st.s.r)) ∧ Below W.heap.size W w') := dgLow_of k.pg k.gg k.gc st.s st.L W h.sg
  clear h
  go_enter Tryz.func86, Tryz.ntmps86
  go_wp2_with (go_at_call 141; refine HL.out.mono ?_; rintro e w2 ⟨rfl, hb⟩)
  go_ret
  exact ⟨rfl, hb⟩
theorem dslast_of (z : Int) (h : SdV D M W k st) : Calls Tryz.prog 75 #[.pointer (some ⟨k.ps, 0, none⟩), .int .i64 z] W fun e w' => e = .returned (.int .u64 (lastI st.la z)) ∧ Below W.heap.size W w' := by
  obtain ⟨_, _, _, _, c4, _⟩ := h.cells
  obtain ⟨N, hN⟩ : ∃ N, N = st.la.length := ⟨_, rfl⟩
  rw [← hN] at c4
  by_cases h0 : z < 0
  · have HE : Hid (lastI st.la z = 0) := by show _ = _; unfold lastI; rw [if_neg (by omega)]
    clear h
    go_enter Tryz.func75, Tryz.ntmps75
    go_wp2
    go_ret
    exact ⟨by rw [HE.out]; rfl, Below.refl _ _⟩
  · obtain ⟨i, rfl⟩ : ∃ i : Nat, z = i := ⟨z.toNat, by omega⟩
    by_cases h1 : i < N
    · have hlt : ¬ (N : Int) ≤ i := by omega
      have hi' : (i : Int) < N := by omega
      have y0 : W.cell? ⟨k.lb, i, none⟩ = some (.int .u64 (lastI st.la i)) := by
        rw [h.hl.cell]
        unfold lastI
        simp [kInts, hN ▸ h1, List.getD]
      generalize lastI st.la i = v at y0 ⊢
      clear h hN
      go_enter Tryz.func75, Tryz.ntmps75
      go_wp2
      go_ret
      exact ⟨rfl, Below.refl _ _⟩
    · have hge : (N : Int) ≤ i := by omega
      have HE : Hid (lastI st.la i = 0) := by show _ = _; unfold lastI; simp [List.getD, List.getElem?_eq_none (by omega : st.la.length ≤ i)]
      clear h hN
      go_enter Tryz.func75, Tryz.ntmps75
      go_wp2
      go_ret
      exact ⟨by rw [HE.out]; rfl, Below.refl _ _⟩
set_option maxHeartbeats 1000000 in
theorem dsget_of (h : SdV D M W k st) (n : Pr) (hS : st.S.length ≤ 10000) (hp : Plc st.zs st.S) :
    Calls Tryz.prog 16 #[.pointer (some ⟨k.ps, 0, none⟩), .int .u32 n.1, .int .u64 n.2] W fun e w' => ∃ v, e = .returned (.tuple #[v, .bool (memT st n).isSome]) ∧ BkAt (fun x => W.heap.size ≤ x) w' v ((memT st n).getD []) ∧ Below W.heap.size W w' := by
  obtain ⟨s0, _, s2, _⟩ := h.cells
  have hG := dmGet_of k.pm st.S n W h.mp.d hS
  have H : Hid (SdV D M W k st ∧ Plc st.zs st.S) := ⟨h, hp⟩
  cases hg : getS st.S n with
  | none =>
    have hm : memT st n = none := by unfold memT memS; rw [hg]; rfl
    rw [hm]
    rw [hg] at hG
    clear h hp
    have HG : Hid (Calls Tryz.prog 51 #[.pointer (some ⟨k.pm, 0, none⟩), .int .u32 n.1, .int .u64 n.2] W fun e w' => e = .returned (.tuple #[.agg #[.int .i64 0, .int .i64 0], .bool false]) ∧ Below W.heap.size W w') := hG
    clear hG
    go_enter Tryz.func16, Tryz.ntmps16
    go_wp2_with (go_at_call 51; refine HG.out.mono ?_; rintro e W1 ⟨rfl, hb1⟩)
    go_ret2
    exact ⟨_, rfl, BkAt.nil _ _, hb1.alloc hb1.size _⟩
  | some a =>
    obtain ⟨E, hm, hrE, hrB⟩ := mem_read hp hg
    have hm' : memT st n = some E := hm
    rw [hm']
    rw [hg] at hG
    have HG : Hid (Calls Tryz.prog 51 #[.pointer (some ⟨k.pm, 0, none⟩), .int .u32 n.1, .int .u64 n.2] W fun e w' => e = .returned (.tuple #[.agg #[.int .i64 a.1, .int .i64 a.2], .bool true]) ∧ Below W.heap.size W w') := hG
    have HE : Hid (rdE st.zs a.1 a.2 = 0 ∧ rdB st.zs a.1 a.2 = E) := ⟨hrE, hrB⟩
    clear hG h hp hm hm' hrE hrB
    go_enter Tryz.func16, Tryz.ntmps16
    go_wp2_with (go_at_call 51; refine HG.out.mono ?_; rintro e W1 ⟨rfl, hb1⟩)
    have HV : Hid (Below W.heap.size W (W1.alloc (.cells #[.int .i64 a.1, .int .i64 a.2] 60)) ∧ Blk (W1.alloc (.cells #[.int .i64 a.1, .int .i64 a.2] 60)) W1.heap.size [.int .i64 a.1, .int .i64 a.2] 60) := ⟨hb1.alloc hb1.size _, Blk.new' rfl rfl⟩
    clear hb1 s0 s2
    generalize World.alloc W1 _ = V at HV ⊢
    generalize W1.heap.size = ga at HV ⊢
    have t0 := (H.out.1.under HV.out.1).cells.1
    have a0 : V.cell? ⟨ga, 0, none⟩ = some (.int .i64 a.1) := HV.out.2.cell 0
    have a1 : V.cell? ⟨ga, 1, none⟩ = some (.int .i64 a.2) := HV.out.2.cell 1
    have HR2 : Hid (Calls Tryz.prog 52 #[.pointer (some ⟨k.pd, 0, none⟩), .agg #[.int .i64 a.1, .int .i64 a.2]] V.drew fun e w' => ∃ A L C, e = .returned (.tuple #[.slice A L C, .int .i64 0]) ∧ (BkAt (fun x => W.heap.size ≤ x) w' (.slice A L C) E ∧ Below W.heap.size W w') ∧ w'.cell? ⟨k.ps, 0, none⟩ = some (.pointer (some ⟨k.pd, 0, none⟩)) ∧ w'.cell? ⟨ga, 0, none⟩ = some (.int .i64 a.1) ∧ w'.cell? ⟨ga, 1, none⟩ = some (.int .i64 a.2)) := by
      have hbV : Below V.heap.size V V.drew := (Below.refl _ _).drew
      refine (rRead_of a.1 a.2 (H.out.1.under (HV.out.1.trans (hbV.mono HV.out.1.size))).dv H.out.1.wf).mono ?_
      rintro e w' ⟨v, rfl, h1, h2⟩
      obtain ⟨A, C, hv⟩ := own_slice h1.1
      subst hv
      have hb' : Below V.heap.size V w' := hbV.trans h2
      have hbW := HV.out.1.trans (hb'.mono HV.out.1.size)
      refine ⟨A, _, C, by rw [HE.out.1], ⟨?_, hbW⟩, (H.out.1.under hbW).cells.1, (HV.out.2.below hb' HV.out.2.lt).cell 0, (HV.out.2.below hb' HV.out.2.lt).cell 1⟩
      rw [← HE.out.2]
      exact h1.mono (fun x hx _ => by have := HV.out.1.size; exact Nat.le_trans this hx)
    go_region_held3 (fun Y => Y.cell? ⟨k.ps, 0, none⟩ = some (.pointer (some ⟨k.pd, 0, none⟩)) ∧ Y.cell? ⟨ga, 0, none⟩ = some (.int .i64 a.1) ∧ Y.cell? ⟨ga, 1, none⟩ = some (.int .i64 a.2)) (first | exact ⟨t0, a0, a1⟩ | exact ⟨u0, b0, b1⟩)
      (first | (go_simp; go_at_call 52; refine HR2.out.mono ?_; rintro e V9 ⟨A9, L9, C9, rfl, bk, u0, b0, b1⟩))
    have HB : Hid (BkAt (fun x => W.heap.size ≤ x) V9 (.slice A9 L9 C9) E ∧ Below W.heap.size W V9) := bk
    clear bk u0 b0 b1 t0 a0 a1 HR2
    go_wp2
    go_ret2
    exact ⟨_, rfl, HB.out.1, HB.out.2⟩
theorem pl_kin {w : World} {a : Option Addr} {n : Nat} {L : List Pl} (h : PlIn w a n L) (hn : n ≤ maxLen) (hf : ∀ x ∈ L, FitsP x) : KIn w a n L := by
  refine ⟨h.1, hn, hf, ?_⟩
  rcases h.2 with h0 | ⟨g, ha, hc⟩
  · exact .inl h0
  · refine .inr ⟨g, 0, ha, fun i x hx j v hv => ?_⟩
    obtain ⟨c0, c1, c2, c3⟩ := hc i x hx
    rw [Nat.zero_add]
    match j, hv with
    | 0, hv => cases hv; exact c0
    | 1, hv => cases hv; exact c1
    | 2, hv => cases hv; exact c2
    | 3, hv => cases hv; exact c3
    | j + 4, hv => simp [plL] at hv
set_option maxHeartbeats 4000000 in
theorem dsmark_of (h : SdV D M W k st) (hS : st.S.length ≤ 10000) (ho : st.o = 0 ∨ st.o = 1) : Calls Tryz.prog 83 #[.pointer (some ⟨k.ps, 0, none⟩)] W fun e w' => e = .returned (.int .i64 (markM st).1) ∧ Sd (SdO D M k) W k (markM st).2 w' := by
  obtain ⟨c0, c1, c2, c3, c4, c5⟩ := h.cells
  obtain ⟨o1, ho1⟩ : ∃ o1, o1 = 1 - st.o := ⟨_, rfl⟩
  have hwo : IntKind.i64.wrap (1 - st.o) = o1 := by rw [ho1, IntKind.wrap_i64]; omega
  have H : Hid (SdV D M W k st ∧ o1 = 1 - st.o) := ⟨h, ho1⟩
  have kc : ∀ Y, Below W.heap.size W Y → Y.cell? ⟨k.ps, 0, none⟩ = some (.pointer (some ⟨k.pd, 0, none⟩)) ∧ Y.cell? ⟨k.ps, 2, none⟩ = some (.pointer (some ⟨k.pm, 0, none⟩)) ∧ Y.cell? ⟨k.ps, 3, none⟩ = some (.int .u64 st.q) ∧ Y.cell? ⟨k.ps, 5, none⟩ = some (.int .i64 st.o) := fun Y hY => ⟨(h.under hY).cells.1, (h.under hY).cells.2.2.1, (h.under hY).cells.2.2.2.1, (h.under hY).cells.2.2.2.2.2⟩
  have HAl : Hid (∀ Y, Below W.heap.size W Y → Calls Tryz.prog 109 #[.pointer (some ⟨k.pm, 0, none⟩)] Y fun e Z => ∃ a n cc, e = .returned (.slice a n cc) ∧ (KIn Z a n st.S ∧ n ≤ n ∧ Below W.heap.size W Z) ∧ Z.cell? ⟨k.ps, 0, none⟩ = some (.pointer (some ⟨k.pd, 0, none⟩)) ∧ Z.cell? ⟨k.ps, 2, none⟩ = some (.pointer (some ⟨k.pm, 0, none⟩)) ∧ Z.cell? ⟨k.ps, 3, none⟩ = some (.int .u64 st.q) ∧ Z.cell? ⟨k.ps, 5, none⟩ = some (.int .i64 st.o)) := fun Y hY => by
    refine (dmAll_of k.pm st.S Y (h.under hY).mp.d hS).mono ?_
    rintro e Z ⟨a, cc, rfl, ow, hZ⟩
    have hb := hY.trans (hZ.mono hY.size)
    exact ⟨a, st.S.length, cc, rfl, ⟨pl_kin ow (by unfold maxLen; omega) h.mp.2.fits, Nat.le_refl _, hb⟩, kc Z hb⟩
  have HSa : Hid (∀ Y a n cc, (KIn Y a n st.S ∧ n ≤ n ∧ Below W.heap.size W Y) → Calls Tryz.prog 46 #[.pointer (some ⟨k.pd, 0, none⟩), .int .i64 o1, .agg #[.int .u64 st.q, .slice a n cc]] Y fun e Z => e = .returned (.int .i64 (svE st.s o1 st.S)) ∧ Sd (SdO D M k) W k { st with zs := svZ st.s st.zs o1 st.q st.S } Z ∧ Z.cell? ⟨k.ps, 0, none⟩ = some (.pointer (some ⟨k.pd, 0, none⟩)) ∧ Z.cell? ⟨k.ps, 2, none⟩ = some (.pointer (some ⟨k.pm, 0, none⟩)) ∧ Z.cell? ⟨k.ps, 3, none⟩ = some (.int .u64 st.q) ∧ Z.cell? ⟨k.ps, 5, none⟩ = some (.int .i64 st.o)) := fun Y a n cc hY => by
    have hv := h.under hY.2.2
    refine (dkSave_of o1 st.q a n cc st.S hv.dv hv.wf hv.fq hY.1 (by have := hY.1.1; omega)).mono ?_
    rintro e Z ⟨rfl, hs⟩
    have sv := hv.svstep hs (swf_svZ hv.wf _ _ _)
    obtain ⟨D9, M9, hv9, hD9, ho9⟩ := sv
    exact ⟨rfl, Sd.from hY.2.2 ⟨D9, M9, hv9, hD9, ho9⟩, hv9.cells.1, hv9.cells.2.2.1, hv9.cells.2.2.2.1, hv9.cells.2.2.2.2.2⟩
  clear h kc ho1
  go_enter Tryz.func83, Tryz.ntmps83
  go_wp2_with fail
  go_region_held3 (fun Y => Y.cell? ⟨k.ps, 0, none⟩ = some (.pointer (some ⟨k.pd, 0, none⟩)) ∧ Y.cell? ⟨k.ps, 2, none⟩ = some (.pointer (some ⟨k.pm, 0, none⟩)) ∧ Y.cell? ⟨k.ps, 3, none⟩ = some (.int .u64 st.q) ∧ Y.cell? ⟨k.ps, 5, none⟩ = some (.int .i64 st.o)) (first | exact ⟨c0, c2, c3, c5⟩ | exact ⟨d0, d1, d2, d3⟩ | exact ⟨e0, e1, e2, e3⟩)
    (first
    | (go_simp; go_at_call 109; refine (HAl.out _ (by exact (Below.refl _ _).drew)).mono ?_; rintro e Y ⟨a, n, cc, rfl, hY, d0, d1, d2, d3⟩)
    | (go_simp; go_at_call 46; refine (HSa.out _ a n cc hY).mono ?_; rintro e Z ⟨rfl, sv, e0, e1, e2, e3⟩))
  have HZ : Hid (Sd (SdO D M k) W k { st with zs := svZ st.s st.zs o1 st.q st.S } Z) := sv
  clear sv hY d0 d1 d2 d3 e0 e1 e2 e3 c0 c1 c2 c3 c4 c5 HAl HSa
  by_cases hE : svE st.s o1 st.S = 0
  · have HM : Hid (markM st = (0, { st with zs := svZ st.s st.zs o1 st.q st.S, o := o1 })) := by
      have e := H.out.2
      show _ = _
      unfold markM
      rw [← e, if_pos hE, hE]
    obtain ⟨D9, M9, hv9, hD9, ho9⟩ := HZ.out
    obtain ⟨_, _, _, _, _, z5⟩ := hv9.cells
    have f5 := hv9.hp.frozen 5
    have HV : Hid (Sd (SdO D M k) W k { st with zs := svZ st.s st.zs o1 st.q st.S, o := o1 } (Z.setCell ⟨k.ps, 5, none⟩ (.int .i64 o1))) := Sd.next hD9 ho9 (hv9.setP (q := st.q) (o := o1) rfl hv9.fq)
    clear hv9 hD9 ho9 HZ
    simp only at z5
    rw [hE]
    clear hE
    go_wp2
    go_ret
    rw [HM.out]
    exact ⟨rfl, HV.out⟩
  · have hE' : (svE st.s o1 st.S == 0) = false := by simpa using hE
    have HM : Hid (markM st = (svE st.s o1 st.S, { st with zs := svZ st.s st.zs o1 st.q st.S })) := by
      have e := H.out.2
      show _ = _
      unfold markM
      rw [← e, if_neg hE]
    generalize svE st.s o1 st.S = E at HM hE hE' ⊢
    go_wp2
    go_ret
    rw [HM.out]
    exact ⟨rfl, HZ.out⟩
set_option maxHeartbeats 4000000 in
theorem dsclear_of (z : Int) (h : SdV D M W k st) (hS : st.S.length ≤ 10000) : Calls Tryz.prog 84 #[.pointer (some ⟨k.ps, 0, none⟩), .int .i64 z] W fun e w' => e = .returned (.bool (decide (clearOk st z))) ∧ Sd (SdO D M k) W k (clearM st z) w' := by
  obtain ⟨c0, c1, c2, c3, c4, c5⟩ := h.cells
  have H : Hid (SdV D M W k st) := h
  have HSt : Hid (∀ Y, Below W.heap.size W Y → Calls Tryz.prog 107 #[.pointer (some ⟨k.pg, 0, none⟩), .int .i64 z] Y fun e Z => e = .returned (.int .u8 (stZ st.L z)) ∧ Z = Y) := fun Y hY => dgState_of k.pg k.gg k.gc st.s st.L z Y (h.under hY).sg
  by_cases h3 : stZ st.L z = 3
  · obtain ⟨i, rfl, hi⟩ := st3_in h3
    have hiz : i < st.la.length := by have := h.len; omega
    have kc : ∀ Y, Below W.heap.size W Y → Y.cell? ⟨k.ps, 1, none⟩ = some (.pointer (some ⟨k.pg, 0, none⟩)) ∧ Y.cell? ⟨k.ps, 2, none⟩ = some (.pointer (some ⟨k.pm, 0, none⟩)) := fun Y hY => ⟨(h.under hY).cells.2.1, (h.under hY).cells.2.2.1⟩
    by_cases he : emIn st.S i
    · have HIn : Hid (∀ Y, Below W.heap.size W Y → Calls Tryz.prog 73 #[.pointer (some ⟨k.pm, 0, none⟩), .int .i64 (i : Nat)] Y fun e Z => ∃ a cc, e = .returned (.slice a 0 cc) ∧ (Below W.heap.size W Z) ∧ Z.cell? ⟨k.ps, 1, none⟩ = some (.pointer (some ⟨k.pg, 0, none⟩)) ∧ Z.cell? ⟨k.ps, 2, none⟩ = some (.pointer (some ⟨k.pm, 0, none⟩))) := fun Y hY => by
        refine (dmIn_of k.pm st.S (i : Nat) Y (h.under hY).mp.d hS).mono ?_
        rintro e Z ⟨L, a, cc, rfl, hI, ow, hZ⟩
        have hb := hY.trans (hZ.mono hY.size)
        rw [(emIn_iff hI).1 he]
        exact ⟨a, cc, rfl, hb, kc Z hb⟩
      have HM : Hid (decide (clearOk st (i : Nat)) = true ∧ clearM st (i : Nat) = { st with zs := resetZ st.zs (i : Nat), la := st.la.set i 0, L := turnZ st.L (i : Nat) 3 1 }) := by
        have ho : clearOk st (i : Nat) := ⟨h3, he⟩
        refine ⟨by simp [ho], ?_⟩
        unfold clearM
        rw [if_pos ho, Int.toNat_natCast]
      have HRe : Hid (∀ Y, Below W.heap.size W Y → Calls Tryz.prog 100 #[.pointer (some ⟨k.pd, 0, none⟩), .int .i64 (i : Nat)] Y fun e Z => (∃ v, e = .returned v) ∧ Sd (SdO D M k) W k { st with zs := resetZ st.zs (i : Nat) } Z) := fun Y hY => by
        have hv := h.under hY
        refine (rReset_of (i : Nat) hv.dv).mono ?_
        rintro e Z ⟨rfl, hs⟩
        exact ⟨⟨_, rfl⟩, Sd.from hY (hv.dvstep hs (hv.wf.reset _))⟩
      have HAf : Hid (∀ Z, Sd (SdO D M k) W k { st with zs := resetZ st.zs (i : Nat) } Z → Z.cell? ⟨k.ps, 1, none⟩ = some (.pointer (some ⟨k.pg, 0, none⟩)) ∧ Calls Tryz.prog 139 #[.pointer (some ⟨k.pg, 0, none⟩), .int .i64 (i : Nat)] Z fun e w' => (∃ v, e = .returned v) ∧ (∃ old, w'.cell? ⟨k.lb, i, none⟩ = some (.int .u64 old)) ∧ w'.frozen? ⟨k.lb, i, none⟩ = false ∧ w'.cell? ⟨k.ps, 4, none⟩ = some (.slice (some ⟨k.lb, 0, none⟩) st.la.length st.la.length) ∧ Hid (Sd (SdO D M k) W k { st with zs := resetZ st.zs (i : Nat), la := st.la.set i 0, L := turnZ st.L (i : Nat) 3 1 } (w'.setCell ⟨k.lb, i, none⟩ (.int .u64 0)))) := by
        intro Z sv
        obtain ⟨D4, M4, hv4, hD4, ho4⟩ := sv
        refine ⟨hv4.cells.2.1, ?_⟩
        refine (dgClear_of k.pg k.gg k.gc st.s st.L (i : Nat) _ hv4.sg).mono ?_
        rintro e w' ⟨rfl, h1, h2⟩
        obtain ⟨D5, M5, hv5, hD5, ho5⟩ := Sd.next hD4 ho4 (hv4.sgstep h1 h2 (turnZ_length _ _ _ _))
        exact ⟨⟨_, rfl⟩, ⟨st.la[i], by rw [hv5.hl.cell]; simp [kInts, hiz]⟩, hv5.hl.frozen i, hv5.cells.2.2.2.2.1, Sd.next hD5 ho5 (hv5.setLa i 0)⟩
      have HC0 : Hid (∀ Y, Below W.heap.size W Y → Y.cell? ⟨k.ps, 0, none⟩ = some (.pointer (some ⟨k.pd, 0, none⟩))) := fun Y hY => (h.under hY).cells.1
      have h3' : (stZ st.L (i : Nat) != 3) = false := by simp [h3]
      clear h kc he
      go_enter Tryz.func84, Tryz.ntmps84
      go_wp2_with (first
        | (go_at_call 107; refine (HSt.out _ (Below.refl _ _)).mono ?_; rintro e w2 ⟨rfl, rfl⟩)
        | (go_at_call 73; refine (HIn.out _ (Below.refl _ _)).mono ?_; rintro e w3 ⟨a, cc, rfl, hb3, d1, d2⟩; have d0 := HC0.out _ hb3)
        | (go_at_call 100; refine (HRe.out _ hb3).mono ?_; rintro e w4 ⟨⟨v4, rfl⟩, sv4⟩; obtain ⟨y1, hcl⟩ := HAf.out _ sv4; clear sv4)
        | (go_at_call 139; refine hcl.mono ?_; rintro e w5 ⟨⟨v5, rfl⟩, ⟨old, y0⟩, yf, y4, H5⟩))
      go_ret
      rw [HM.out.1, HM.out.2]
      exact ⟨rfl, H5.out⟩
    · have HIn : Hid (∀ Y, Below W.heap.size W Y → Calls Tryz.prog 73 #[.pointer (some ⟨k.pm, 0, none⟩), .int .i64 (i : Nat)] Y fun e Z => ∃ (a : Option Addr) (n cc : Nat), e = .returned (.slice a n cc) ∧ (0 : Int) < n ∧ Below W.heap.size W Z) := fun Y hY => by
        refine (dmIn_of k.pm st.S (i : Nat) Y (h.under hY).mp.d hS).mono ?_
        rintro e Z ⟨L, a, cc, rfl, hI, ow, hZ⟩
        have h0 : ¬ L.length = 0 := fun e => he ((emIn_iff hI).2 e)
        exact ⟨a, L.length, cc, rfl, by omega, hY.trans (hZ.mono hY.size)⟩
      have HM : Hid (decide (clearOk st (i : Nat)) = false ∧ clearM st (i : Nat) = st) := by
        have ho : ¬ clearOk st (i : Nat) := fun ho => he ho.2
        refine ⟨by simp [ho], ?_⟩
        unfold clearM
        rw [if_neg ho]
      have h3' : (stZ st.L (i : Nat) != 3) = false := by simp [h3]
      clear h kc he
      go_enter Tryz.func84, Tryz.ntmps84
      go_wp2_with (first
        | (go_at_call 107; refine (HSt.out _ (Below.refl _ _)).mono ?_; rintro e w2 ⟨rfl, rfl⟩)
        | (go_at_call 73; refine (HIn.out _ (Below.refl _ _)).mono ?_; rintro e w3 ⟨a, n, cc, rfl, hn0, hb3⟩))
      go_ret
      rw [HM.out.1, HM.out.2]
      exact ⟨rfl, (Sd.start H.out).under hb3⟩
  · have h3' : (stZ st.L z != 3) = true := by simpa using h3
    have HM : Hid (decide (clearOk st z) = false ∧ clearM st z = st) := by
      have ho : ¬ clearOk st z := fun ho => h3 ho.1
      refine ⟨by simp [ho], ?_⟩
      unfold clearM
      rw [if_neg ho]
    generalize stZ st.L z = S at h3' HSt
    clear h h3
    go_enter Tryz.func84, Tryz.ntmps84
    go_wp2_with (go_at_call 107; refine (HSt.out _ (Below.refl _ _)).mono ?_; rintro e w2 ⟨rfl, rfl⟩)
    go_ret
    rw [HM.out.1, HM.out.2]
    exact ⟨rfl, Sd.start H.out⟩
end
end Go.Proofs.YtfcbcpjcmihooaaGreat
