/- Texts of this seat, one behind the other: StMk. -/
import Derived.Test.YtfcbcpjcmihooaaGreatP24
import Derived.Test.YtfcbcpjcmihooaaGreatQ10
import Derived.Test.YtfcbcpjcmihooaaGreatQ12
import Derived.Test.YtfcbcpjcmihooaaGreatQ6
import Derived.Test.YtfcbcpjcmihooaaGreatP21
import Derived.Deep.RegionHeld3
/- What one call of Flush, Mark, Clear, Last, Low, Seg of the program's store does. -/
namespace Go.Proofs.YtfcbcpjcmihooaaGreat
open Go.RowKit
set_option linter.unusedVariables false
set_option maxRecDepth 4000
/-- What Flush, Mark and Clear make of a store. -/
def flushM (st : St) : St := { st with zs := flushZ st.zs }
open Classical in
noncomputable def markM (st : St) : Int × St := (svE st.s (1 - st.o) st.S, { st with zs := svZ st.s st.zs (1 - st.o) st.q st.S, o := if svE st.s (1 - st.o) st.S = 0 then 1 - st.o else st.o })
def emIn (S : List Pl) (z : Int) : Prop := ∀ p ∈ S, p.2.1 ≠ z
instance (S : List Pl) (z : Int) : Decidable (emIn S z) := by unfold emIn; infer_instance
def clearOk (st : St) (z : Int) : Prop := stZ st.L z = 3 ∧ emIn st.S z
instance (st : St) (z : Int) : Decidable (clearOk st z) := by unfold clearOk; infer_instance
def clearM (st : St) (z : Int) : St := if clearOk st z then { st with zs := resetZ st.zs z, la := st.la.set z.toNat 0, L := turnZ st.L z 3 1 } else st
theorem emIn_iff {S : List Pl} {z : Int} {L : List Pl} (h : IsIn S z L) : emIn S z ↔ L.length = 0 := by
  constructor
  · intro he
    cases L with
    | nil => rfl
    | cons p r => exact (he p ((h.2 p).1 (by simp)).1 ((h.2 p).1 (by simp)).2).elim
  · intro he p hp hz
    have := (h.2 p).2 ⟨hp, hz⟩
    rw [List.length_eq_zero_iff.1 he] at this
    simp at this
theorem st3_in {L : List Int} {z : Int} (h : stZ L z = 3) : ∃ i : Nat, z = i ∧ i < L.length := by
  by_cases hz : z < 0 ∨ (L.length : Int) ≤ z
  · rw [stZ_out hz] at h
    cases h
  · exact ⟨z.toNat, by omega, by omega⟩
section
variable {D : Nat → Prop} {W W' : World} {k : Bs} {st : St} {c : Nat}
theorem StV.svstep {zs' : List Zn} (h : StV D W k st c) (hs : SvSt 134 D W k.pd st.s zs' W') (hw : Wf st.s zs') : Sv D W k { st with zs := zs' } c W' := by
  obtain ⟨O', hd, hO, ho⟩ := hs
  have hlen : zs'.length = st.zs.length := by have := hw.len; have := h.wf.len; omega
  have hn : ∀ x, k.has x → ¬ D x := h.nd
  refine ⟨fun x => O' x ∧ x < W'.heap.size, ⟨ho.blk h.hp (hn _ (.inl rfl)), hd.there, h.sg.out ho (hn _ (.inr (.inl rfl))) (hn _ (.inr (.inr (.inl rfl)))), h.mp.out ho ?_, ho.blk h.hl (hn _ (.inr (.inr (.inr (.inr (.inr (.inr rfl))))))), hw, h.fq, by rw [hlen]; exact h.len, fun x hx => hx.2, ?_, h.ap⟩, fun x hx => hO x hx.1, ho.mono (fun j e _ => .inl e)⟩
  · rintro x (rfl | rfl | rfl)
    · exact hn _ (.inr (.inr (.inr (.inl rfl))))
    · exact hn _ (.inr (.inr (.inr (.inr (.inl rfl)))))
    · exact hn _ (.inr (.inr (.inr (.inr (.inr (.inl rfl))))))
  · rintro x hx ⟨hd, _⟩
    rcases hO x hd with h' | h'
    · exact hn x hx h'
    · have := h.kin x hx; omega
theorem sflush_of (h : StV D W k st c) : Calls Tryz.prog 78 #[.pointer (some ⟨k.ps, 0, none⟩)] W fun e w' => (∃ v, e = .returned v) ∧ Sv D W k (flushM st) c w' := by
  obtain ⟨c0, _⟩ := h.cells
  have HF : Hid (Calls Tryz.prog 92 #[.pointer (some ⟨k.pd, 0, none⟩)] W fun e w' => (∃ v, e = .returned v) ∧ Sv D W k (flushM st) c w') := (flush_of h.dv).mono (fun e w' hh => ⟨hh.1, h.dvstep hh.2 h.wf.flush⟩)
  clear h
  go_enter Tryz.func78, Tryz.ntmps78
  go_wp2_with (go_at_call 92; refine HF.out.mono ?_; rintro e w2 ⟨⟨v, rfl⟩, sv⟩)
  first | go_end0 | refine bodyPost_ret (results_none rfl _ _ _) rfl ?_
  exact ⟨⟨_, rfl⟩, sv⟩
theorem sseg_of (h : StV D W k st c) : Calls Tryz.prog 24 #[.pointer (some ⟨k.ps, 0, none⟩)] W fun e w' => e = .returned (.pointer (some ⟨k.pg, 0, none⟩)) ∧ w' = W := by
  obtain ⟨_, c1, _⟩ := h.cells
  clear h
  go_enter Tryz.func24, Tryz.ntmps24
  go_wp2
  go_ret
  exact ⟨rfl, rfl⟩
theorem slow_of (h : StV D W k st c) : Calls Tryz.prog 85 #[.pointer (some ⟨k.ps, 0, none⟩)] W fun e w' => e = .returned (.bool (lowB st.L st.s.r)) ∧ Below W.heap.size W w' := by
  obtain ⟨_, c1, _⟩ := h.cells
  have HL : Hid (Calls Tryz.prog 140 #[.pointer (some ⟨k.pg, 0, none⟩)] W fun e w' => e = .returned (.bool (lowB st.L st.s.r)) ∧ Below W.heap.size W w') := gLow_of k.pg k.gg st.s.r st.L W h.sg
  clear h
  go_enter Tryz.func85, Tryz.ntmps85
  go_wp2_with (go_at_call 140; refine HL.out.mono ?_; rintro e w2 ⟨rfl, hb⟩)
  go_ret
  exact ⟨rfl, hb⟩
def lastI (la : List Int) (z : Int) : Int := if 0 ≤ z then la.getD z.toNat 0 else 0
theorem slast_of (z : Int) (h : StV D W k st c) : Calls Tryz.prog 28 #[.pointer (some ⟨k.ps, 0, none⟩), .int .i64 z] W fun e w' => e = .returned (.int .u64 (lastI st.la z)) ∧ Below W.heap.size W w' := by
  obtain ⟨_, _, _, _, c4, _⟩ := h.cells
  obtain ⟨N, hN⟩ : ∃ N, N = st.la.length := ⟨_, rfl⟩
  rw [← hN] at c4
  by_cases h0 : z < 0
  · have HE : Hid (lastI st.la z = 0) := by show _ = _; unfold lastI; rw [if_neg (by omega)]
    clear h
    go_enter Tryz.func28, Tryz.ntmps28
    go_wp2
    go_ret
    exact ⟨by rw [HE.out]; rfl, Below.refl _ _⟩
  · obtain ⟨i, rfl⟩ : ∃ i : Nat, z = i := ⟨z.toNat, by omega⟩
    by_cases h1 : i < N
    · have hlt : ¬ (N : Int) ≤ i := by omega
      have hi' : (i : Int) < N := by omega
      have y0 : W.cell? ⟨k.lb, i, none⟩ = some (.int .u64 (lastI st.la i)) := by
        rw [h.hl.cell]
        unfold lastI
        simp [kInts, hN ▸ h1, List.getD]
      generalize lastI st.la i = v at y0 ⊢
      clear h hN
      go_enter Tryz.func28, Tryz.ntmps28
      go_wp2
      go_ret
      exact ⟨rfl, Below.refl _ _⟩
    · have hge : (N : Int) ≤ i := by omega
      have HE : Hid (lastI st.la i = 0) := by show _ = _; unfold lastI; simp [List.getD, List.getElem?_eq_none (by omega : st.la.length ≤ i)]
      clear h hN
      go_enter Tryz.func28, Tryz.ntmps28
      go_wp2
      go_ret
      exact ⟨by rw [HE.out]; rfl, Below.refl _ _⟩
set_option maxHeartbeats 4000000 in
theorem smark_of (h : StV D W k st c) (hc : c < 100000) (hS : st.S.length ≤ 100000) (ho : st.o = 0 ∨ st.o = 1) : Calls Tryz.prog 79 #[.pointer (some ⟨k.ps, 0, none⟩)] W fun e w' => e = .returned (.int .u16 (markM st).1) ∧ Sv D W k (markM st).2 c w' := by
  obtain ⟨c0, c1, c2, c3, c4, c5⟩ := h.cells
  obtain ⟨o1, ho1⟩ : ∃ o1, o1 = 1 - st.o := ⟨_, rfl⟩
  have hwo : IntKind.i64.wrap (1 - st.o) = o1 := by rw [ho1, IntKind.wrap_i64]; omega
  have H : Hid (StV D W k st c ∧ o1 = 1 - st.o) := ⟨h, ho1⟩
  have kc : ∀ Y, Below W.heap.size W Y → Y.cell? ⟨k.ps, 0, none⟩ = some (.pointer (some ⟨k.pd, 0, none⟩)) ∧ Y.cell? ⟨k.ps, 2, none⟩ = some (.pointer (some ⟨k.pm, 0, none⟩)) ∧ Y.cell? ⟨k.ps, 3, none⟩ = some (.int .u64 st.q) := fun Y hY => ⟨(h.under hY).cells.1, (h.under hY).cells.2.2.1, (h.under hY).cells.2.2.2.1⟩
  have HAl : Hid (∀ Y, Below W.heap.size W Y → Calls Tryz.prog 23 #[.pointer (some ⟨k.pm, 0, none⟩)] Y fun e Z => ∃ a n cc, e = .returned (.slice a n cc) ∧ (KIn Z a n st.S ∧ n ≤ cc ∧ Below W.heap.size W Z) ∧ Z.cell? ⟨k.ps, 0, none⟩ = some (.pointer (some ⟨k.pd, 0, none⟩)) ∧ Z.cell? ⟨k.ps, 2, none⟩ = some (.pointer (some ⟨k.pm, 0, none⟩)) ∧ Z.cell? ⟨k.ps, 3, none⟩ = some (.int .u64 st.q)) := fun Y hY => by
    refine (mAll_of k.pm k.b1 k.b2 st.S c Y (h.under hY).mp hc).mono ?_
    rintro e Z ⟨a, n, cc, rfl, ow, hZ⟩
    have hb := hY.trans (hZ.mono hY.size)
    have hn : st.S.length = n := (own_pl ow).1
    exact ⟨a, n, cc, rfl, ⟨own_kin ow (by unfold maxLen; omega) h.mp.good.fits, lown_cap ow, hb⟩, kc Z hb⟩
  have HSa : Hid (∀ Y a n cc, (KIn Y a n st.S ∧ n ≤ cc ∧ Below W.heap.size W Y) → Calls Tryz.prog 43 #[.pointer (some ⟨k.pd, 0, none⟩), .int .i64 o1, .agg #[.int .u64 st.q, .slice a n cc]] Y fun e Z => e = .returned (.int .u16 (svE st.s o1 st.S)) ∧ Sv D W k { st with zs := svZ st.s st.zs o1 st.q st.S } c Z ∧ Z.cell? ⟨k.ps, 0, none⟩ = some (.pointer (some ⟨k.pd, 0, none⟩)) ∧ Z.cell? ⟨k.ps, 2, none⟩ = some (.pointer (some ⟨k.pm, 0, none⟩)) ∧ Z.cell? ⟨k.ps, 3, none⟩ = some (.int .u64 st.q)) := fun Y a n cc hY => by
    have hv := h.under hY.2.2
    refine (ksave_of o1 st.q a n cc st.S hv.dv hv.wf hv.fq hY.1 hY.2.1).mono ?_
    rintro e Z ⟨rfl, hs⟩
    have sv := hv.svstep hs (swf_svZ hv.wf _ _ _)
    obtain ⟨D9, hv9, hD9, ho9⟩ := sv
    exact ⟨rfl, Sv.from hY.2.2 ⟨D9, hv9, hD9, ho9⟩, hv9.cells.1, hv9.cells.2.2.1, hv9.cells.2.2.2.1⟩
  clear h kc ho1
  go_enter Tryz.func79, Tryz.ntmps79
  go_wp2_with fail
  go_region_held3 (fun Y => Y.cell? ⟨k.ps, 0, none⟩ = some (.pointer (some ⟨k.pd, 0, none⟩)) ∧ Y.cell? ⟨k.ps, 2, none⟩ = some (.pointer (some ⟨k.pm, 0, none⟩)) ∧ Y.cell? ⟨k.ps, 3, none⟩ = some (.int .u64 st.q)) (first | exact ⟨c0, c2, c3⟩ | exact ⟨d0, d1, d2⟩ | exact ⟨e0, e1, e2⟩)
    (first
    | (go_simp; go_at_call 23; refine (HAl.out _ (by exact (Below.refl _ _).drew)).mono ?_; rintro e Y ⟨a, n, cc, rfl, hY, d0, d1, d2⟩)
    | (go_simp; go_at_call 43; refine (HSa.out _ a n cc hY).mono ?_; rintro e Z ⟨rfl, sv, e0, e1, e2⟩))
  have HZ : Hid (Sv D W k { st with zs := svZ st.s st.zs o1 st.q st.S } c Z) := sv
  clear sv hY d0 d1 d2 e0 e1 e2 c0 c1 c2 c3 c4 c5 HAl HSa
  by_cases hE : svE st.s o1 st.S = 0
  · have HM : Hid (markM st = (0, { st with zs := svZ st.s st.zs o1 st.q st.S, o := o1 })) := by
      have e := H.out.2
      show _ = _
      unfold markM
      rw [← e, if_pos hE, hE]
    obtain ⟨D9, hv9, hD9, ho9⟩ := HZ.out
    obtain ⟨_, _, _, _, _, z5⟩ := hv9.cells
    have f5 := hv9.hp.frozen 5
    have HV : Hid (Sv D W k { st with zs := svZ st.s st.zs o1 st.q st.S, o := o1 } c (Z.setCell ⟨k.ps, 5, none⟩ (.int .i64 o1))) := Sv.next hD9 ho9 (hv9.setP (q := st.q) (o := o1) rfl hv9.fq)
    clear hv9 hD9 ho9 HZ
    simp only at z5
    rw [hE]
    clear hE
    go_wp2
    go_ret
    rw [HM.out]
    exact ⟨rfl, HV.out⟩
  · have hE' : (svE st.s o1 st.S == 0) = false := by simpa using hE
    have HM : Hid (markM st = (svE st.s o1 st.S, { st with zs := svZ st.s st.zs o1 st.q st.S })) := by
      have e := H.out.2
      show _ = _
      unfold markM
      rw [← e, if_neg hE]
    generalize svE st.s o1 st.S = E at HM hE hE' ⊢
    go_wp2
    go_ret
    rw [HM.out]
    exact ⟨rfl, HZ.out⟩
set_option maxHeartbeats 4000000 in
theorem sclear_of (z : Int) (h : StV D W k st c) (hc : c < 100000) : Calls Tryz.prog 80 #[.pointer (some ⟨k.ps, 0, none⟩), .int .i64 z] W fun e w' => e = .returned (.bool (decide (clearOk st z))) ∧ Sv D W k (clearM st z) c w' := by
  obtain ⟨c0, c1, c2, c3, c4, c5⟩ := h.cells
  have H : Hid (StV D W k st c) := h
  have HSt : Hid (∀ Y, Below W.heap.size W Y → Calls Tryz.prog 25 #[.pointer (some ⟨k.pg, 0, none⟩), .int .i64 z] Y fun e Z => e = .returned (.int .u8 (stZ st.L z)) ∧ Z = Y) := fun Y hY => gState_of k.pg k.gg st.s.r st.L z Y (h.under hY).sg
  by_cases h3 : stZ st.L z = 3
  · obtain ⟨i, rfl, hi⟩ := st3_in h3
    have hiz : i < st.la.length := by have := h.len; omega
    have kc : ∀ Y, Below W.heap.size W Y → Y.cell? ⟨k.ps, 1, none⟩ = some (.pointer (some ⟨k.pg, 0, none⟩)) ∧ Y.cell? ⟨k.ps, 2, none⟩ = some (.pointer (some ⟨k.pm, 0, none⟩)) := fun Y hY => ⟨(h.under hY).cells.2.1, (h.under hY).cells.2.2.1⟩
    by_cases he : emIn st.S i
    · have HIn : Hid (∀ Y, Below W.heap.size W Y → Calls Tryz.prog 132 #[.pointer (some ⟨k.pm, 0, none⟩), .int .i64 (i : Nat)] Y fun e Z => ∃ a cc, e = .returned (.slice a 0 cc) ∧ (Below W.heap.size W Z) ∧ Z.cell? ⟨k.ps, 1, none⟩ = some (.pointer (some ⟨k.pg, 0, none⟩)) ∧ Z.cell? ⟨k.ps, 2, none⟩ = some (.pointer (some ⟨k.pm, 0, none⟩))) := fun Y hY => by
        refine (mIn_of k.pm k.b1 k.b2 st.S c (i : Nat) Y (h.under hY).mp hc).mono ?_
        rintro e Z ⟨L, a, n, cc, rfl, hI, ow, hZ⟩
        have hb := hY.trans (hZ.mono hY.size)
        have hn : L.length = n := (own_pl ow).1
        rw [(emIn_iff hI).1 he] at hn
        subst hn
        exact ⟨a, cc, rfl, hb, kc Z hb⟩
      have HM : Hid (decide (clearOk st (i : Nat)) = true ∧ clearM st (i : Nat) = { st with zs := resetZ st.zs (i : Nat), la := st.la.set i 0, L := turnZ st.L (i : Nat) 3 1 }) := by
        have ho : clearOk st (i : Nat) := ⟨h3, he⟩
        refine ⟨by simp [ho], ?_⟩
        unfold clearM
        rw [if_pos ho, Int.toNat_natCast]
      have HRe : Hid (∀ Y, Below W.heap.size W Y → Calls Tryz.prog 90 #[.pointer (some ⟨k.pd, 0, none⟩), .int .i64 (i : Nat)] Y fun e Z => (∃ v, e = .returned v) ∧ Sv D W k { st with zs := resetZ st.zs (i : Nat) } c Z) := fun Y hY => by
        have hv := h.under hY
        refine (reset_of (i : Nat) hv.dv).mono ?_
        rintro e Z ⟨rfl, hs⟩
        exact ⟨⟨_, rfl⟩, Sv.from hY (hv.dvstep hs (hv.wf.reset _))⟩
      have HAf : Hid (∀ Z, Sv D W k { st with zs := resetZ st.zs (i : Nat) } c Z → (∃ old, Z.cell? ⟨k.lb, i, none⟩ = some (.int .u64 old)) ∧ Z.frozen? ⟨k.lb, i, none⟩ = false ∧ Z.cell? ⟨k.ps, 1, none⟩ = some (.pointer (some ⟨k.pg, 0, none⟩)) ∧ Z.cell? ⟨k.ps, 4, none⟩ = some (.slice (some ⟨k.lb, 0, none⟩) st.la.length st.la.length) ∧ k.ps ≠ k.lb ∧ k.lb ≠ k.ps ∧ Calls Tryz.prog 133 #[.pointer (some ⟨k.pg, 0, none⟩), .int .i64 (i : Nat)] (Z.setCell ⟨k.lb, i, none⟩ (.int .u64 0)) fun e w' => e = .returned (.bool true) ∧ Sv D W k { st with zs := resetZ st.zs (i : Nat), la := st.la.set i 0, L := turnZ st.L (i : Nat) 3 1 } c w') := by
        intro Z sv
        obtain ⟨D4, hv4, hD4, ho4⟩ := sv
        have n1 : k.ps ≠ k.lb := (nodup7 hv4.ap).1.2.2.2.2.2
        refine ⟨⟨st.la[i], by rw [hv4.hl.cell]; simp [kInts, hiz]⟩, hv4.hl.frozen i, hv4.cells.2.1, hv4.cells.2.2.2.2.1, n1, fun e => n1 e.symm, ?_⟩
        obtain ⟨D5, hv5, hD5, ho5⟩ := Sv.next hD4 ho4 (hv4.setLa i 0)
        refine (gClear_of k.pg k.gg st.s.r st.L (i : Nat) _ hv5.sg).mono ?_
        rintro e w' ⟨rfl, h1, h2⟩
        exact ⟨by simp [h3], Sv.next hD5 ho5 (hv5.sgstep h1 h2 (turnZ_length _ _ _ _))⟩
      have HC0 : Hid (∀ Y, Below W.heap.size W Y → Y.cell? ⟨k.ps, 0, none⟩ = some (.pointer (some ⟨k.pd, 0, none⟩))) := fun Y hY => (h.under hY).cells.1
      have h3' : (stZ st.L (i : Nat) != 3) = false := by simp [h3]
      clear h kc he
      go_enter Tryz.func80, Tryz.ntmps80
      go_wp2_with (first
        | (go_at_call 25; refine (HSt.out _ (Below.refl _ _)).mono ?_; rintro e w2 ⟨rfl, rfl⟩)
        | (go_at_call 132; refine (HIn.out _ (Below.refl _ _)).mono ?_; rintro e w3 ⟨a, cc, rfl, hb3, d1, d2⟩; have d0 := HC0.out _ hb3)
        | (go_at_call 90; refine (HRe.out _ hb3).mono ?_; rintro e w4 ⟨⟨v4, rfl⟩, sv4⟩; obtain ⟨⟨old, y0⟩, yf, y1, y4, n1, n2, hcl⟩ := HAf.out _ sv4; clear sv4)
        | (go_at_call 133; refine hcl.mono ?_; rintro e w5 ⟨rfl, sv5⟩))
      go_ret
      rw [HM.out.1, HM.out.2]
      exact ⟨rfl, sv5⟩
    · have HIn : Hid (∀ Y, Below W.heap.size W Y → Calls Tryz.prog 132 #[.pointer (some ⟨k.pm, 0, none⟩), .int .i64 (i : Nat)] Y fun e Z => ∃ (a : Option Addr) (n cc : Nat), e = .returned (.slice a n cc) ∧ (0 : Int) < n ∧ Below W.heap.size W Z) := fun Y hY => by
        refine (mIn_of k.pm k.b1 k.b2 st.S c (i : Nat) Y (h.under hY).mp hc).mono ?_
        rintro e Z ⟨L, a, n, cc, rfl, hI, ow, hZ⟩
        have hn : L.length = n := (own_pl ow).1
        have h0 : ¬ L.length = 0 := fun e => he ((emIn_iff hI).2 e)
        exact ⟨a, n, cc, rfl, by omega, hY.trans (hZ.mono hY.size)⟩
      have HM : Hid (decide (clearOk st (i : Nat)) = false ∧ clearM st (i : Nat) = st) := by
        have ho : ¬ clearOk st (i : Nat) := fun ho => he ho.2
        refine ⟨by simp [ho], ?_⟩
        unfold clearM
        rw [if_neg ho]
      have h3' : (stZ st.L (i : Nat) != 3) = false := by simp [h3]
      clear h kc he
      go_enter Tryz.func80, Tryz.ntmps80
      go_wp2_with (first
        | (go_at_call 25; refine (HSt.out _ (Below.refl _ _)).mono ?_; rintro e w2 ⟨rfl, rfl⟩)
        | (go_at_call 132; refine (HIn.out _ (Below.refl _ _)).mono ?_; rintro e w3 ⟨a, n, cc, rfl, hn0, hb3⟩))
      go_ret
      rw [HM.out.1, HM.out.2]
      exact ⟨rfl, (Sv.start H.out).under hb3⟩
  · have h3' : (stZ st.L z != 3) = true := by simpa using h3
    have HM : Hid (decide (clearOk st z) = false ∧ clearM st z = st) := by
      have ho : ¬ clearOk st z := fun ho => h3 ho.1
      refine ⟨by simp [ho], ?_⟩
      unfold clearM
      rw [if_neg ho]
    generalize stZ st.L z = S at h3' HSt
    clear h h3
    go_enter Tryz.func80, Tryz.ntmps80
    go_wp2_with (go_at_call 25; refine (HSt.out _ (Below.refl _ _)).mono ?_; rintro e w2 ⟨rfl, rfl⟩)
    go_ret
    rw [HM.out.1, HM.out.2]
    exact ⟨rfl, Sv.start H.out⟩
end
end Go.Proofs.YtfcbcpjcmihooaaGreat
