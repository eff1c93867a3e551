/- Texts of this seat, one behind the other: StDm. -/
import Derived.Test.YtncnkpnfmbgifaaGreatQ15
import Derived.Test.YtncnkpnfmbgifaaGreatP21
import Derived.Test.YtncnkpnfmbgifaaGreatQ4
import Derived.Test.YtncnkpnfmbgifaaGreatQ3
import Derived.Test.YtncnkpnfmbgifaaGreatQ7
/- What one call of Flush, Mark, Clear, Last, Low, Get of the document's store does. -/
namespace Go.Proofs.YtncnkpnfmbgifaaGreat
open Go.RowKit
set_option linter.unusedVariables false
set_option maxRecDepth 4000
section
variable {D M : Nat → Prop} {W W' : World} {k : Rs} {st : St}
theorem SdV.svstep {zs' : List Zn} (h : SdV D M W k st) (hs : SvSt 88 D W k.pd st.s zs' W') (hw : Wf st.s zs') : Sd (SdO D M k) W k { st with zs := zs' } W' := by
 obtain ⟨O', hd, hO, ho⟩ := hs
 have hlen : zs'.length = st.zs.length := by have := hw.len; have := h.wf.len; omega
 have hn : ∀ x, k.has x → ¬ D x := fun x hx => (h.nd x hx).1
 refine ⟨fun x => O' x ∧ x < W'.heap.size, M, ⟨ho.blk h.hp (hn _ (.inl rfl)), hd.there, h.sg.out ho (hn _ (.inr (.inl rfl))) (hn _ (.inr (.inr (.inl rfl)))), h.mp.out ho (hn _ (.inr (.inr (.inr (.inl rfl))))) (fun x hx hd => h.dm x hd hx), ho.blk h.hl (hn _ (.inr (.inr (.inr (.inr rfl))))), hw, h.fq, by rw [hlen]; exact h.len, ?_, ?_, ?_, h.ap⟩, ?_, ho.mono (fun j e _ => .inl e)⟩
 ·rintro x (hx | hx)
  ·exact hx.2
  ·exact Nat.lt_of_lt_of_le (h.lt x (.inr hx)) ho.size
 ·intro x hx
  refine ⟨?_, (h.nd x hx).2⟩
  rintro ⟨hd, _⟩
  rcases hO x hd with h' | h'
  ·exact hn x hx h'
  ·have := h.kin x hx; omega
 ·rintro x ⟨hx, _⟩ hm
  rcases hO x hx with h' | h'
  ·exact h.dm x h' hm
  ·have := h.lt x (.inr hm); omega
 ·rintro x (⟨hx, _⟩ | hx | hx)
  ·rcases hO x hx with h' | h'
   ·exact .inl (.inl h')
   ·exact .inr h'
  ·exact .inl (.inr (.inl hx))
  ·exact .inl (.inr (.inr hx))
theorem dsflush_of (h : SdV D M W k st) : Calls Tryz.prog 50 #[.pointer (some ⟨k.ps, 0, none⟩)] W fun e w' => (∃ v, e = .returned v) ∧ Sd (SdO D M k) W k (flushM st) w' := by
 obtain ⟨c0, _⟩ := h.cells
 have HF : Hid (Calls Tryz.prog 96 #[.pointer (some ⟨k.pd, 0, none⟩)] W fun e w' => (∃ v, e = .returned v) ∧ Sd (SdO D M k) W k (flushM st) w') := (rFlush_of h.dv).mono (fun e w' hh => ⟨hh.1, h.dvstep hh.2 h.wf.flush⟩)
 clear h
 go_enter Tryz.func50, Tryz.ntmps50
 go_wp2_with (go_at_call 96; refine HF.out.mono ?_; rintro e w2 ⟨⟨v, rfl⟩, sv⟩)
 first | go_end0 | refine bodyPost_ret (results_none rfl _ _ _) rfl ?_
 exact ⟨⟨_, rfl⟩, sv⟩
theorem dslow_of (h : SdV D M W k st) : Calls Tryz.prog 56 #[.pointer (some ⟨k.ps, 0, none⟩)] W fun e w' => e = .returned (.bool (lowB st.L st.s.r)) ∧ Below W.heap.size W w' := by
 obtain ⟨_, c1, _⟩ := h.cells
 have HL : Hid (Calls Tryz.prog 106 #[.pointer (some ⟨k.pg, 0, none⟩)] W fun e w' => e = .returned (.bool (lowB st.L st.s.r)) ∧ Below W.heap.size W w') := dgLow_of k.pg k.gg k.gc st.s st.L W h.sg
 clear h
 go_enter Tryz.func56, Tryz.ntmps56
 go_wp2_with (go_at_call 106; refine HL.out.mono ?_; rintro e w2 ⟨rfl, hb⟩)
 go_ret
 exact ⟨rfl, hb⟩
theorem dslast_of (z : Int) (h : SdV D M W k st) : Calls Tryz.prog 42 #[.pointer (some ⟨k.ps, 0, none⟩), .int .i64 z] W fun e w' => e = .returned (.int .u64 (lastI st.la z)) ∧ Below W.heap.size W w' := by
 obtain ⟨_, _, _, _, c4, _⟩ := h.cells
 obtain ⟨N, hN⟩ : ∃ N, N = st.la.length := ⟨_, rfl⟩
 rw [← hN] at c4
 by_cases h0 : z < 0
 ·have HE : Hid (lastI st.la z = 0) := by show _ = _; unfold lastI; rw [if_neg (by omega)]
  clear h
  go_enter Tryz.func42, Tryz.ntmps42
  go_wp2
  go_ret
  exact ⟨by rw [HE.out]; rfl, Below.refl _ _⟩
 ·obtain ⟨i, rfl⟩ : ∃ i : Nat, z = i := ⟨z.toNat, by omega⟩
  by_cases h1 : i < N
  ·have hlt : ¬ (N : Int) ≤ i := by omega
   have hi' : (i : Int) < N := by omega
   have y0 : W.cell? ⟨k.lb, i, none⟩ = some (.int .u64 (lastI st.la i)) := by
    rw [h.hl.cell]
    unfold lastI
    simp [kInts, hN ▸ h1, List.getD]
   generalize lastI st.la i = v at y0 ⊢
   clear h hN
   go_enter Tryz.func42, Tryz.ntmps42
   go_wp2
   go_ret
   exact ⟨rfl, Below.refl _ _⟩
  ·have hge : (N : Int) ≤ i := by omega
   have HE : Hid (lastI st.la i = 0) := by show _ = _; unfold lastI; simp [List.getD, List.getElem?_eq_none (by omega : st.la.length ≤ i)]
   clear h hN
   go_enter Tryz.func42, Tryz.ntmps42
   go_wp2
   go_ret
   exact ⟨by rw [HE.out]; rfl, Below.refl _ _⟩
set_option maxHeartbeats 1000000 in
theorem dsget_of (h : SdV D M W k st) (n : Pr) (hS : st.S.length ≤ 10000) (hp : Plc st.zs st.S) :
  Calls Tryz.prog 48 #[.pointer (some ⟨k.ps, 0, none⟩), .int .u32 n.1, .int .u64 n.2] W fun e w' => ∃ v, e = .returned (.tuple #[v, .bool (memT st n).isSome]) ∧ BkAt (fun x => W.heap.size ≤ x) w' v ((memT st n).getD []) ∧ Below W.heap.size W w' := by
 obtain ⟨s0, _, s2, _⟩ := h.cells
 have hG := dmGet_of k.pm st.S n W h.mp.d hS
 have H : Hid (SdV D M W k st ∧ Plc st.zs st.S) := ⟨h, hp⟩
 cases hg : getS st.S n with
 | none =>
  have hm : memT st n = none := by unfold memT memS; rw [hg]; rfl
  rw [hm]
  rw [hg] at hG
  clear h hp
  have HG : Hid (Calls Tryz.prog 89 #[.pointer (some ⟨k.pm, 0, none⟩), .int .u32 n.1, .int .u64 n.2] W fun e w' => e = .returned (.tuple #[.agg #[.int .i64 0, .int .i64 0], .bool false]) ∧ Below W.heap.size W w') := hG
  clear hG
  go_enter Tryz.func48, Tryz.ntmps48
  go_wp2_with (go_at_call 89; refine HG.out.mono ?_; rintro e W1 ⟨rfl, hb1⟩)
  go_ret2
  exact ⟨_, rfl, BkAt.nil _ _, hb1.alloc hb1.size _⟩
 | some a =>
  obtain ⟨E, hm, hrE, hrB⟩ := mem_read hp hg
  have hm' : memT st n = some E := hm
  rw [hm']
  rw [hg] at hG
  have HG : Hid (Calls Tryz.prog 89 #[.pointer (some ⟨k.pm, 0, none⟩), .int .u32 n.1, .int .u64 n.2] W fun e w' => e = .returned (.tuple #[.agg #[.int .i64 a.1, .int .i64 a.2], .bool true]) ∧ Below W.heap.size W w') := hG
  have HE : Hid (rdE st.zs a.1 a.2 = 0 ∧ rdB st.zs a.1 a.2 = E) := ⟨hrE, hrB⟩
  clear hG h hp hm hm' hrE hrB
  go_enter Tryz.func48, Tryz.ntmps48
  go_wp2_with (go_at_call 89; refine HG.out.mono ?_; rintro e W1 ⟨rfl, hb1⟩)
  have HV : Hid (Below W.heap.size W (W1.alloc (.cells #[.int .i64 a.1, .int .i64 a.2] 49)) ∧ Blk (W1.alloc (.cells #[.int .i64 a.1, .int .i64 a.2] 49)) W1.heap.size [.int .i64 a.1, .int .i64 a.2] 49) := ⟨hb1.alloc hb1.size _, Blk.new' rfl rfl⟩
  clear hb1 s0 s2
  generalize World.alloc W1 _ = V at HV ⊢
  generalize W1.heap.size = ga at HV ⊢
  have t0 := (H.out.1.under HV.out.1).cells.1
  have a0 : V.cell? ⟨ga, 0, none⟩ = some (.int .i64 a.1) := HV.out.2.cell 0
  have a1 : V.cell? ⟨ga, 1, none⟩ = some (.int .i64 a.2) := HV.out.2.cell 1
  have HR2 : Hid (Calls Tryz.prog 90 #[.pointer (some ⟨k.pd, 0, none⟩), .agg #[.int .i64 a.1, .int .i64 a.2]] V.drew fun e w' => ∃ A L C, e = .returned (.tuple #[.slice A L C, .int .i64 0]) ∧ (BkAt (fun x => W.heap.size ≤ x) w' (.slice A L C) E ∧ Below W.heap.size W w') ∧ w'.cell? ⟨k.ps, 0, none⟩ = some (.pointer (some ⟨k.pd, 0, none⟩)) ∧ w'.cell? ⟨ga, 0, none⟩ = some (.int .i64 a.1) ∧ w'.cell? ⟨ga, 1, none⟩ = some (.int .i64 a.2)) := by
   have hbV : Below V.heap.size V V.drew := (Below.refl _ _).drew
   refine (rRead_of a.1 a.2 (H.out.1.under (HV.out.1.trans (hbV.mono HV.out.1.size))).dv H.out.1.wf).mono ?_
   rintro e w' ⟨v, rfl, h1, h2⟩
   obtain ⟨A, C, hv⟩ := own_slice h1.1
   subst hv
   have hb' : Below V.heap.size V w' := hbV.trans h2
   have hbW := HV.out.1.trans (hb'.mono HV.out.1.size)
   refine ⟨A, _, C, by rw [HE.out.1], ⟨?_, hbW⟩, (H.out.1.under hbW).cells.1, (HV.out.2.below hb' HV.out.2.lt).cell 0, (HV.out.2.below hb' HV.out.2.lt).cell 1⟩
   rw [← HE.out.2]
   exact h1.mono (fun x hx _ => by have := HV.out.1.size; exact Nat.le_trans this hx)
  go_region_held3 (fun Y => Y.cell? ⟨k.ps, 0, none⟩ = some (.pointer (some ⟨k.pd, 0, none⟩)) ∧ Y.cell? ⟨ga, 0, none⟩ = some (.int .i64 a.1) ∧ Y.cell? ⟨ga, 1, none⟩ = some (.int .i64 a.2)) (first | exact ⟨t0, a0, a1⟩ | exact ⟨u0, b0, b1⟩)
   (first | (go_simp; go_at_call 90; refine HR2.out.mono ?_; rintro e V9 ⟨A9, L9, C9, rfl, bk, u0, b0, b1⟩))
  have HB : Hid (BkAt (fun x => W.heap.size ≤ x) V9 (.slice A9 L9 C9) E ∧ Below W.heap.size W V9) := bk
  clear bk u0 b0 b1 t0 a0 a1 HR2
  go_wp2
  go_ret2
  exact ⟨_, rfl, HB.out.1, HB.out.2⟩
theorem pl_kin {w : World} {a : Option Addr} {n : Nat} {L : List Pl} (h : PlIn w a n L) (hn : n ≤ maxLen) (hf : ∀ x ∈ L, FitsP x) : KIn w a n L := by
 refine ⟨h.1, hn, hf, ?_⟩
 rcases h.2 with h0 | ⟨g, ha, hc⟩
 ·exact .inl h0
 ·refine .inr ⟨g, 0, ha, fun i x hx j v hv => ?_⟩
  obtain ⟨c0, c1, c2, c3⟩ := hc i x hx
  rw [Nat.zero_add]
  match j, hv with
  | 0, hv => cases hv; exact c0
  | 1, hv => cases hv; exact c1
  | 2, hv => cases hv; exact c2
  | 3, hv => cases hv; exact c3
  | j + 4, hv => simp [plL] at hv
set_option maxHeartbeats 4000000 in
theorem dsmark_of (h : SdV D M W k st) (hS : st.S.length ≤ 10000) (ho : st.o = 0 ∨ st.o = 1) : Calls Tryz.prog 51 #[.pointer (some ⟨k.ps, 0, none⟩)] W fun e w' => e = .returned (.int .i64 (markM st).1) ∧ Sd (SdO D M k) W k (markM st).2 w' := by
 obtain ⟨c0, c1, c2, c3, c4, c5⟩ := h.cells
 obtain ⟨o1, ho1⟩ : ∃ o1, o1 = 1 - st.o := ⟨_, rfl⟩
 have hwo : IntKind.i64.wrap (1 - st.o) = o1 := by rw [ho1, IntKind.wrap_i64]; omega
 have H : Hid (SdV D M W k st ∧ o1 = 1 - st.o) := ⟨h, ho1⟩
 have kc : ∀ Y, Below W.heap.size W Y → Y.cell? ⟨k.ps, 0, none⟩ = some (.pointer (some ⟨k.pd, 0, none⟩)) ∧ Y.cell? ⟨k.ps, 2, none⟩ = some (.pointer (some ⟨k.pm, 0, none⟩)) ∧ Y.cell? ⟨k.ps, 3, none⟩ = some (.int .u64 st.q) ∧ Y.cell? ⟨k.ps, 5, none⟩ = some (.int .i64 st.o) := fun Y hY => ⟨(h.under hY).cells.1, (h.under hY).cells.2.2.1, (h.under hY).cells.2.2.2.1, (h.under hY).cells.2.2.2.2.2⟩
 have HAl : Hid (∀ Y, Below W.heap.size W Y → Calls Tryz.prog 97 #[.pointer (some ⟨k.pm, 0, none⟩)] Y fun e Z => ∃ a n cc, e = .returned (.slice a n cc) ∧ (KIn Z a n st.S ∧ n ≤ n ∧ Below W.heap.size W Z) ∧ Z.cell? ⟨k.ps, 0, none⟩ = some (.pointer (some ⟨k.pd, 0, none⟩)) ∧ Z.cell? ⟨k.ps, 2, none⟩ = some (.pointer (some ⟨k.pm, 0, none⟩)) ∧ Z.cell? ⟨k.ps, 3, none⟩ = some (.int .u64 st.q) ∧ Z.cell? ⟨k.ps, 5, none⟩ = some (.int .i64 st.o)) := fun Y hY => by
  refine (dmAll_of k.pm st.S Y (h.under hY).mp.d hS).mono ?_
  rintro e Z ⟨a, cc, rfl, ow, hZ⟩
  have hb := hY.trans (hZ.mono hY.size)
  exact ⟨a, st.S.length, cc, rfl, ⟨pl_kin ow (by unfold maxLen; omega) h.mp.2.fits, Nat.le_refl _, hb⟩, kc Z hb⟩
 have HSa : Hid (∀ Y a n cc, (KIn Y a n st.S ∧ n ≤ n ∧ Below W.heap.size W Y) → Calls Tryz.prog 78 #[.pointer (some ⟨k.pd, 0, none⟩), .int .i64 o1, .agg #[.int .u64 st.q, .slice a n cc]] Y fun e Z => e = .returned (.int .i64 (svE st.s o1 st.S)) ∧ Sd (SdO D M k) W k { st with zs := svZ st.s st.zs o1 st.q st.S } Z ∧ Z.cell? ⟨k.ps, 0, none⟩ = some (.pointer (some ⟨k.pd, 0, none⟩)) ∧ Z.cell? ⟨k.ps, 2, none⟩ = some (.pointer (some ⟨k.pm, 0, none⟩)) ∧ Z.cell? ⟨k.ps, 3, none⟩ = some (.int .u64 st.q) ∧ Z.cell? ⟨k.ps, 5, none⟩ = some (.int .i64 st.o)) := fun Y a n cc hY => by
  have hv := h.under hY.2.2
  refine (dkSave_of o1 st.q a n cc st.S hv.dv hv.wf hv.fq hY.1 (by have := hY.1.1; omega)).mono ?_
  rintro e Z ⟨rfl, hs⟩
  have sv := hv.svstep hs (swf_svZ hv.wf _ _ _)
  obtain ⟨D9, M9, hv9, hD9, ho9⟩ := sv
  exact ⟨rfl, Sd.from hY.2.2 ⟨D9, M9, hv9, hD9, ho9⟩, hv9.cells.1, hv9.cells.2.2.1, hv9.cells.2.2.2.1, hv9.cells.2.2.2.2.2⟩
 clear h kc ho1
 go_enter Tryz.func51, Tryz.ntmps51
 go_wp2_with fail
 go_region_held3 (fun Y => Y.cell? ⟨k.ps, 0, none⟩ = some (.pointer (some ⟨k.pd, 0, none⟩)) ∧ Y.cell? ⟨k.ps, 2, none⟩ = some (.pointer (some ⟨k.pm, 0, none⟩)) ∧ Y.cell? ⟨k.ps, 3, none⟩ = some (.int .u64 st.q) ∧ Y.cell? ⟨k.ps, 5, none⟩ = some (.int .i64 st.o)) (first | exact ⟨c0, c2, c3, c5⟩ | exact ⟨d0, d1, d2, d3⟩ | exact ⟨e0, e1, e2, e3⟩)
  (first
  | (go_simp; go_at_call 97; refine (HAl.out _ (by exact (Below.refl _ _).drew)).mono ?_; rintro e Y ⟨a, n, cc, rfl, hY, d0, d1, d2, d3⟩)
  | (go_simp; go_at_call 78; refine (HSa.out _ a n cc hY).mono ?_; rintro e Z ⟨rfl, sv, e0, e1, e2, e3⟩))
 have HZ : Hid (Sd (SdO D M k) W k { st with zs := svZ st.s st.zs o1 st.q st.S } Z) := sv
 clear sv hY d0 d1 d2 d3 e0 e1 e2 e3 c0 c1 c2 c3 c4 c5 HAl HSa
 by_cases hE : svE st.s o1 st.S = 0
 ·have HM : Hid (markM st = (0, { st with zs := svZ st.s st.zs o1 st.q st.S, o := o1 })) := by
   have e := H.out.2
   show _ = _
   unfold markM
   rw [← e, if_pos hE, hE]
  obtain ⟨D9, M9, hv9, hD9, ho9⟩ := HZ.out
  obtain ⟨_, _, _, _, _, z5⟩ := hv9.cells
  have f5 := hv9.hp.frozen 5
  have HV : Hid (Sd (SdO D M k) W k { st with zs := svZ st.s st.zs o1 st.q st.S, o := o1 } (Z.setCell ⟨k.ps, 5, none⟩ (.int .i64 o1))) := Sd.next hD9 ho9 (hv9.setP (q := st.q) (o := o1) rfl hv9.fq)
  clear hv9 hD9 ho9 HZ
  simp only at z5
  rw [hE]
  clear hE
  go_wp2
  go_ret
  rw [HM.out]
  exact ⟨rfl, HV.out⟩
 ·have hE' : (svE st.s o1 st.S == 0) = false := by simpa using hE
  have HM : Hid (markM st = (svE st.s o1 st.S, { st with zs := svZ st.s st.zs o1 st.q st.S })) := by
   have e := H.out.2
   show _ = _
   unfold markM
   rw [← e, if_neg hE]
  generalize svE st.s o1 st.S = E at HM hE hE' ⊢
  go_wp2
  go_ret
  rw [HM.out]
  exact ⟨rfl, HZ.out⟩
set_option maxHeartbeats 4000000 in
theorem dsclear_of (z : Int) (h : SdV D M W k st) (hS : st.S.length ≤ 10000) : Calls Tryz.prog 52 #[.pointer (some ⟨k.ps, 0, none⟩), .int .i64 z] W fun e w' => e = .returned (.bool (decide (clearOk st z))) ∧ Sd (SdO D M k) W k (clearM st z) w' := by
 obtain ⟨c0, c1, c2, c3, c4, c5⟩ := h.cells
 have H : Hid (SdV D M W k st) := h
 have HSt : Hid (∀ Y, Below W.heap.size W Y → Calls Tryz.prog 98 #[.pointer (some ⟨k.pg, 0, none⟩), .int .i64 z] Y fun e Z => e = .returned (.int .u8 (stZ st.L z)) ∧ Z = Y) := fun Y hY => dgState_of k.pg k.gg k.gc st.s st.L z Y (h.under hY).sg
 by_cases h3 : stZ st.L z = 3
 ·obtain ⟨i, rfl, hi⟩ := st3_in h3
  have hiz : i < st.la.length := by have := h.len; omega
  have kc : ∀ Y, Below W.heap.size W Y → Y.cell? ⟨k.ps, 1, none⟩ = some (.pointer (some ⟨k.pg, 0, none⟩)) ∧ Y.cell? ⟨k.ps, 2, none⟩ = some (.pointer (some ⟨k.pm, 0, none⟩)) := fun Y hY => ⟨(h.under hY).cells.2.1, (h.under hY).cells.2.2.1⟩
  by_cases he : emIn st.S i
  ·have HIn : Hid (∀ Y, Below W.heap.size W Y → Calls Tryz.prog 40 #[.pointer (some ⟨k.pm, 0, none⟩), .int .i64 (i : Nat)] Y fun e Z => ∃ a cc, e = .returned (.slice a 0 cc) ∧ (Below W.heap.size W Z) ∧ Z.cell? ⟨k.ps, 1, none⟩ = some (.pointer (some ⟨k.pg, 0, none⟩)) ∧ Z.cell? ⟨k.ps, 2, none⟩ = some (.pointer (some ⟨k.pm, 0, none⟩))) := fun Y hY => by
    refine (dmIn_of k.pm st.S (i : Nat) Y (h.under hY).mp.d hS).mono ?_
    rintro e Z ⟨L, a, cc, rfl, hI, ow, hZ⟩
    have hb := hY.trans (hZ.mono hY.size)
    rw [(emIn_iff hI).1 he]
    exact ⟨a, cc, rfl, hb, kc Z hb⟩
   have HM : Hid (decide (clearOk st (i : Nat)) = true ∧ clearM st (i : Nat) = { st with zs := resetZ st.zs (i : Nat), la := st.la.set i 0, L := turnZ st.L (i : Nat) 3 1 }) := by
    have ho : clearOk st (i : Nat) := ⟨h3, he⟩
    refine ⟨by simp [ho], ?_⟩
    unfold clearM
    rw [if_pos ho, Int.toNat_natCast]
   have HRe : Hid (∀ Y, Below W.heap.size W Y → Calls Tryz.prog 99 #[.pointer (some ⟨k.pd, 0, none⟩), .int .i64 (i : Nat)] Y fun e Z => (∃ v, e = .returned v) ∧ Sd (SdO D M k) W k { st with zs := resetZ st.zs (i : Nat) } Z) := fun Y hY => by
    have hv := h.under hY
    refine (rReset_of (i : Nat) hv.dv).mono ?_
    rintro e Z ⟨rfl, hs⟩
    exact ⟨⟨_, rfl⟩, Sd.from hY (hv.dvstep hs (hv.wf.reset _))⟩
   have HAf : Hid (∀ Z, Sd (SdO D M k) W k { st with zs := resetZ st.zs (i : Nat) } Z → Z.cell? ⟨k.ps, 1, none⟩ = some (.pointer (some ⟨k.pg, 0, none⟩)) ∧ Calls Tryz.prog 100 #[.pointer (some ⟨k.pg, 0, none⟩), .int .i64 (i : Nat)] Z fun e w' => (∃ v, e = .returned v) ∧ (∃ old, w'.cell? ⟨k.lb, i, none⟩ = some (.int .u64 old)) ∧ w'.frozen? ⟨k.lb, i, none⟩ = false ∧ w'.cell? ⟨k.ps, 4, none⟩ = some (.slice (some ⟨k.lb, 0, none⟩) st.la.length st.la.length) ∧ Hid (Sd (SdO D M k) W k { st with zs := resetZ st.zs (i : Nat), la := st.la.set i 0, L := turnZ st.L (i : Nat) 3 1 } (w'.setCell ⟨k.lb, i, none⟩ (.int .u64 0)))) := by
    intro Z sv
    obtain ⟨D4, M4, hv4, hD4, ho4⟩ := sv
    refine ⟨hv4.cells.2.1, ?_⟩
    refine (dgClear_of k.pg k.gg k.gc st.s st.L (i : Nat) _ hv4.sg).mono ?_
    rintro e w' ⟨rfl, h1, h2⟩
    obtain ⟨D5, M5, hv5, hD5, ho5⟩ := Sd.next hD4 ho4 (hv4.sgstep h1 h2 (turnZ_length _ _ _ _))
    exact ⟨⟨_, rfl⟩, ⟨st.la[i], by rw [hv5.hl.cell]; simp [kInts, hiz]⟩, hv5.hl.frozen i, hv5.cells.2.2.2.2.1, Sd.next hD5 ho5 (hv5.setLa i 0)⟩
   have HC0 : Hid (∀ Y, Below W.heap.size W Y → Y.cell? ⟨k.ps, 0, none⟩ = some (.pointer (some ⟨k.pd, 0, none⟩))) := fun Y hY => (h.under hY).cells.1
   have h3' : (stZ st.L (i : Nat) != 3) = false := by simp [h3]
   clear h kc he
   go_enter Tryz.func52, Tryz.ntmps52
   go_wp2_with (first
    | (go_at_call 98; refine (HSt.out _ (Below.refl _ _)).mono ?_; rintro e w2 ⟨rfl, rfl⟩)
    | (go_at_call 40; refine (HIn.out _ (Below.refl _ _)).mono ?_; rintro e w3 ⟨a, cc, rfl, hb3, d1, d2⟩; have d0 := HC0.out _ hb3)
    | (go_at_call 99; refine (HRe.out _ hb3).mono ?_; rintro e w4 ⟨⟨v4, rfl⟩, sv4⟩; obtain ⟨y1, hcl⟩ := HAf.out _ sv4; clear sv4)
    | (go_at_call 100; refine hcl.mono ?_; rintro e w5 ⟨⟨v5, rfl⟩, ⟨old, y0⟩, yf, y4, H5⟩))
   go_ret
   rw [HM.out.1, HM.out.2]
   exact ⟨rfl, H5.out⟩
  ·have HIn : Hid (∀ Y, Below W.heap.size W Y → Calls Tryz.prog 40 #[.pointer (some ⟨k.pm, 0, none⟩), .int .i64 (i : Nat)] Y fun e Z => ∃ (a : Option Addr) (n cc : Nat), e = .returned (.slice a n cc) ∧ (0 : Int) < n ∧ Below W.heap.size W Z) := fun Y hY => by
    refine (dmIn_of k.pm st.S (i : Nat) Y (h.under hY).mp.d hS).mono ?_
    rintro e Z ⟨L, a, cc, rfl, hI, ow, hZ⟩
    have h0 : ¬ L.length = 0 := fun e => he ((emIn_iff hI).2 e)
    exact ⟨a, L.length, cc, rfl, by omega, hY.trans (hZ.mono hY.size)⟩
   have HM : Hid (decide (clearOk st (i : Nat)) = false ∧ clearM st (i : Nat) = st) := by
    have ho : ¬ clearOk st (i : Nat) := fun ho => he ho.2
    refine ⟨by simp [ho], ?_⟩
    unfold clearM
    rw [if_neg ho]
   have h3' : (stZ st.L (i : Nat) != 3) = false := by simp [h3]
   clear h kc he
   go_enter Tryz.func52, Tryz.ntmps52
   go_wp2_with (first
    | (go_at_call 98; refine (HSt.out _ (Below.refl _ _)).mono ?_; rintro e w2 ⟨rfl, rfl⟩)
    | (go_at_call 40; refine (HIn.out _ (Below.refl _ _)).mono ?_; rintro e w3 ⟨a, n, cc, rfl, hn0, hb3⟩))
   go_ret
   rw [HM.out.1, HM.out.2]
   exact ⟨rfl, (Sd.start H.out).under hb3⟩
 ·have h3' : (stZ st.L z != 3) = true := by simpa using h3
  have HM : Hid (decide (clearOk st z) = false ∧ clearM st z = st) := by
   have ho : ¬ clearOk st z := fun ho => h3 ho.1
   refine ⟨by simp [ho], ?_⟩
   unfold clearM
   rw [if_neg ho]
  generalize stZ st.L z = S at h3' HSt
  clear h h3
  go_enter Tryz.func52, Tryz.ntmps52
  go_wp2_with (go_at_call 98; refine (HSt.out _ (Below.refl _ _)).mono ?_; rintro e w2 ⟨rfl, rfl⟩)
  go_ret
  rw [HM.out.1, HM.out.2]
  exact ⟨rfl, Sd.start H.out⟩
end
end Go.Proofs.YtncnkpnfmbgifaaGreat
