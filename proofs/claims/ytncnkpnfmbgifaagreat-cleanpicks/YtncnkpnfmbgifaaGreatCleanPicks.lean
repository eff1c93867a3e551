/- For every shape and list of calls the statement CleanPicks returns true: what is picked is full, if anything is in it no full zone is without and it is at most half of it, and none is picked just where there is none like that. -/
import Derived.Test.YtncnkpnfmbgifaaGreatRows
import Derived.Test.YtncnkpnfmbgifaaGreatS7
import Derived.Test.YtncnkpnfmbgifaaGreatQ21
import Derived.BigQuiet
import Derived.Lib.QuietBelow
import Derived.Deep.RegionHeld3
import Derived.WalkKit
import Derived.ProofKit
import Derived.OpenShut
import Derived.ShutString
import Derived.ChangeOld
import Derived.Below
namespace Go.Proofs.YtncnkpnfmbgifaaGreat.cleanPicks
open Go.ChangeShapes Go.WideShapes Go.ChangeAt Go.RowKit
open Go.ChangeMaps (open_string shut_string)
set_option linter.unusedVariables false

theorem own : ownKnob Tryz.prog.godebug = none := by kernel_rfl
theorem laidOut : laidOutB Tryz.prog = true := by kernel_rfl

set_option maxRecDepth 20000 in
set_option maxHeartbeats 8000000 in
theorem walk (s0 : Sh) (a1 : Option Addr) (n1 c1 : Nat) (x1 : List Od) (w : World) (w0 : ShF s0) (w1 : OdsR w a1 n1 x1 ∧ n1 ≤ c1 ∧ (a1 = none → n1 = 0 ∧ c1 = 0) ∧ ∀ o ∈ x1, Fits8 o.k ∧ F64 o.z) :
  Calls Tryz.prog 7 #[.agg (shL s0).toArray, .slice a1 n1 c1] w fun e w' => e = .returned (.bool true) ∧ Below w.heap.size w w' := by
 obtain ⟨hpr, hnc, hnil, hof⟩ := w1
 have hb0 : Below w.heap.size w (w.alloc (.cells #[.int .i64 s0.z, .int .i64 s0.zb, .int .i64 s0.b, .int .i64 s0.r] 23)) := (Below.refl _ _).alloc (Nat.le_refl _) _
 have bs0 : Blk (w.alloc (.cells #[.int .i64 s0.z, .int .i64 s0.zb, .int .i64 s0.b, .int .i64 s0.r] 23)) w.heap.size (shC s0) 23 := Blk.new' rfl rfl
 obtain ⟨hv, hHv⟩ : ∃ b, b = @decide (HvO s0 x1) (Classical.propDecidable _) := ⟨_, rfl⟩
 have HHv : Hid (Calls Tryz.prog 9 #[.agg #[.int .i64 s0.z, .int .i64 s0.zb, .int .i64 s0.b, .int .i64 s0.r], .slice a1 n1 c1] (w.alloc (.cells #[.int .i64 s0.z, .int .i64 s0.zb, .int .i64 s0.b, .int .i64 s0.r] 23)) fun e w' => e = .returned (.int .i64 (trB hv)) ∧ Below w.heap.size w w' ∧ Blk w' w.heap.size (shC s0) 23) := by
  rw [hHv]
  refine (Heavy_of s0 a1 n1 c1 x1 _ (hpr.below hb0)).mono ?_
  rintro e w' ⟨rfl, hb⟩
  exact ⟨rfl, hb0.trans (hb.mono hb0.size), bs0.below hb bs0.lt⟩
 have HO : Hid (∀ o ∈ x1, Fits8 o.k ∧ F64 o.z) := hof
 have HH : Hid (hv = @decide (HvO s0 x1) (Classical.propDecidable _) ∧ OdsR w a1 n1 x1 ∧ ShF s0) := ⟨hHv, hpr, w0⟩
 have HKn : Hid (∀ V, Below w.heap.size w V → Blk V w.heap.size (shC s0) 23 → Calls Tryz.prog 10 #[] V fun e w' => e = .returned (.bool true) ∧ Below w.heap.size w w' ∧ Blk w' w.heap.size (shC s0) 23) := fun V hb hs => by
  refine (clknown_any V).mono ?_
  rintro e w' ⟨rfl, hb'⟩
  exact ⟨rfl, hb.trans (hb'.mono hb.size), hs.below hb' hs.lt⟩
 have hn1 := hpr.2.1
 clear hHv hpr hb0 bs0 w0 hof
 unfold shL
 cases hv with
 | true =>
  rw [show trB true = 1 from rfl] at HHv
  go_enter Tryz.func7, Tryz.ntmps7
  go_wp2_with (first
   | (go_at_call 9; refine HHv.out.mono ?_; rintro e W1 ⟨rfl, hb1, bs1⟩)
   | (go_at_call 10; refine (HKn.out _ hb1 bs1).mono ?_; rintro e W2 ⟨rfl, hb2, _⟩))
  go_ret
  exact ⟨rfl, hb2⟩
 | false =>
  rw [show trB false = 0 from rfl] at HHv
  have HL : Hid (SmallS s0 ∧ n1 ≤ 40 ∧ (∀ o ∈ x1, o.l.length ≤ 30 ∧ ∀ p ∈ o.l, p.d.length ≤ 200)) := by
   have hn := light_ops (fun h => by have e := HH.out.1; rw [@decide_eq_true _ (Classical.propDecidable _) h] at e; cases e)
   have hlen := HH.out.2.1.1
   exact ⟨hn.1, by rw [← hlen]; exact hn.2.1, hn.2.2⟩
  by_cases hr : RightS s0
  ·have HB2 : Hid (∀ V, Below w.heap.size w V → Calls Tryz.prog 11 #[.agg #[.int .i64 s0.z, .int .i64 s0.zb, .int .i64 s0.b, .int .i64 s0.r], .slice a1 n1 c1] V fun e w' => ∃ rs st k, e = .returned (.tuple #[.pointer (some ⟨k.ps, 0, none⟩), .pointer (some ⟨rs, 0, none⟩)]) ∧ Ky V k st 1200 w' ∧ Inv2 st ∧ st.s = s0 ∧ 0 ≤ st.q ∧ st.q ≤ 1200) := fun V hb => both_ky s0 a1 n1 c1 x1 w V HH.out.2.2 HH.out.2.1 HO.out HL.out.2 hb hr
   have HSm : Hid (Sml s0) := ⟨HL.out.1.1, HL.out.1.2.1⟩
   clear hr
   go_enter Tryz.func7, Tryz.ntmps7
   go_wp2_with (first
    | (go_at_call 9; refine HHv.out.mono ?_; rintro e W1 ⟨rfl, hb1, bs1⟩)
    | (go_at_call 10; refine (HKn.out _ hb1 bs1).mono ?_; rintro e W2 ⟨rfl, hb2, bs2⟩; have sh0 : W2.cell? ⟨w.heap.size, 0, none⟩ = some (.int .i64 s0.z) := bs2.cell 0; have sh1 : W2.cell? ⟨w.heap.size, 1, none⟩ = some (.int .i64 s0.zb) := bs2.cell 1; have sh2 : W2.cell? ⟨w.heap.size, 2, none⟩ = some (.int .i64 s0.b) := bs2.cell 2; have sh3 : W2.cell? ⟨w.heap.size, 3, none⟩ = some (.int .i64 s0.r) := bs2.cell 3)
    | (go_at_call 11; refine (HB2.out _ hb2).mono ?_; rintro e W3 ⟨rs, st, k, rfl, hk3, hi3, hs3, hq3⟩; have H3 : Hid (Inv2 st ∧ st.s = s0 ∧ Sml st.s ∧ (0 ≤ st.q ∧ st.q ≤ 1200) ∧ Below w.heap.size w W2 ∧ Blk W2 w.heap.size (shC s0) 23 ∧ Ky W2 k st 1200 W3) := ⟨hi3, hs3, by { rw [hs3]; exact HSm.out }, hq3, hb2, bs2, hk3⟩; clear hk3 hi3 hs3 hq3 sh0 sh1 sh2 sh3 bs2 bs1 hb1 hb2 HB2 HHv HKn))
   obtain ⟨z, hz⟩ : ∃ z, z = pickM st := ⟨_, rfl⟩
   have HZe : Hid (z = pickM st) := hz
   have HP : Hid (Calls Tryz.prog 12 #[.pointer (some ⟨k.ps, 0, none⟩)] W3 fun e w' => e = .returned (.int .i64 z) ∧ Ky W2 k st 1200 w') := by rw [hz]; exact H3.out.2.2.2.2.2.2.pick H3.out.1 H3.out.2.2.1 (by omega)
   clear hz
   obtain ⟨F, hF⟩ : ∃ F, F = listZ st.L 3 := ⟨_, rfl⟩
   obtain ⟨M, hM⟩ : ∃ M, M = F.length := ⟨_, rfl⟩
   have HF : Hid (F = listZ st.L 3 ∧ M = F.length) := ⟨hF, hM⟩
   clear hF hM
   go_wp2_with (first
    | (go_at_call 12; refine HP.out.mono ?_; rintro e W4 ⟨rfl, hk4⟩; have HSg := hk4.seg; have HLs : Hid (Calls Tryz.prog 29 #[.pointer (some ⟨k.pg, 0, none⟩), .int .u8 3] W4 fun e w' => ∃ A cc, e = .returned (.slice A M cc) ∧ NIn .i64 w' A M F ∧ Ky W2 k st 1200 w') := by { rw [HF.out.2, HF.out.1]; exact hk4.list 3 H3.out.1 })
    | (go_at_call 23; refine HSg.mono ?_; rintro e W5 ⟨rfl, rfl⟩)
    | (go_at_call 29; refine HLs.out.mono ?_; rintro e Z ⟨A, cc, rfl, nz, kz⟩))
   have HZ : Hid (NIn .i64 Z A M F ∧ Ky W2 k st 1200 Z) := ⟨nz, kz⟩
   have HM : Hid (M ≤ 256) := by
    have := (list_small H3.out.1 3).1
    have e := HF.out.2
    rw [HF.out.1] at e
    show M ≤ 256
    omega
   clear nz kz hk4 HSg HLs HP
   have HWM : Hid (wrap64 ((M : Int) - 1) = (M : Int) - 1) := by
    have := HM.out
    show wrap64 ((M : Int) - 1) = (M : Int) - 1
    unfold wrap64
    omega
   go_loopw [9, 10, 11] (fun v f x wr => PkRel st F M Z wr v f x) (fun _ _ x _ => (intOf x + 1).toNat)
   case atStart => exact ⟨M, -1, false, by rw [HWM.out], Nat.le_refl _, rfl, rfl, by rw [HF.out.2]; exact emp_start _ _, by rw [HF.out.2]; exact few_start _ _, Below.refl _ _⟩
   case round =>
    obtain ⟨m, E, b, rfl, hm, rfl, rfl, he, hf, bl⟩ := hrel
    have hM256 := HM.out
    have hk := HZ.out.2.under bl
    have bs : Blk wr w.heap.size (shC s0) 23 := H3.out.2.2.2.2.2.1.below hk.bel H3.out.2.2.2.2.2.1.lt
    have sh0 : wr.cell? ⟨w.heap.size, 0, none⟩ = some (.int .i64 s0.z) := bs.cell 0
    have sh1 : wr.cell? ⟨w.heap.size, 1, none⟩ = some (.int .i64 s0.zb) := bs.cell 1
    have sh2 : wr.cell? ⟨w.heap.size, 2, none⟩ = some (.int .i64 s0.b) := bs.cell 2
    have sh3 : wr.cell? ⟨w.heap.size, 3, none⟩ = some (.int .i64 s0.r) := bs.cell 3
    have hr := H3.out.1.inv.wf.right
    obtain ⟨ZB, hZB⟩ : ∃ ZB : Nat, s0.zb = ZB := ⟨s0.zb.toNat, by rw [H3.out.2.1] at hr; have := hr.2.2.1; omega⟩
    rw [hZB] at sh1
    have hZ16 : ZB ≤ 16 := by have := HSm.out.2; omega
    have hstb : st.s.zb = ZB := by rw [H3.out.2.1]; exact hZB
    have hq : (ZB : Int).tdiv 2 = ((ZB / 2 : Nat) : Int) := by rw [Int.tdiv_eq_ediv_of_nonneg (by omega)]; omega
    obtain ⟨H, hH⟩ : ∃ H, H = ZB / 2 := ⟨_, rfl⟩
    rw [← hH] at hq
    have hH16 : H ≤ 16 := by rw [hH]; exact Nat.le_trans (Nat.div_le_self _ _) hZ16
    have hw3 : wrap64 (H : Int) = H := (wrap16 hH16).2
    have hw4 : IntKind.i64.wrap (H : Int) = H := (wrap16 hH16).1
    have HSt : Hid (∀ z : Int, ((liveN st.S z : Int) ≤ st.s.zb / 2 ↔ liveN st.S z ≤ H)) := fun z => by rw [hstb]; exact half_iff hH
    clear hZB hstb hr hH
    rcases Nat.eq_zero_or_pos m with h0 | h0
    ·subst h0
     rw [HF.out.1] at he hf
     rcases picks_end H3.out.1 he hf with ⟨h1, h2⟩ | ⟨h1, h2, h3⟩ | ⟨h1, h2, h3, h4, h5⟩
     ·have HB : Hid (Below w.heap.size w wr) := by
       have hb := H3.out.2.2.2.2.1
       exact hb.trans (hk.bel.mono hb.size)
      have hzE : z = E := by rw [HZe.out]; exact h2
      subst hzE
      clear hk bs bl he hf h2
      have h1' : ¬ z < 0 := by omega
      go_wp2
      go_ret
      exact ⟨by simp, HB.out⟩
     ·have HB : Hid (Below w.heap.size w wr) := by
       have hb := H3.out.2.2.2.2.1
       exact hb.trans (hk.bel.mono hb.size)
      have hz0 : z < 0 := by rw [HZe.out]; exact h2
      have hE : ¬ 0 ≤ E := by omega
      subst h3
      clear hk bs bl he hf h2
      go_wp2
      go_ret
      exact ⟨rfl, HB.out⟩
     ·have hz0 : ¬ z < 0 := by rw [HZe.out]; omega
      have hE : ¬ 0 ≤ E := by omega
      rw [← HZe.out] at h4 h5
      have h6 := (HSt.out z).1 h5
      obtain ⟨N, hN⟩ : ∃ N, N = liveN st.S z := ⟨_, rfl⟩
      have hNH : (N : Int) ≤ H := by omega
      have HSg : Hid (Calls Tryz.prog 23 #[.pointer (some ⟨k.ps, 0, none⟩)] wr.drew fun e w' => e = .returned (.pointer (some ⟨k.pg, 0, none⟩)) ∧ w' = wr.drew) := (hk.under (Below.refl _ _).drew).seg
      have HGs : Hid (Calls Tryz.prog 24 #[.pointer (some ⟨k.pg, 0, none⟩), .int .i64 z] wr.drew fun e w' => e = .returned (.int .u8 3) ∧ w' = wr.drew) := by
       have := (hk.under (Below.refl _ _).drew).state z
       rw [h4] at this
       exact this
      have HMd : Hid (Calls Tryz.prog 19 #[.pointer (some ⟨k.ps, 0, none⟩)] wr.drew fun e w' => e = .returned (.pointer (some ⟨k.pm, 0, none⟩)) ∧ w' = wr.drew) := (hk.under (Below.refl _ _).drew).map
      have HIn : Hid (Calls Tryz.prog 27 #[.pointer (some ⟨k.pm, 0, none⟩), .int .i64 z] wr.drew fun e w' => ∃ a cc, e = .returned (.slice a N cc) ∧ Below w.heap.size w w' ∧ w'.cell? ⟨w.heap.size, 1, none⟩ = some (.int .i64 ZB)) := by
       rw [hN]
       refine ((hk.under (Below.refl _ _).drew).inz z H3.out.1 (by omega)).mono ?_
       rintro e w' ⟨a, cc, rfl, h1, h2⟩
       have hb := H3.out.2.2.2.2.1
       have h3 : Below wr.heap.size wr w' := (Below.refl _ _).drew.trans h2
       exact ⟨a, cc, rfl, hb.trans (h1.bel.mono hb.size), (h3.cell (old_block sh1)).trans sh1⟩
      subst h3
      clear hk bs bl he hf h2 h4 h5 h6 hN
      go_wp2_with fail
      go_region_held3 (fun Y => Y.cell? ⟨w.heap.size, 1, none⟩ = some (.int .i64 ZB)) (first | exact sh1 | exact d9)
       (first
       | (go_simp; go_at_call 23; refine HSg.out.mono ?_; rintro e W8 ⟨rfl, rfl⟩)
       | (go_simp; go_at_call 24; refine HGs.out.mono ?_; rintro e W8 ⟨rfl, rfl⟩)
       | (go_simp; go_at_call 19; refine HMd.out.mono ?_; rintro e W8 ⟨rfl, rfl⟩)
       | (go_simp; go_at_call 27; refine HIn.out.mono ?_; rintro e W9 ⟨a9, c9, rfl, hb9, d9⟩))
      go_wp2
      go_ret
      exact ⟨by simp, hb9⟩
    ·obtain ⟨m, rfl⟩ : ∃ m', m = m' + 1 := ⟨m - 1, by omega⟩
     have hx0 : (((m + 1 : Nat) : Int) - 1) = (m : Int) := by omega
     have hge : (0 : Int) ≤ (m : Int) := by omega
     have hlt : (m : Int) < M := by omega
     have hwd : IntKind.i64.wrap ((m : Int) - 1) = (m : Int) - 1 := by rw [IntKind.wrap_i64]; omega
     rw [hx0]
     obtain ⟨x, hx⟩ : ∃ x, F[m]? = some x := ⟨F[m]'(by have := HF.out.2; omega), by simp⟩
     obtain ⟨g, off, hA, hcl⟩ := (HZ.out.1.2.2.2).resolve_left (by omega)
     subst hA
     have f0 : wr.cell? ⟨g, off + m, none⟩ = some (.int .i64 x) := by
      have := hcl m (by omega)
      rw [bl.cell (old_block this), this]
      simp [List.getD, hx]
     obtain ⟨N, hN⟩ : ∃ N, N = liveN st.S x := ⟨_, rfl⟩
     have HMp : Hid (Calls Tryz.prog 19 #[.pointer (some ⟨k.ps, 0, none⟩)] wr fun e w' => e = .returned (.pointer (some ⟨k.pm, 0, none⟩)) ∧ wr = w') := hk.map.mono (fun e w' hh => ⟨hh.1, hh.2.symm⟩)
     have HMd : Hid (Calls Tryz.prog 19 #[.pointer (some ⟨k.ps, 0, none⟩)] wr.drew fun e w' => e = .returned (.pointer (some ⟨k.pm, 0, none⟩)) ∧ w' = wr.drew) := (hk.under (Below.refl _ _).drew).map
     have HIn : Hid (∀ Y, Below wr.heap.size wr Y → Calls Tryz.prog 27 #[.pointer (some ⟨k.pm, 0, none⟩), .int .i64 x] Y fun e w' => ∃ a cc, e = .returned (.slice a N cc) ∧ (Below Z.heap.size Z w' ∧ w'.cell? ⟨w.heap.size, 1, none⟩ = some (.int .i64 ZB)) ∧ w'.cell? ⟨g, off + m, none⟩ = some (.int .i64 x)) := fun Y hY => by
      rw [hN]
      refine ((hk.under hY).inz x H3.out.1 (by omega)).mono ?_
      rintro e w' ⟨a, cc, rfl, h1, h2⟩
      have hb := hY.trans (h2.mono hY.size)
      exact ⟨a, cc, rfl, ⟨bl.trans (hb.mono bl.size), (hb.cell (old_block sh1)).trans sh1⟩, (hb.cell (old_block f0)).trans f0⟩
     have HE : Hid (F[m]? = some x ∧ N = liveN st.S x ∧ EmpIs st F (m + 1) E ∧ FewIs st F (m + 1) b) := ⟨hx, hN, he, hf⟩
     clear hk bs bl he hf hx hN hcl
     have HR : Hid ((N = 0 → EmpIs st F m x) ∧ (0 < N → EmpIs st F m E) ∧ FewIs st F m (b || decide (N ≤ H))) := by
      obtain ⟨e1, e2, e3, e4⟩ := HE.out
      refine ⟨fun h => emp_zero (E := E) e1 (by rw [← e2]; exact h), fun h => emp_pos e1 (by rw [← e2]; exact h) e3, ?_⟩
      have e : (b || decide (N ≤ H)) = (b || decide ((liveN st.S x : Int) ≤ st.s.zb / 2)) := by
       congr 1
       exact decide_eq_decide.2 (by rw [e2]; exact (HSt.out x).symm)
      rw [e]
      exact few_next e1 e4
     clear HE HSt
     go_wp2_with fail
     go_region_held3 (fun Y => Y.cell? ⟨g, off + m, none⟩ = some (.int .i64 x)) (first | exact f0 | exact d9)
      (first
      | (go_simp; go_at_call 19; refine HMd.out.mono ?_; rintro e W8 ⟨rfl, rfl⟩)
      | (go_simp; go_at_call 27; refine (HIn.out _ (Below.refl _ _).drew).mono ?_; rintro e W9 ⟨a9, c9, rfl, hb9, d9⟩))
     obtain ⟨b9, s9⟩ := hb9
     have HB9 : Hid (Below Z.heap.size Z W9) := b9
     have hH0 : (0 : Int) ≤ (H : Int) := by omega
     clear b9 f0 sh0 sh1 sh2 sh3 HMp HMd HIn
     rcases Nat.eq_zero_or_pos N with hN0 | hN0
     ·have e0 : (N : Int) = 0 := by omega
      have HEm := HR.out.1 hN0
      have HFw := HR.out.2.2
      rw [show decide (N ≤ H) = true from decide_eq_true (by omega), Bool.or_true] at HFw
      have HQ : Hid (EmpIs st F m x ∧ FewIs st F m true) := ⟨HEm, HFw⟩
      clear HEm HFw HR hN0
      cases b with
      | true =>
       go_wp2
       go_roundw
       case rel => exact ⟨m, x, true, by simp, by omega, rfl, rfl, HQ.out.1, HQ.out.2, HB9.out⟩
       case measure => simp [intOf]
      | false =>
       go_wp2
       go_roundw
       case rel => exact ⟨m, x, true, by simp, by omega, rfl, rfl, HQ.out.1, HQ.out.2, HB9.out⟩
       case measure => simp [intOf]
     ·have e0 : ¬ (N : Int) = 0 := by omega
      have HEm := HR.out.2.1 hN0
      have HFw := HR.out.2.2
      cases b with
      | true =>
       rw [Bool.true_or] at HFw
       have HQ : Hid (EmpIs st F m E ∧ FewIs st F m true) := ⟨HEm, HFw⟩
       clear HEm HFw HR hN0
       go_wp2
       go_roundw
       case rel => exact ⟨m, E, true, by simp, by omega, rfl, rfl, HQ.out.1, HQ.out.2, HB9.out⟩
       case measure => simp [intOf]
      | false =>
       rw [Bool.false_or] at HFw
       by_cases hNH : N ≤ H
       ·have hNH' : (N : Int) ≤ H := by omega
        rw [decide_eq_true hNH] at HFw
        have HQ : Hid (EmpIs st F m E ∧ FewIs st F m true) := ⟨HEm, HFw⟩
        clear HEm HFw HR hN0
        go_wp2
        go_roundw
        case rel => exact ⟨m, E, true, by simp, by omega, rfl, rfl, HQ.out.1, HQ.out.2, HB9.out⟩
        case measure => simp [intOf]
       ·have hNH' : ¬ (N : Int) ≤ H := by omega
        rw [decide_eq_false hNH] at HFw
        have HQ : Hid (EmpIs st F m E ∧ FewIs st F m false) := ⟨HEm, HFw⟩
        clear HEm HFw HR hN0
        go_wp2
        go_roundw
        case rel => exact ⟨m, E, false, by simp, by omega, rfl, rfl, HQ.out.1, HQ.out.2, HB9.out⟩
        case measure => simp [intOf]
  ·have HB2 : Hid (∀ V, Below w.heap.size w V → Calls Tryz.prog 11 #[.agg #[.int .i64 s0.z, .int .i64 s0.zb, .int .i64 s0.b, .int .i64 s0.r], .slice a1 n1 c1] V fun e w' => e = .returned (.tuple #[.pointer none, .pointer none]) ∧ Below w.heap.size w w') := fun V hb => both_nil s0 a1 n1 c1 x1 w V HH.out.2.2 HH.out.2.1 HO.out HL.out.2 hb hr
   clear hr
   go_enter Tryz.func7, Tryz.ntmps7
   go_wp2_with (first
    | (go_at_call 9; refine HHv.out.mono ?_; rintro e W1 ⟨rfl, hb1, bs1⟩)
    | (go_at_call 10; refine (HKn.out _ hb1 bs1).mono ?_; rintro e W2 ⟨rfl, hb2, bs2⟩; have sh0 : W2.cell? ⟨w.heap.size, 0, none⟩ = some (.int .i64 s0.z) := bs2.cell 0; have sh1 : W2.cell? ⟨w.heap.size, 1, none⟩ = some (.int .i64 s0.zb) := bs2.cell 1; have sh2 : W2.cell? ⟨w.heap.size, 2, none⟩ = some (.int .i64 s0.b) := bs2.cell 2; have sh3 : W2.cell? ⟨w.heap.size, 3, none⟩ = some (.int .i64 s0.r) := bs2.cell 3)
    | (go_at_call 11; refine (HB2.out _ hb2).mono ?_; rintro e W3 ⟨rfl, hb3⟩))
   go_ret
   exact ⟨rfl, hb3⟩

set_option maxRecDepth 100000 in
theorem lifted (os : Os) (started : os.Started) (H : Type) (enc : TypeId × Value → H) :
  ReturnsInHanded {} Tryz.checked os 7 .any (Rows.cleanPicksSpec.pre6 enc Tryz.prog Tryz.f7 Rows.cleanPicksRow.domain false) (Rows.cleanPicksSpec.post enc Tryz.prog Tryz.f7 false true false false) := by
 refine returnsInHanded_of_change (C := Tryz.checked) own started (by kernel_rfl) Tryz.func7
  (ChangeSpec.witness6 (enc := enc) (C := Tryz.checked) false ⟨#[], #[.agg #[.int .i64 0, .int .i64 0, .int .i64 0, .int .i64 0], .slice none 0 0], []⟩ 8 (by kernel_rfl) (by kernel_rfl) (by kernel_rfl) (by kernel_rfl)) ?_
 intro W base args ds gs before hval0 hW hcnd _
 have hval : ∀ (j : Nat) t v, Tryz.f7.params[j]? = some t → args[j]? = some v → Value.okWide Tryz.prog W .any base t v := hval0
 have hW' := hW
 obtain ⟨p, q, hA0, hV, rfl, hfz, hnd⟩ := hW
 have hA : DataW.TrodAll enc Tryz.prog W 0 (fun _ => true) true Tryz.f7.params.toList args.toList ds p := hA0
 rw [Tryz.params7] at hA hval
 obtain ⟨v0, vs0, d0, ds0, p0, q0, hargs, rfl, rfl, h0, r0⟩ := trodAll_cons hA
 obtain ⟨v1, vs1, d1, ds1, p1, q1, rfl, rfl, rfl, h1, r1⟩ := trodAll_cons r0
 obtain ⟨rfl, rfl, rfl⟩ := trodAll_nil r1
 obtain rfl : args = #[v0, v1] := by cases args; simp_all
 obtain ⟨rfl, rfl⟩ := trodVars_none hV
 have k0 := h0
 have lt0 : ∀ x ∈ p0, x.block < W.heap.size := by obtain ⟨m, hm⟩ := k0; exact DataW.trod_lt m _ _ _ hm
 obtain ⟨s0, rfl, w0⟩ := open_shape (hval 0 23 v0 rfl rfl) h0
 obtain ⟨a1, n1, c1, rfl⟩ := okWide_slice Tryz.underlying24 (hval 1 24 v1 rfl rfl)
 have k1 := h1
 have lt1 : ∀ x ∈ p1, x.block < W.heap.size := by obtain ⟨m, hm⟩ := k1; exact DataW.trod_lt m _ _ _ hm
 obtain ⟨x1, w1⟩ := open_sops h1
 clear hA0 hval0
 refine (walk s0 a1 n1 c1 x1 W w0 w1).mono fun e W' ⟨he, bel⟩ => ?_
 subst he
 exact ⟨_, rfl, _, _, _, [], _, [], hW', trodAll_mk1 (shut_bool Tryz.underlying4 _), (trodAll_cons_mk (Below.trod laidOut (by kernel_rfl) (of_decide_eq_true (by kernel_rfl)) k0 bel lt0) (trodAll_cons_mk (Below.trod laidOut (by kernel_rfl) (of_decide_eq_true (by kernel_rfl)) k1 bel lt1) trodAll_mk0)), rfl, bel.frame _, fun h => by cases h⟩

theorem over : Rows.cleanPicksRow.holds Tryz.pinned (OpenSpec.ofChange Rows.cleanPicksSpec) :=
 OpenClaim.holds_of_wide 7 Tryz.f7 rfl rfl rfl rfl rfl rfl rfl ⟨rfl, rfl, rfl, rfl, rfl⟩ rfl rfl rfl rfl rfl (by kernel_rfl) Tryz.func7 (by kernel_rfl)
  (of_decide_eq_true (by kernel_rfl)) (by unfold Func.isWrapper; first | (rw [if_pos (by decide +kernel)]; kernel_rfl) | (rw [if_neg (by decide +kernel)]; exact ⟨rfl, rfl⟩))
  (fun os started H enc _ => lifted os started H enc)

end Go.Proofs.YtncnkpnfmbgifaaGreat.cleanPicks
namespace Go.Proofs.YtncnkpnfmbgifaaGreat
/-- The statement. -/
theorem cleanPicks_holds : Rows.CleanPicksSaid := cleanPicks.over
#print axioms cleanPicks_holds
end Go.Proofs.YtncnkpnfmbgifaaGreat
