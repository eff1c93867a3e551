/- For every shape and list of calls the statement CleanSeq returns true: a step of cleaning appends no more records than blocks that it moves, one that moves none appends none, and numbers never go back. -/
import Derived.Test.YtncnkpnfmbgifaaGreatRows
import Derived.Test.YtncnkpnfmbgifaaGreatS7
import Derived.Test.YtncnkpnfmbgifaaGreatQ21
import Derived.BigQuiet
import Derived.Lib.QuietBelow
import Derived.Deep.RegionHeld3
import Derived.WalkKit
import Derived.ProofKit
import Derived.OpenShut
import Derived.ShutString
import Derived.ChangeOld
import Derived.Below
namespace Go.Proofs.YtncnkpnfmbgifaaGreat.cleanSeq
open Go.ChangeShapes Go.WideShapes Go.ChangeAt Go.RowKit
open Go.ChangeMaps (open_string shut_string)
set_option linter.unusedVariables false

theorem own : ownKnob Tryz.prog.godebug = none := by kernel_rfl
theorem laidOut : laidOutB Tryz.prog = true := by kernel_rfl

set_option maxRecDepth 20000 in
set_option maxHeartbeats 8000000 in
theorem walk (s0 : Sh) (a1 : Option Addr) (n1 c1 : Nat) (x1 : List Od) (w : World) (w0 : ShF s0) (w1 : OdsR w a1 n1 x1 ∧ n1 ≤ c1 ∧ (a1 = none → n1 = 0 ∧ c1 = 0) ∧ ∀ o ∈ x1, Fits8 o.k ∧ F64 o.z) :
  Calls Tryz.prog 8 #[.agg (shL s0).toArray, .slice a1 n1 c1] w fun e w' => e = .returned (.bool true) ∧ Below w.heap.size w w' := by
 obtain ⟨hpr, hnc, hnil, hof⟩ := w1
 have hb0 : Below w.heap.size w (w.alloc (.cells #[.int .i64 s0.z, .int .i64 s0.zb, .int .i64 s0.b, .int .i64 s0.r] 23)) := (Below.refl _ _).alloc (Nat.le_refl _) _
 have bs0 : Blk (w.alloc (.cells #[.int .i64 s0.z, .int .i64 s0.zb, .int .i64 s0.b, .int .i64 s0.r] 23)) w.heap.size (shC s0) 23 := Blk.new' rfl rfl
 obtain ⟨hv, hHv⟩ : ∃ b, b = @decide (HvO s0 x1) (Classical.propDecidable _) := ⟨_, rfl⟩
 have HHv : Hid (Calls Tryz.prog 9 #[.agg #[.int .i64 s0.z, .int .i64 s0.zb, .int .i64 s0.b, .int .i64 s0.r], .slice a1 n1 c1] (w.alloc (.cells #[.int .i64 s0.z, .int .i64 s0.zb, .int .i64 s0.b, .int .i64 s0.r] 23)) fun e w' => e = .returned (.int .i64 (trB hv)) ∧ Below w.heap.size w w' ∧ Blk w' w.heap.size (shC s0) 23) := by
  rw [hHv]
  refine (Heavy_of s0 a1 n1 c1 x1 _ (hpr.below hb0)).mono ?_
  rintro e w' ⟨rfl, hb⟩
  exact ⟨rfl, hb0.trans (hb.mono hb0.size), bs0.below hb bs0.lt⟩
 have HO : Hid (∀ o ∈ x1, Fits8 o.k ∧ F64 o.z) := hof
 have HH : Hid (hv = @decide (HvO s0 x1) (Classical.propDecidable _) ∧ OdsR w a1 n1 x1 ∧ ShF s0) := ⟨hHv, hpr, w0⟩
 have HKn : Hid (∀ V, Below w.heap.size w V → Blk V w.heap.size (shC s0) 23 → Calls Tryz.prog 10 #[] V fun e w' => e = .returned (.bool true) ∧ Below w.heap.size w w' ∧ Blk w' w.heap.size (shC s0) 23) := fun V hb hs => by
  refine (clknown_any V).mono ?_
  rintro e w' ⟨rfl, hb'⟩
  exact ⟨rfl, hb.trans (hb'.mono hb.size), hs.below hb' hs.lt⟩
 have hn1 := hpr.2.1
 clear hHv hpr hb0 bs0 w0 hof
 unfold shL
 cases hv with
 | true =>
  rw [show trB true = 1 from rfl] at HHv
  go_enter Tryz.func8, Tryz.ntmps8
  go_wp2_with (first
   | (go_at_call 9; refine HHv.out.mono ?_; rintro e W1 ⟨rfl, hb1, bs1⟩)
   | (go_at_call 10; refine (HKn.out _ hb1 bs1).mono ?_; rintro e W2 ⟨rfl, hb2, _⟩))
  go_ret
  exact ⟨rfl, hb2⟩
 | false =>
  rw [show trB false = 0 from rfl] at HHv
  have HL : Hid (SmallS s0 ∧ n1 ≤ 40 ∧ (∀ o ∈ x1, o.l.length ≤ 30 ∧ ∀ p ∈ o.l, p.d.length ≤ 200)) := by
   have hn := light_ops (fun h => by have e := HH.out.1; rw [@decide_eq_true _ (Classical.propDecidable _) h] at e; cases e)
   have hlen := HH.out.2.1.1
   exact ⟨hn.1, by rw [← hlen]; exact hn.2.1, hn.2.2⟩
  by_cases hr : RightS s0
  ·have HB2 : Hid (∀ V, Below w.heap.size w V → Calls Tryz.prog 11 #[.agg #[.int .i64 s0.z, .int .i64 s0.zb, .int .i64 s0.b, .int .i64 s0.r], .slice a1 n1 c1] V fun e w' => ∃ rs st k, e = .returned (.tuple #[.pointer (some ⟨k.ps, 0, none⟩), .pointer (some ⟨rs, 0, none⟩)]) ∧ Ky V k st 1200 w' ∧ Inv2 st ∧ st.s = s0 ∧ 0 ≤ st.q ∧ st.q ≤ 1200) := fun V hb => both_ky s0 a1 n1 c1 x1 w V HH.out.2.2 HH.out.2.1 HO.out HL.out.2 hb hr
   have HSm : Hid (Sml s0) := ⟨HL.out.1.1, HL.out.1.2.1⟩
   clear hr
   go_enter Tryz.func8, Tryz.ntmps8
   go_wp2_with (first
    | (go_at_call 9; refine HHv.out.mono ?_; rintro e W1 ⟨rfl, hb1, bs1⟩)
    | (go_at_call 10; refine (HKn.out _ hb1 bs1).mono ?_; rintro e W2 ⟨rfl, hb2, bs2⟩; have sh0 : W2.cell? ⟨w.heap.size, 0, none⟩ = some (.int .i64 s0.z) := bs2.cell 0; have sh1 : W2.cell? ⟨w.heap.size, 1, none⟩ = some (.int .i64 s0.zb) := bs2.cell 1; have sh2 : W2.cell? ⟨w.heap.size, 2, none⟩ = some (.int .i64 s0.b) := bs2.cell 2; have sh3 : W2.cell? ⟨w.heap.size, 3, none⟩ = some (.int .i64 s0.r) := bs2.cell 3)
    | (go_at_call 11; refine (HB2.out _ hb2).mono ?_; rintro e W3 ⟨rs, st, k, rfl, hk3, hi3, hs3, hq3⟩; have H3 : Hid (Inv2 st ∧ st.s = s0 ∧ Sml st.s ∧ (0 ≤ st.q ∧ st.q ≤ 1200) ∧ Below w.heap.size w W2 ∧ Blk W2 w.heap.size (shC s0) 23 ∧ Ky W2 k st 1200 W3) := ⟨hi3, hs3, by { rw [hs3]; exact HSm.out }, hq3, hb2, bs2, hk3⟩; clear hk3 hi3 hs3 hq3 sh0 sh1 sh2 sh3 bs2 bs1 hb1 hb2 HB2 HHv HKn))
   obtain ⟨z, hz⟩ : ∃ z, z = pickM st := ⟨_, rfl⟩
   have HZe : Hid (z = pickM st) := hz
   have HP : Hid (Calls Tryz.prog 12 #[.pointer (some ⟨k.ps, 0, none⟩)] W3 fun e w' => e = .returned (.int .i64 z) ∧ Ky W2 k st 1200 w') := by rw [hz]; exact H3.out.2.2.2.2.2.2.pick H3.out.1 H3.out.2.2.1 (by omega)
   clear hz
   obtain ⟨N, hN⟩ : ∃ N, N = liveN st.S z := ⟨_, rfl⟩
   obtain ⟨q, hq⟩ : ∃ q, q = st.q := ⟨_, rfl⟩
   have HNe : Hid (N = liveN st.S z ∧ q = st.q) := ⟨hN, hq⟩
   clear hN hq
   go_wp2_with (first
    | (go_at_call 12; refine HP.out.mono ?_; rintro e W4 ⟨rfl, hk4⟩; have HMp := hk4.map; have HIn : Hid (Calls Tryz.prog 27 #[.pointer (some ⟨k.pm, 0, none⟩), .int .i64 z] W4 fun e w' => ∃ a cc, e = .returned (.slice a N cc) ∧ Ky W2 k st 1200 w' ∧ Below W4.heap.size W4 w') := by { rw [HNe.out.1]; exact hk4.inz z H3.out.1 (by omega) })
    | (go_at_call 19; refine HMp.mono ?_; rintro e W5 ⟨rfl, rfl⟩)
    | (go_at_call 27; refine HIn.out.mono ?_; rintro e W6 ⟨a6, c6, rfl, hk6, _⟩; have HSq : Hid (Calls Tryz.prog 30 #[.pointer (some ⟨k.ps, 0, none⟩)] W6 fun e w' => e = .returned (.int .u64 q) ∧ w' = W6) := by { rw [HNe.out.2]; exact hk6.seq })
    | (go_at_call 30; refine HSq.out.mono ?_; rintro e W8 ⟨rfl, rfl⟩))
   have HSt : Hid (Calls Tryz.prog 14 #[.pointer (some ⟨k.ps, 0, none⟩)] W8 fun e w' => ∃ b q2, e = .returned (.bool b) ∧ (Below w.heap.size w w' ∧ Calls Tryz.prog 30 #[.pointer (some ⟨k.ps, 0, none⟩)] w' fun e w2 => e = .returned (.int .u64 q2) ∧ w2 = w') ∧ q ≤ q2 ∧ q2 - q ≤ N ∧ (z < 0 → q2 = q) ∧ 0 ≤ q ∧ q2 ≤ 2200 ∧ N ≤ 192) := by
    refine (hk6.step H3.out.1 H3.out.2.2.1 (by omega)).mono ?_
    rintro e w' ⟨rfl, hk7, _⟩
    have hf : ∀ p ∈ carL st (pickM st), p.Fits := by
     obtain ⟨D, hv, _⟩ := hk6
     exact car_fits hv H3.out.1 H3.out.2.2.1 (by omega)
    have hl := live_small H3.out.1.inv H3.out.2.2.1 (pickM st)
    obtain ⟨g1, g2, g3, g4⟩ := step_q H3.out.1 hf H3.out.2.2.2.1 (by omega)
    obtain ⟨e1, e2⟩ := HNe.out
    have e3 := HZe.out
    have hb := H3.out.2.2.2.2.1
    refine ⟨_, (stepM st).2.q, rfl, ⟨hb.trans (hk7.bel.mono hb.size), hk7.seq⟩, by omega, by rw [e2, e1, e3]; exact g2, fun h => by rw [e2]; exact g3 (by omega), by have := H3.out.2.2.2.1; omega, g4, by rw [e1, e3]; exact hl⟩
   clear hk6 hk4 HMp HIn HSq HP
   go_wp2_with (go_at_call 14; refine HSt.out.mono ?_; rintro e W7 ⟨b7, q2, rfl, ⟨hb7, hsq7⟩, f1, f2, f3, f4, f5, f6⟩; have hw1 : IntKind.u64.wrap (q2 - q) = q2 - q := (by { rw [IntKind.wrap_u64]; omega }); have hw2 : IntKind.u64.wrap (N : Int) = N := (by { rw [IntKind.wrap_u64]; omega }))
   have HS7 : Hid (Calls Tryz.prog 30 #[.pointer (some ⟨k.ps, 0, none⟩)] W7 fun e w' => e = .returned (.int .u64 q2) ∧ W7 = w') := hsq7.mono (fun e w' hh => ⟨hh.1, hh.2.symm⟩)
   have HB7 : Hid (Below w.heap.size w W7) := hb7
   clear hsq7 HSt hb7
   by_cases hz0 : z < 0
   ·have hz1 : ¬ 0 ≤ z := by omega
    have f8 : q2 = q := f3 hz0
    subst f8
    go_wp2_with (go_at_call 30; refine HS7.out.mono ?_; rintro e W9 ⟨rfl, rfl⟩)
    go_ret
    exact ⟨by simp, HB7.out⟩
   ·have hz1 : 0 ≤ z := by omega
    go_wp2_with (go_at_call 30; refine HS7.out.mono ?_; rintro e W9 ⟨rfl, rfl⟩)
    go_ret
    exact ⟨by simp, HB7.out⟩
  ·have HB2 : Hid (∀ V, Below w.heap.size w V → Calls Tryz.prog 11 #[.agg #[.int .i64 s0.z, .int .i64 s0.zb, .int .i64 s0.b, .int .i64 s0.r], .slice a1 n1 c1] V fun e w' => e = .returned (.tuple #[.pointer none, .pointer none]) ∧ Below w.heap.size w w') := fun V hb => both_nil s0 a1 n1 c1 x1 w V HH.out.2.2 HH.out.2.1 HO.out HL.out.2 hb hr
   clear hr
   go_enter Tryz.func8, Tryz.ntmps8
   go_wp2_with (first
    | (go_at_call 9; refine HHv.out.mono ?_; rintro e W1 ⟨rfl, hb1, bs1⟩)
    | (go_at_call 10; refine (HKn.out _ hb1 bs1).mono ?_; rintro e W2 ⟨rfl, hb2, bs2⟩; have sh0 : W2.cell? ⟨w.heap.size, 0, none⟩ = some (.int .i64 s0.z) := bs2.cell 0; have sh1 : W2.cell? ⟨w.heap.size, 1, none⟩ = some (.int .i64 s0.zb) := bs2.cell 1; have sh2 : W2.cell? ⟨w.heap.size, 2, none⟩ = some (.int .i64 s0.b) := bs2.cell 2; have sh3 : W2.cell? ⟨w.heap.size, 3, none⟩ = some (.int .i64 s0.r) := bs2.cell 3)
    | (go_at_call 11; refine (HB2.out _ hb2).mono ?_; rintro e W3 ⟨rfl, hb3⟩))
   go_ret
   exact ⟨rfl, hb3⟩

set_option maxRecDepth 100000 in
theorem lifted (os : Os) (started : os.Started) (H : Type) (enc : TypeId × Value → H) :
  ReturnsInHanded {} Tryz.checked os 8 .any (Rows.cleanSeqSpec.pre6 enc Tryz.prog Tryz.f8 Rows.cleanSeqRow.domain false) (Rows.cleanSeqSpec.post enc Tryz.prog Tryz.f8 false true false false) := by
 refine returnsInHanded_of_change (C := Tryz.checked) own started (by kernel_rfl) Tryz.func8
  (ChangeSpec.witness6 (enc := enc) (C := Tryz.checked) false ⟨#[], #[.agg #[.int .i64 0, .int .i64 0, .int .i64 0, .int .i64 0], .slice none 0 0], []⟩ 8 (by kernel_rfl) (by kernel_rfl) (by kernel_rfl) (by kernel_rfl)) ?_
 intro W base args ds gs before hval0 hW hcnd _
 have hval : ∀ (j : Nat) t v, Tryz.f8.params[j]? = some t → args[j]? = some v → Value.okWide Tryz.prog W .any base t v := hval0
 have hW' := hW
 obtain ⟨p, q, hA0, hV, rfl, hfz, hnd⟩ := hW
 have hA : DataW.TrodAll enc Tryz.prog W 0 (fun _ => true) true Tryz.f8.params.toList args.toList ds p := hA0
 rw [Tryz.params8] at hA hval
 obtain ⟨v0, vs0, d0, ds0, p0, q0, hargs, rfl, rfl, h0, r0⟩ := trodAll_cons hA
 obtain ⟨v1, vs1, d1, ds1, p1, q1, rfl, rfl, rfl, h1, r1⟩ := trodAll_cons r0
 obtain ⟨rfl, rfl, rfl⟩ := trodAll_nil r1
 obtain rfl : args = #[v0, v1] := by cases args; simp_all
 obtain ⟨rfl, rfl⟩ := trodVars_none hV
 have k0 := h0
 have lt0 : ∀ x ∈ p0, x.block < W.heap.size := by obtain ⟨m, hm⟩ := k0; exact DataW.trod_lt m _ _ _ hm
 obtain ⟨s0, rfl, w0⟩ := open_shape (hval 0 23 v0 rfl rfl) h0
 obtain ⟨a1, n1, c1, rfl⟩ := okWide_slice Tryz.underlying24 (hval 1 24 v1 rfl rfl)
 have k1 := h1
 have lt1 : ∀ x ∈ p1, x.block < W.heap.size := by obtain ⟨m, hm⟩ := k1; exact DataW.trod_lt m _ _ _ hm
 obtain ⟨x1, w1⟩ := open_sops h1
 clear hA0 hval0
 refine (walk s0 a1 n1 c1 x1 W w0 w1).mono fun e W' ⟨he, bel⟩ => ?_
 subst he
 exact ⟨_, rfl, _, _, _, [], _, [], hW', trodAll_mk1 (shut_bool Tryz.underlying4 _), (trodAll_cons_mk (Below.trod laidOut (by kernel_rfl) (of_decide_eq_true (by kernel_rfl)) k0 bel lt0) (trodAll_cons_mk (Below.trod laidOut (by kernel_rfl) (of_decide_eq_true (by kernel_rfl)) k1 bel lt1) trodAll_mk0)), rfl, bel.frame _, fun h => by cases h⟩

theorem over : Rows.cleanSeqRow.holds Tryz.pinned (OpenSpec.ofChange Rows.cleanSeqSpec) :=
 OpenClaim.holds_of_wide 8 Tryz.f8 rfl rfl rfl rfl rfl rfl rfl ⟨rfl, rfl, rfl, rfl, rfl⟩ rfl rfl rfl rfl rfl (by kernel_rfl) Tryz.func8 (by kernel_rfl)
  (of_decide_eq_true (by kernel_rfl)) (by unfold Func.isWrapper; first | (rw [if_pos (by decide +kernel)]; kernel_rfl) | (rw [if_neg (by decide +kernel)]; exact ⟨rfl, rfl⟩))
  (fun os started H enc _ => lifted os started H enc)

end Go.Proofs.YtncnkpnfmbgifaaGreat.cleanSeq
namespace Go.Proofs.YtncnkpnfmbgifaaGreat
theorem cleanSeq_holds : Rows.CleanSeqSaid := cleanSeq.over
#print axioms cleanSeq_holds
end Go.Proofs.YtncnkpnfmbgifaaGreat
