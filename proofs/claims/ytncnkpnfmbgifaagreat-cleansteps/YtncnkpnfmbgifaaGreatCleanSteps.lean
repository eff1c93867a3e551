/- For every shape, list of calls and number the statement CleanSteps returns true: Pick and Step, again and again, on a store in which anything was done, are what the chapter says. -/
import Derived.Test.YtncnkpnfmbgifaaGreatRows
import Derived.Test.YtncnkpnfmbgifaaGreatS8
import Derived.Test.YtncnkpnfmbgifaaGreatS7
import Derived.Test.YtncnkpnfmbgifaaGreatQ21
import Derived.BigQuiet
import Derived.Lib.QuietBelow
import Derived.Deep.RegionHeld3
import Derived.WalkKit
import Derived.ProofKit
import Derived.OpenShut
import Derived.ShutString
import Derived.ChangeOld
import Derived.Below
namespace Go.Proofs.YtncnkpnfmbgifaaGreat.cleanSteps
open Go.ChangeShapes Go.WideShapes Go.ChangeAt Go.RowKit
open Go.ChangeMaps (open_string shut_string)
set_option linter.unusedVariables false

theorem own : ownKnob Tryz.prog.godebug = none := by kernel_rfl
theorem laidOut : laidOutB Tryz.prog = true := by kernel_rfl

set_option maxRecDepth 20000 in
set_option maxHeartbeats 8000000 in
theorem walk (s0 : Sh) (a1 : Option Addr) (n1 c1 : Nat) (x1 : List Od) (a2 : Int) (w : World) (w0 : ShF s0) (w1 : OdsR w a1 n1 x1 ∧ n1 ≤ c1 ∧ (a1 = none → n1 = 0 ∧ c1 = 0) ∧ ∀ o ∈ x1, Fits8 o.k ∧ F64 o.z) (w2 : (Lit.int .u8 a2).wf = true) :
  Calls Tryz.prog 3 #[.agg (shL s0).toArray, .slice a1 n1 c1, .int .u8 a2] w fun e w' => e = .returned (.bool true) ∧ Below w.heap.size w w' := by
 obtain ⟨hpr, hnc, hnil, hof⟩ := w1
 obtain ⟨A, rfl⟩ : ∃ A : Nat, a2 = A := ⟨a2.toNat, by have := bounds_u8 w2; omega⟩
 have hb0 : Below w.heap.size w (w.alloc (.cells #[.int .i64 s0.z, .int .i64 s0.zb, .int .i64 s0.b, .int .i64 s0.r] 23)) := (Below.refl _ _).alloc (Nat.le_refl _) _
 have bs0 : Blk (w.alloc (.cells #[.int .i64 s0.z, .int .i64 s0.zb, .int .i64 s0.b, .int .i64 s0.r] 23)) w.heap.size (shC s0) 23 := Blk.new' rfl rfl
 obtain ⟨hv, hHv⟩ : ∃ b, b = @decide (HvO s0 x1) (Classical.propDecidable _) := ⟨_, rfl⟩
 have HHv : Hid (Calls Tryz.prog 9 #[.agg #[.int .i64 s0.z, .int .i64 s0.zb, .int .i64 s0.b, .int .i64 s0.r], .slice a1 n1 c1] (w.alloc (.cells #[.int .i64 s0.z, .int .i64 s0.zb, .int .i64 s0.b, .int .i64 s0.r] 23)) fun e w' => e = .returned (.int .i64 (trB hv)) ∧ Below w.heap.size w w' ∧ Blk w' w.heap.size (shC s0) 23) := by
  rw [hHv]
  refine (Heavy_of s0 a1 n1 c1 x1 _ (hpr.below hb0)).mono ?_
  rintro e w' ⟨rfl, hb⟩
  exact ⟨rfl, hb0.trans (hb.mono hb0.size), bs0.below hb bs0.lt⟩
 have HO : Hid (∀ o ∈ x1, Fits8 o.k ∧ F64 o.z) := hof
 have HH : Hid (hv = @decide (HvO s0 x1) (Classical.propDecidable _) ∧ OdsR w a1 n1 x1 ∧ ShF s0) := ⟨hHv, hpr, w0⟩
 have HKn : Hid (∀ V, Below w.heap.size w V → Blk V w.heap.size (shC s0) 23 → Calls Tryz.prog 10 #[] V fun e w' => e = .returned (.bool true) ∧ Below w.heap.size w w' ∧ Blk w' w.heap.size (shC s0) 23) := fun V hb hs => by
  refine (clknown_any V).mono ?_
  rintro e w' ⟨rfl, hb'⟩
  exact ⟨rfl, hb.trans (hb'.mono hb.size), hs.below hb' hs.lt⟩
 have hn1 := hpr.2.1
 clear hHv hpr hb0 bs0 w0 hof
 unfold shL
 cases hv with
 | true =>
  rw [show trB true = 1 from rfl] at HHv
  go_enter Tryz.func3, Tryz.ntmps3
  go_wp2_with (first
   | (go_at_call 9; refine HHv.out.mono ?_; rintro e W1 ⟨rfl, hb1, bs1⟩)
   | (go_at_call 10; refine (HKn.out _ hb1 bs1).mono ?_; rintro e W2 ⟨rfl, hb2, _⟩))
  go_ret
  exact ⟨rfl, hb2⟩
 | false =>
  rw [show trB false = 0 from rfl] at HHv
  have HL : Hid (SmallS s0 ∧ n1 ≤ 40 ∧ (∀ o ∈ x1, o.l.length ≤ 30 ∧ ∀ p ∈ o.l, p.d.length ≤ 200)) := by
   have hn := light_ops (fun h => by have e := HH.out.1; rw [@decide_eq_true _ (Classical.propDecidable _) h] at e; cases e)
   have hlen := HH.out.2.1.1
   exact ⟨hn.1, by rw [← hlen]; exact hn.2.1, hn.2.2⟩
  by_cases hr : RightS s0
  ·have HB2 : Hid (∀ V, Below w.heap.size w V → Calls Tryz.prog 11 #[.agg #[.int .i64 s0.z, .int .i64 s0.zb, .int .i64 s0.b, .int .i64 s0.r], .slice a1 n1 c1] V fun e w' => ∃ ps rs st, e = .returned (.tuple #[.pointer (some ⟨ps, 0, none⟩), .pointer (some ⟨rs, 0, none⟩)]) ∧ Bo w.heap.size w ps rs st 1200 w' ∧ Inv2 st ∧ st.s = s0) := fun V hb => both_bo s0 a1 n1 c1 x1 w V HH.out.2.2 HH.out.2.1 HO.out HL.out.2 hb hr
   have HSm : Hid (Sml s0) := ⟨HL.out.1.1, HL.out.1.2.1⟩
   clear hr
   go_enter Tryz.func3, Tryz.ntmps3
   go_wp2_with (first
    | (go_at_call 9; refine HHv.out.mono ?_; rintro e W1 ⟨rfl, hb1, bs1⟩)
    | (go_at_call 10; refine (HKn.out _ hb1 bs1).mono ?_; rintro e W2 ⟨rfl, hb2, bs2⟩; have sh0 : W2.cell? ⟨w.heap.size, 0, none⟩ = some (.int .i64 s0.z) := bs2.cell 0; have sh1 : W2.cell? ⟨w.heap.size, 1, none⟩ = some (.int .i64 s0.zb) := bs2.cell 1; have sh2 : W2.cell? ⟨w.heap.size, 2, none⟩ = some (.int .i64 s0.b) := bs2.cell 2; have sh3 : W2.cell? ⟨w.heap.size, 3, none⟩ = some (.int .i64 s0.r) := bs2.cell 3)
    | (go_at_call 11; refine (HB2.out _ hb2).mono ?_; rintro e W3 ⟨ps, rs, st, rfl, hbo3, hi3, hs3⟩; have H3 : Hid (Bo w.heap.size w ps rs st 1200 W3 ∧ Inv2 st ∧ st.s = s0 ∧ Sml st.s) := ⟨hbo3, hi3, hs3, by { rw [hs3]; exact HSm.out }⟩; clear hbo3 hi3 hs3 sh0 sh1 sh2 sh3 bs2 bs1 hb1 hb2 HB2 HHv HKn))
   go_loopw [9] (fun x wr => ∃ (j : Nat) (st' : St), x = .int .i64 j ∧ j ≤ 5 ∧ Bo w.heap.size w ps rs st' (1200 + 16 * j) wr ∧ Inv2 st' ∧ st'.s = s0) (fun x _ => 5 - (intOf x).toNat)
   case atStart => exact ⟨0, st, rfl, by omega, H3.out.1, H3.out.2.1, H3.out.2.2.1⟩
   case round =>
    obtain ⟨j, st', rfl, hj, hbo, hin, hss⟩ := hrel
    have hA5 : A % 5 < 5 := Nat.mod_lt _ (by omega)
    have hwA : IntKind.i64.wrap (A : Int) = A := by have := bounds_u8 w2; rw [IntKind.wrap_i64]; omega
    have hwA2 : wrap64 (A : Int) = A := by have := bounds_u8 w2; unfold wrap64; omega
    rcases Nat.lt_or_ge (A % 5) j with hgt | hle
    ·have hgt' : ¬ (j : Int) ≤ (A : Int) % 5 := by omega
     have hgt2 : ¬ (j : Int) ≤ Int.tmod (A : Int) 5 := by rw [Int.tmod_eq_emod_of_nonneg (by omega)]; exact hgt'
     have HF : Hid (Below w.heap.size w wr) := hbo.bel
     clear hbo hin hss
     go_wp2
     go_ret
     exact ⟨rfl, HF.out⟩
    ·have hle' : (j : Int) ≤ (A : Int) % 5 := by omega
     have hle2 : (j : Int) ≤ Int.tmod (A : Int) 5 := by rw [Int.tmod_eq_emod_of_nonneg (by omega)]; exact hle'
     have hwj : IntKind.i64.wrap ((j : Int) + 1) = (j : Int) + 1 := by rw [IntKind.wrap_i64]; omega
     have hsm : Sml st'.s := by rw [hss]; exact HSm.out
     have HP : Hid (Calls Tryz.prog 12 #[.pointer (some ⟨ps, 0, none⟩)] wr fun e w1 => e = .returned (.int .i64 (pickM st')) ∧ Calls Tryz.prog 13 #[.pointer (some ⟨rs, 0, none⟩)] w1 fun e w2 => e = .returned (.int .i64 (pickM st')) ∧ Bo w.heap.size w ps rs st' (1200 + 16 * j) w2) := pick_bo hbo hin hsm (by omega)
     have HS : Hid (∀ V, Bo w.heap.size w ps rs st' (1200 + 16 * j) V → Calls Tryz.prog 14 #[.pointer (some ⟨ps, 0, none⟩)] V fun e w1 => e = .returned (.bool (stepM st').1) ∧ Calls Tryz.prog 15 #[.pointer (some ⟨rs, 0, none⟩)] w1 fun e w2 => e = .returned (.bool (stepM st').1) ∧ (Bo w.heap.size w ps rs (stepM st').2 (1200 + 16 * (j + 1)) w2 ∧ Inv2 (stepM st').2 ∧ (stepM st').2.s = s0) ∧ Calls Tryz.prog 16 #[.pointer (some ⟨ps, 0, none⟩), .pointer (some ⟨rs, 0, none⟩)] w2 fun e w3 => e = .returned (.int .i64 1) ∧ Bo w.heap.size w ps rs (stepM st').2 (1200 + 16 * (j + 1)) w3) := fun V hb => by
      refine (step_bo hb hin hsm (by omega)).mono ?_
      rintro e w1 ⟨rfl, h2⟩
      refine ⟨rfl, h2.mono ?_⟩
      rintro e w2 ⟨rfl, h3, h4⟩
      have h3' : Bo w.heap.size w ps rs (stepM st').2 (1200 + 16 * (j + 1)) w2 := h3
      exact ⟨rfl, ⟨h3', h4, by rw [stepM_sh]; exact hss⟩, Same_of h3' (by omega)⟩
     generalize pickM st' = z at HP
     generalize (stepM st').1 = g at HS
     generalize (stepM st').2 = st2 at HS
     clear hbo hin hss hsm
     go_wp2_with (first
      | (go_at_call 12; refine HP.out.mono ?_; rintro e V1 ⟨rfl, hp1⟩)
      | (go_at_call 13; refine hp1.mono ?_; rintro e V2 ⟨rfl, hb2⟩)
      | (go_at_call 14; refine (HS.out _ hb2).mono ?_; rintro e V3 ⟨rfl, hp3⟩)
      | (go_at_call 15; refine hp3.mono ?_; rintro e V4 ⟨rfl, h4, hp4⟩)
      | (go_at_call 16; refine hp4.mono ?_; rintro e V5 ⟨rfl, hb5⟩))
     exact ⟨⟨j + 1, st2, by simp, by omega, hb5, h4.2.1, h4.2.2⟩, by simp [intOf]; omega⟩
  ·have HB2 : Hid (∀ V, Below w.heap.size w V → Calls Tryz.prog 11 #[.agg #[.int .i64 s0.z, .int .i64 s0.zb, .int .i64 s0.b, .int .i64 s0.r], .slice a1 n1 c1] V fun e w' => e = .returned (.tuple #[.pointer none, .pointer none]) ∧ Below w.heap.size w w') := fun V hb => both_nil s0 a1 n1 c1 x1 w V HH.out.2.2 HH.out.2.1 HO.out HL.out.2 hb hr
   clear hr
   go_enter Tryz.func3, Tryz.ntmps3
   go_wp2_with (first
    | (go_at_call 9; refine HHv.out.mono ?_; rintro e W1 ⟨rfl, hb1, bs1⟩)
    | (go_at_call 10; refine (HKn.out _ hb1 bs1).mono ?_; rintro e W2 ⟨rfl, hb2, bs2⟩; have sh0 : W2.cell? ⟨w.heap.size, 0, none⟩ = some (.int .i64 s0.z) := bs2.cell 0; have sh1 : W2.cell? ⟨w.heap.size, 1, none⟩ = some (.int .i64 s0.zb) := bs2.cell 1; have sh2 : W2.cell? ⟨w.heap.size, 2, none⟩ = some (.int .i64 s0.b) := bs2.cell 2; have sh3 : W2.cell? ⟨w.heap.size, 3, none⟩ = some (.int .i64 s0.r) := bs2.cell 3)
    | (go_at_call 11; refine (HB2.out _ hb2).mono ?_; rintro e W3 ⟨rfl, hb3⟩))
   go_ret
   exact ⟨rfl, hb3⟩

set_option maxRecDepth 100000 in
theorem lifted (os : Os) (started : os.Started) (H : Type) (enc : TypeId × Value → H) :
  ReturnsInHanded {} Tryz.checked os 3 .any (Rows.cleanStepsSpec.pre6 enc Tryz.prog Tryz.f3 Rows.cleanStepsRow.domain false) (Rows.cleanStepsSpec.post enc Tryz.prog Tryz.f3 false true false false) := by
 refine returnsInHanded_of_change (C := Tryz.checked) own started (by kernel_rfl) Tryz.func3
  (ChangeSpec.witness6 (enc := enc) (C := Tryz.checked) false ⟨#[], #[.agg #[.int .i64 0, .int .i64 0, .int .i64 0, .int .i64 0], .slice none 0 0, .int .u8 0], []⟩ 8 (by kernel_rfl) (by kernel_rfl) (by kernel_rfl) (by kernel_rfl)) ?_
 intro W base args ds gs before hval0 hW hcnd _
 have hval : ∀ (j : Nat) t v, Tryz.f3.params[j]? = some t → args[j]? = some v → Value.okWide Tryz.prog W .any base t v := hval0
 have hW' := hW
 obtain ⟨p, q, hA0, hV, rfl, hfz, hnd⟩ := hW
 have hA : DataW.TrodAll enc Tryz.prog W 0 (fun _ => true) true Tryz.f3.params.toList args.toList ds p := hA0
 rw [Tryz.params3] at hA hval
 obtain ⟨v0, vs0, d0, ds0, p0, q0, hargs, rfl, rfl, h0, r0⟩ := trodAll_cons hA
 obtain ⟨v1, vs1, d1, ds1, p1, q1, rfl, rfl, rfl, h1, r1⟩ := trodAll_cons r0
 obtain ⟨v2, vs2, d2, ds2, p2, q2, rfl, rfl, rfl, h2, r2⟩ := trodAll_cons r1
 obtain ⟨rfl, rfl, rfl⟩ := trodAll_nil r2
 obtain rfl : args = #[v0, v1, v2] := by cases args; simp_all
 obtain ⟨rfl, rfl⟩ := trodVars_none hV
 have k0 := h0
 have lt0 : ∀ x ∈ p0, x.block < W.heap.size := by obtain ⟨m, hm⟩ := k0; exact DataW.trod_lt m _ _ _ hm
 obtain ⟨s0, rfl, w0⟩ := open_shape (hval 0 23 v0 rfl rfl) h0
 obtain ⟨a1, n1, c1, rfl⟩ := okWide_slice Tryz.underlying24 (hval 1 24 v1 rfl rfl)
 have k1 := h1
 have lt1 : ∀ x ∈ p1, x.block < W.heap.size := by obtain ⟨m, hm⟩ := k1; exact DataW.trod_lt m _ _ _ hm
 obtain ⟨x1, w1⟩ := open_sops h1
 obtain ⟨a2, rfl, rfl, rfl, w2⟩ := open_int Tryz.underlying5 (hval 2 5 v2 rfl rfl) h2
 clear hA0 hval0
 refine (walk s0 a1 n1 c1 x1 a2 W w0 w1 w2).mono fun e W' ⟨he, bel⟩ => ?_
 subst he
 exact ⟨_, rfl, _, _, _, [], _, [], hW', trodAll_mk1 (shut_bool Tryz.underlying4 _), (trodAll_cons_mk (Below.trod laidOut (by kernel_rfl) (of_decide_eq_true (by kernel_rfl)) k0 bel lt0) (trodAll_cons_mk (Below.trod laidOut (by kernel_rfl) (of_decide_eq_true (by kernel_rfl)) k1 bel lt1) (trodAll_cons_mk (shut_int Tryz.underlying5 w2) trodAll_mk0))), rfl, bel.frame _, fun h => by cases h⟩

theorem over : Rows.cleanStepsRow.holds Tryz.pinned (OpenSpec.ofChange Rows.cleanStepsSpec) :=
 OpenClaim.holds_of_wide 3 Tryz.f3 rfl rfl rfl rfl rfl rfl rfl ⟨rfl, rfl, rfl, rfl, rfl⟩ rfl rfl rfl rfl rfl (by kernel_rfl) Tryz.func3 (by kernel_rfl)
  (of_decide_eq_true (by kernel_rfl)) (by unfold Func.isWrapper; first | (rw [if_pos (by decide +kernel)]; kernel_rfl) | (rw [if_neg (by decide +kernel)]; exact ⟨rfl, rfl⟩))
  (fun os started H enc _ => lifted os started H enc)

end Go.Proofs.YtncnkpnfmbgifaaGreat.cleanSteps
namespace Go.Proofs.YtncnkpnfmbgifaaGreat
theorem cleanSteps_holds : Rows.CleanStepsSaid := cleanSteps.over
#print axioms cleanSteps_holds
end Go.Proofs.YtncnkpnfmbgifaaGreat
