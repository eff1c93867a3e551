/- Ratio and Worth of any numbers are what the chapter says. -/
import Derived.Test.YtilhhgkplonipaaRows
import Derived.Test.YtilhhgkplonipaaFDoc
import Derived.WalkKit
import Derived.ProofKit
import Derived.OpenShut
import Derived.ShutString
import Derived.ChangeOld
import Derived.Below
namespace Go.Proofs.Ytilhhgkplonipaa.scoreWorths
open Go.ChangeShapes Go.WideShapes Go.ChangeAt Go.RowKit
open Go.ChangeMaps (open_string shut_string)
set_option linter.unusedVariables false      -- a walk need not use every 'w<i>' (that an integer argument fits its kind)

theorem own : ownKnob Try.prog.godebug = none := by kernel_rfl

theorem walk (a0 : Int) (a1 : Int) (a2 : Int) (w0 : (Lit.int .u64 a0).wf = true) (w1 : (Lit.int .u64 a1).wf = true) (w2 : (Lit.int .u64 a2).wf = true) (w : World) :
    Calls Try.prog 4 #[.int .u64 a0, .int .u64 a1, .int .u64 a2] w fun e w' => e = .returned (.bool true) ∧ Below w.heap.size w w' := by
  have n0 : 0 ≤ a0 := (bounds_u64 w0).1
  have n1 : 0 ≤ a1 := (bounds_u64 w1).1
  have n2 : 0 ≤ a2 := (bounds_u64 w2).1
  obtain ⟨m0, rfl⟩ := Int.eq_ofNat_of_zero_le n0
  obtain ⟨m1, rfl⟩ := Int.eq_ofNat_of_zero_le n1
  obtain ⟨m2, rfl⟩ := Int.eq_ofNat_of_zero_le n2
  clear n0 n1 n2 w0 w1 w2
  go_enter Try.func4, Try.ntmps4
  go_wp2_with fail
  refine (known_any w).mono ?_
  rintro e W1 ⟨rfl, b1⟩
  have B1 : Hid (Below w.heap.size w W1) := b1
  clear b1
  go_wp2_with fail
  refine (ratio_of m0 m1 W1).mono ?_
  rintro e W2 ⟨x2, rfl, h2, d2⟩
  have B2 : Hid (Below w.heap.size w W2 ∧ Cls (ratC m0 m1) x2) := ⟨d2.below B1.out, h2⟩
  clear d2 h2
  go_wp2_with fail
  refine (refRatio_of m0 m1 W2).mono ?_
  rintro e W3 ⟨x3, rfl, h3, d3⟩
  have B3 : Hid (Below w.heap.size w W3 ∧ Cls (ratC m0 m1) x3) := ⟨d3.below B2.out.1, h3⟩
  clear d3 h3
  go_wp2_with fail
  refine (same_of (ratC m0 m1) x2 x3 B2.out.2 B3.out.2 W3).mono ?_
  rintro e W3 ⟨rfl, rfl⟩
  go_wp2_with fail
  refine (worth_of m0 m1 m2 W3).mono ?_
  rintro e W4 ⟨x4, rfl, h4, d4⟩
  have B4 : Hid (Below w.heap.size w W4 ∧ Cls (worC m0 m1 m2) x4) := ⟨d4.below B3.out.1, h4⟩
  clear d4 h4
  go_wp2_with fail
  refine (refWorth_of m0 m1 m2 W4).mono ?_
  rintro e W5 ⟨x5, rfl, h5, d5⟩
  have B5 : Hid (Below w.heap.size w W5 ∧ Cls (worC m0 m1 m2) x5) := ⟨d5.below B4.out.1, h5⟩
  clear d5 h5
  go_wp2_with fail
  refine (same_of (worC m0 m1 m2) x4 x5 B4.out.2 B5.out.2 W5).mono ?_
  rintro e W5 ⟨rfl, rfl⟩
  go_wp2
  go_ret
  exact ⟨rfl, B5.out.1⟩

set_option maxRecDepth 100000 in
theorem lifted (os : Os) (started : os.Started) (H : Type) (enc : TypeId × Value → H) :
    ReturnsInHanded {} Try.checked os 4 .any (Rows.scoreWorthsSpec.pre6 enc Try.prog Try.f4 Rows.scoreWorthsRow.domain false) (Rows.scoreWorthsSpec.post enc Try.prog Try.f4 false true false false) := by
  refine returnsInHanded_of_change (C := Try.checked) own started (by kernel_rfl) Try.func4
    (ChangeSpec.witness6 (enc := enc) (C := Try.checked) false ⟨#[], #[.int .u64 0, .int .u64 0, .int .u64 0], []⟩ 8 (by kernel_rfl) (by kernel_rfl) (by kernel_rfl) (by kernel_rfl)) ?_
  intro W base args ds gs before hval0 hW hcnd _
  have hval : ∀ (j : Nat) t v, Try.f4.params[j]? = some t → args[j]? = some v → Value.okWide Try.prog W .any base t v := hval0
  have hW' := hW
  obtain ⟨p, q, hA0, hV, rfl, hfz, hnd⟩ := hW
  have hA : DataW.TrodAll enc Try.prog W 0 (fun _ => true) true Try.f4.params.toList args.toList ds p := hA0
  rw [Try.params4] at hA hval
  obtain ⟨v0, vs0, d0, ds0, p0, q0, hargs, rfl, rfl, h0, r0⟩ := trodAll_cons hA
  obtain ⟨v1, vs1, d1, ds1, p1, q1, rfl, rfl, rfl, h1, r1⟩ := trodAll_cons r0
  obtain ⟨v2, vs2, d2, ds2, p2, q2, rfl, rfl, rfl, h2, r2⟩ := trodAll_cons r1
  obtain ⟨rfl, rfl, rfl⟩ := trodAll_nil r2
  obtain rfl : args = #[v0, v1, v2] := by cases args; simp_all
  obtain ⟨rfl, rfl⟩ := trodVars_none hV
  obtain ⟨a0, rfl, rfl, rfl, w0⟩ := open_int Try.underlying27 (hval 0 27 v0 rfl rfl) h0
  obtain ⟨a1, rfl, rfl, rfl, w1⟩ := open_int Try.underlying27 (hval 1 27 v1 rfl rfl) h1
  obtain ⟨a2, rfl, rfl, rfl, w2⟩ := open_int Try.underlying27 (hval 2 27 v2 rfl rfl) h2
  clear hA0 hval0
  refine (walk a0 a1 a2 w0 w1 w2 W).mono fun e W' ⟨he, bel⟩ => ?_
  subst he
  exact ⟨_, rfl, _, _, _, [], _, [], hW', trodAll_mk1 (shut_bool Try.underlying4 _), (trodAll_cons_mk (shut_int Try.underlying27 w0) (trodAll_cons_mk (shut_int Try.underlying27 w1) (trodAll_cons_mk (shut_int Try.underlying27 w2) trodAll_mk0))), rfl, bel.frame _, fun h => by cases h⟩

theorem over : Rows.scoreWorthsRow.holds Try.pinned (OpenSpec.ofChange Rows.scoreWorthsSpec) :=
  OpenClaim.holds_of_wide 4 Try.f4 rfl rfl rfl rfl rfl rfl rfl ⟨rfl, rfl, rfl, rfl, rfl⟩ rfl rfl rfl rfl rfl (by kernel_rfl) Try.func4 (by kernel_rfl)
    (of_decide_eq_true (by kernel_rfl)) (by unfold Func.isWrapper; first | (rw [if_pos (by decide +kernel)]; kernel_rfl) | (rw [if_neg (by decide +kernel)]; exact ⟨rfl, rfl⟩))
    (fun os started H enc _ => lifted os started H enc)

end Go.Proofs.Ytilhhgkplonipaa.scoreWorths
namespace Go.Proofs.Ytilhhgkplonipaa
/-- The statement. -/
theorem scoreWorths_holds : Rows.ScoreWorthsSaid := scoreWorths.over
#print axioms scoreWorths_holds
end Go.Proofs.Ytilhhgkplonipaa
