/- Best and Mean of any numbers are what the chapter says. -/
import Derived.Test.YtilhhgkplonipaaRows
import Derived.Test.YtilhhgkplonipaaFDoc
import Derived.Test.YtilhhgkplonipaaFOpen
import Derived.WalkKit
import Derived.ProofKit
import Derived.OpenShut
import Derived.ShutString
import Derived.ChangeOld
import Derived.Below
namespace Go.Proofs.Ytilhhgkplonipaa.scoreBests
open Go.ChangeShapes Go.WideShapes Go.ChangeAt Go.RowKit
open Go.ChangeMaps (open_string shut_string)
set_option linter.unusedVariables false      -- a walk need not use every 'w<i>' (that an integer argument fits its kind)

theorem own : ownKnob Try.prog.godebug = none := by kernel_rfl

theorem laidOut : laidOutB Try.prog = true := by kernel_rfl

theorem walk (a0 : Option Addr) (n0 c0 : Nat) (z0 : List Nat) (w : World) (w0 : FIn w a0 n0 z0 ∧ n0 ≤ c0 ∧ (a0 = none → n0 = 0 ∧ c0 = 0)) :
    Calls Try.prog 5 #[.slice a0 n0 c0] w fun e w' => e = .returned (.bool true) ∧ Below w.heap.size w w' := by
  obtain ⟨hin, hnc, hnil⟩ := w0
  have H : Hid (FIn w a0 n0 z0) := hin
  clear hin hnc hnil
  by_cases h1 : (1000 : Int) < n0
  · have d1 : decide ((1000 : Int) < n0) = true := decide_eq_true h1
    go_enter Try.func5, Try.ntmps5
    go_wp2
    go_ret
    exact ⟨rfl, Below.refl _ _⟩
  have d1 : decide ((1000 : Int) < n0) = false := decide_eq_false h1
  have n1 : n0 ≤ 1000 := by omega
  clear h1
  go_enter Try.func5, Try.ntmps5
  go_wp2_with fail
  refine (known_any w).mono ?_
  rintro e W1 ⟨rfl, b1⟩
  have B1 : Hid (Below w.heap.size w W1 ∧ FIn W1 a0 n0 z0) := ⟨b1, H.out.below b1⟩
  clear b1 d1
  go_wp2_with fail
  refine (best_of a0 n0 c0 z0 W1 B1.out.2 (by omega)).mono ?_
  rintro e W1 ⟨B, rfl, hB, rfl⟩
  have HB : Hid (BestTo z0 n0 B) := hB
  clear hB
  go_wp2_with fail
  refine (refBest_of a0 n0 c0 z0 W1 B1.out.2 (by omega)).mono ?_
  rintro e W2 ⟨C, rfl, hC, d2⟩
  obtain rfl : B = C := HB.out.one hC
  have B2 : Hid (Below w.heap.size w W2 ∧ FIn W2 a0 n0 z0) := ⟨d2.below B1.out.1, B1.out.2.drawn d2⟩
  clear hC d2
  go_wp2_with fail
  refine (mean_of a0 n0 c0 z0 W2 B2.out.2 (by omega)).mono ?_
  rintro e W3 ⟨x3, rfl, h3, d3⟩
  have B3 : Hid (Below w.heap.size w W3 ∧ FIn W3 a0 n0 z0 ∧ Cls (meanC z0) x3) := ⟨d3.below B2.out.1, B2.out.2.drawn d3, h3⟩
  clear h3 d3
  go_wp2_with fail
  refine (refMean_of a0 n0 c0 z0 W3 B3.out.2.1 n1).mono ?_
  rintro e W4 ⟨x4, rfl, h4, d4⟩
  have B4 : Hid (Below w.heap.size w W4 ∧ Cls (meanC z0) x4) := ⟨d4.below B3.out.1, h4⟩
  clear h4 d4
  go_wp2_with fail
  refine (same_of (meanC z0) x3 x4 B3.out.2.2 B4.out.2 W4).mono ?_
  rintro e W4 ⟨rfl, rfl⟩
  go_wp2
  go_ret
  exact ⟨rfl, B4.out.1⟩

set_option maxRecDepth 100000 in
theorem lifted (os : Os) (started : os.Started) (H : Type) (enc : TypeId × Value → H) :
    ReturnsInHanded {} Try.checked os 5 .any (Rows.scoreBestsSpec.pre6 enc Try.prog Try.f5 Rows.scoreBestsRow.domain false) (Rows.scoreBestsSpec.post enc Try.prog Try.f5 false true false false) := by
  refine returnsInHanded_of_change (C := Try.checked) own started (by kernel_rfl) Try.func5
    (ChangeSpec.witness6 (enc := enc) (C := Try.checked) false ⟨#[], #[.slice none 0 0], []⟩ 8 (by kernel_rfl) (by kernel_rfl) (by kernel_rfl) (by kernel_rfl)) ?_
  intro W base args ds gs before hval0 hW hcnd _
  have hval : ∀ (j : Nat) t v, Try.f5.params[j]? = some t → args[j]? = some v → Value.okWide Try.prog W .any base t v := hval0
  have hW' := hW
  obtain ⟨p, q, hA0, hV, rfl, hfz, hnd⟩ := hW
  have hA : DataW.TrodAll enc Try.prog W 0 (fun _ => true) true Try.f5.params.toList args.toList ds p := hA0
  rw [Try.params5] at hA hval
  obtain ⟨v0, vs0, d0, ds0, p0, q0, hargs, rfl, rfl, h0, r0⟩ := trodAll_cons hA
  obtain ⟨rfl, rfl, rfl⟩ := trodAll_nil r0
  obtain rfl : args = #[v0] := by cases args; simp_all
  obtain ⟨rfl, rfl⟩ := trodVars_none hV
  obtain ⟨a0, n0, c0, rfl⟩ := okWide_slice Try.underlying31 (hval 0 31 v0 rfl rfl)
  have k0 := h0
  have lt0 : ∀ x ∈ p0, x.block < W.heap.size := by obtain ⟨m, hm⟩ := k0; exact DataW.trod_lt m _ _ _ hm
  obtain ⟨z0, w0⟩ := open_f64s h0
  clear hA0 hval0
  refine (walk a0 n0 c0 z0 W w0).mono fun e W' ⟨he, bel⟩ => ?_
  subst he
  exact ⟨_, rfl, _, _, _, [], _, [], hW', trodAll_mk1 (shut_bool Try.underlying4 _), (trodAll_cons_mk (Below.trod laidOut (by kernel_rfl) (of_decide_eq_true (by kernel_rfl)) k0 bel lt0) trodAll_mk0), rfl, bel.frame _, fun h => by cases h⟩

theorem over : Rows.scoreBestsRow.holds Try.pinned (OpenSpec.ofChange Rows.scoreBestsSpec) :=
  OpenClaim.holds_of_wide 5 Try.f5 rfl rfl rfl rfl rfl rfl rfl ⟨rfl, rfl, rfl, rfl, rfl⟩ rfl rfl rfl rfl rfl (by kernel_rfl) Try.func5 (by kernel_rfl)
    (of_decide_eq_true (by kernel_rfl)) (by unfold Func.isWrapper; first | (rw [if_pos (by decide +kernel)]; kernel_rfl) | (rw [if_neg (by decide +kernel)]; exact ⟨rfl, rfl⟩))
    (fun os started H enc _ => lifted os started H enc)

end Go.Proofs.Ytilhhgkplonipaa.scoreBests
namespace Go.Proofs.Ytilhhgkplonipaa
/-- The statement. -/
theorem scoreBests_holds : Rows.ScoreBestsSaid := scoreBests.over
#print axioms scoreBests_holds
end Go.Proofs.Ytilhhgkplonipaa
