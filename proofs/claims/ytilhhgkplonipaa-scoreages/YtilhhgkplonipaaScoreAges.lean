/- Of zones in which as much is left the elder one is worth no less; of two of an age the one in which less is left is worth no less. -/
import Derived.Test.YtilhhgkplonipaaRows
import Derived.Test.YtilhhgkplonipaaFKnown
import Derived.Test.YtilhhgkplonipaaFAge
import Derived.WalkKit
import Derived.ProofKit
import Derived.OpenShut
import Derived.ShutString
import Derived.ChangeOld
import Derived.Below
namespace Go.Proofs.Ytilhhgkplonipaa.scoreAges
open Go.ChangeShapes Go.WideShapes Go.ChangeAt Go.RowKit
open Go.ChangeMaps (open_string shut_string)
set_option linter.unusedVariables false      -- a walk need not use every 'w<i>' (that an integer argument fits its kind)

theorem own : ownKnob Try.prog.godebug = none := by kernel_rfl

set_option maxHeartbeats 2000000 in
theorem walk (a0 : Int) (a1 : Int) (a2 : Int) (a3 : Int) (a4 : Int) (w0 : (Lit.int .u16 a0).wf = true) (w1 : (Lit.int .u16 a1).wf = true) (w2 : (Lit.int .u16 a2).wf = true) (w3 : (Lit.int .u32 a3).wf = true) (w4 : (Lit.int .u32 a4).wf = true) (w : World) :
    Calls Try.prog 8 #[.int .u16 a0, .int .u16 a1, .int .u16 a2, .int .u32 a3, .int .u32 a4] w fun e w' => e = .returned (.bool true) ∧ Below w.heap.size w w' := by
  have n0 := bounds_u16 w0
  have n1 := bounds_u16 w1
  have n2 := bounds_u16 w2
  have n3 := bounds_u32 w3
  have n4 := bounds_u32 w4
  obtain ⟨m0, rfl⟩ := Int.eq_ofNat_of_zero_le n0.1
  obtain ⟨m1, rfl⟩ := Int.eq_ofNat_of_zero_le n1.1
  obtain ⟨m2, rfl⟩ := Int.eq_ofNat_of_zero_le n2.1
  obtain ⟨m3, rfl⟩ := Int.eq_ofNat_of_zero_le n3.1
  obtain ⟨m4, rfl⟩ := Int.eq_ofNat_of_zero_le n4.1
  have HN : Hid ((m0 : Int) ≤ 65535 ∧ (m1 : Int) ≤ 65535 ∧ (m2 : Int) ≤ 65535 ∧ (m3 : Int) ≤ 4294967295 ∧ (m4 : Int) ≤ 4294967295) := ⟨n0.2, n1.2, n2.2, n3.2, n4.2⟩
  have u0 : IntKind.u64.wrap (m0 : Int) = m0 := by rw [IntKind.wrap_u64]; omega
  have u1 : IntKind.u64.wrap (m1 : Int) = m1 := by rw [IntKind.wrap_u64]; omega
  have u2 : IntKind.u64.wrap (m2 : Int) = m2 := by rw [IntKind.wrap_u64]; omega
  have u3 : IntKind.u64.wrap (m3 : Int) = m3 := by rw [IntKind.wrap_u64]; omega
  have u4 : IntKind.u64.wrap (m4 : Int) = m4 := by rw [IntKind.wrap_u64]; omega
  clear n0 n1 n2 n3 n4 w0 w1 w2 w3 w4
  by_cases h2 : m2 = 0
  · subst h2
    go_enter Try.func8, Try.ntmps8
    go_wp2
    go_ret
    exact ⟨rfl, Below.refl _ _⟩
  have e2 : ((m2 : Int) == 0) = false := by rw [beq_eq_false_iff_ne]; omega
  by_cases h0 : (m2 : Int) < m0
  · have e0 : decide ((m2 : Int) < m0) = true := decide_eq_true h0
    have f0 : decide (m2 < m0) = true := decide_eq_true (by omega)
    go_enter Try.func8, Try.ntmps8
    go_wp2
    go_ret
    exact ⟨rfl, Below.refl _ _⟩
  have e0 : decide ((m2 : Int) < m0) = false := decide_eq_false h0
  have f0 : decide (m2 < m0) = false := decide_eq_false (by omega)
  by_cases h1 : (m0 : Int) < m1
  · have e1 : decide ((m0 : Int) < m1) = true := decide_eq_true h1
    have f1 : decide (m0 < m1) = true := decide_eq_true (by omega)
    go_enter Try.func8, Try.ntmps8
    go_wp2
    go_ret
    exact ⟨rfl, Below.refl _ _⟩
  have e1 : decide ((m0 : Int) < m1) = false := decide_eq_false h1
  have f1 : decide (m0 < m1) = false := decide_eq_false (by omega)
  have HL : Hid (0 < m2 ∧ m0 ≤ m2 ∧ m1 ≤ m0) := ⟨by omega, by omega, by omega⟩
  clear h0 h1 h2
  obtain ⟨X, hX⟩ : ∃ X : Nat, X = if m3 < m4 then m4 else m3 := ⟨_, rfl⟩
  obtain ⟨Y, hY⟩ : ∃ Y : Nat, Y = if m3 < m4 then m3 else m4 := ⟨_, rfl⟩
  have hXY : Y ≤ X ∧ X < 18446744073709551616 ∧ m3 < 18446744073709551616 := by
    have := HN.out.2.2.2
    rw [hX, hY]
    by_cases h : m3 < m4
    · rw [if_pos h, if_pos h]; omega
    · rw [if_neg h, if_neg h]; omega
  have c1 := fun W => worth_of m0 m2 X W
  have c2 := fun W => worth_of m0 m2 Y W
  have c3 := fun W => worth_of m1 m2 m3 W
  have c4 := fun W => worth_of m0 m2 m3 W
  rw [wor_some m0 m2 X (by have := HN.out; omega) hXY.2.1 HL.out.1 HL.out.2.1] at c1
  rw [wor_some m0 m2 Y (by have := HN.out; omega) (by omega) HL.out.1 HL.out.2.1] at c2
  rw [wor_some m1 m2 m3 (by have := HN.out; omega) hXY.2.2 HL.out.1 (Nat.le_trans HL.out.2.2 HL.out.2.1)] at c3
  rw [wor_some m0 m2 m3 (by have := HN.out; omega) hXY.2.2 HL.out.1 HL.out.2.1] at c4
  have g1 := geq_pos (wR m0 m2 X) (wR m0 m2 Y) (wR_le _ _ _) (wR_age HL.out.2.1 hXY.1)
  have g2 := geq_pos (wR m1 m2 m3) (wR m0 m2 m3) (wR_le _ _ _) (wR_live HL.out.1 HL.out.2.1 HL.out.2.2)
  have g3 := geq_pos (wR m0 m2 Y) 0 (wR_le _ _ _) (Nat.zero_le _)
  obtain ⟨p1, hp1⟩ : ∃ p, p = wR m0 m2 X := ⟨_, rfl⟩
  obtain ⟨p2, hp2⟩ : ∃ p, p = wR m0 m2 Y := ⟨_, rfl⟩
  obtain ⟨p3, hp3⟩ : ∃ p, p = wR m1 m2 m3 := ⟨_, rfl⟩
  obtain ⟨p4, hp4⟩ : ∃ p, p = wR m0 m2 m3 := ⟨_, rfl⟩
  rw [← hp1] at c1 g1
  rw [← hp2] at c2 g1 g3
  rw [← hp3] at c3 g2
  rw [← hp4] at c4 g2
  clear hp1 hp2 hp3 hp4 hXY HN HL
  have parts : (m3 < m4 ∧ X = m4 ∧ Y = m3) ∨ (m4 < m3 ∧ X = m3 ∧ Y = m4) ∨ (m4 = m3 ∧ X = m3 ∧ Y = m3) := by
    rw [hX, hY]
    rcases Nat.lt_trichotomy m3 m4 with h | h | h
    · exact .inl ⟨h, if_pos h, if_pos h⟩
    · exact .inr (.inr ⟨h.symm, if_neg (by omega), by rw [if_neg (by omega), h]⟩)
    · exact .inr (.inl ⟨h, if_neg (by omega), if_neg (by omega)⟩)
  clear hX hY
  rcases parts with ⟨h, rfl, rfl⟩ | ⟨h, rfl, rfl⟩ | ⟨rfl, rfl, h⟩
  · have i1 : (Y : Int) < X := by omega
    have i2 : ¬ (X : Int) < Y := by omega
    have i3 : decide ((Y : Int) < X) = true := decide_eq_true i1
    have i4 : decide ((X : Int) < Y) = false := decide_eq_false i2
    clear h
    go_enter Try.func8, Try.ntmps8
    go_wp2_with fail
    refine (c1 w).mono ?_
    rintro e W1 ⟨x1, rfl, k1, d1⟩
    obtain rfl := cls_some k1
    have B1 : Hid (Below w.heap.size w W1) := d1.below (Below.refl _ _)
    clear k1 d1
    go_wp2_with fail
    refine (c2 W1).mono ?_
    rintro e W2 ⟨x2, rfl, k2, d2⟩
    obtain rfl := cls_some k2
    have B2 : Hid (Below w.heap.size w W2) := d2.below B1.out
    clear k2 d2
    go_wp2_with fail
    refine (c3 W2).mono ?_
    rintro e W3 ⟨x3, rfl, k3, d3⟩
    obtain rfl := cls_some k3
    have B3 : Hid (Below w.heap.size w W3) := d3.below B2.out
    clear k3 d3
    go_wp2_with fail
    refine (c4 W3).mono ?_
    rintro e W4 ⟨x4, rfl, k4, d4⟩
    obtain rfl := cls_some k4
    have B4 : Hid (Below w.heap.size w W4) := d4.below B3.out
    clear k4 d4
    go_wp2_with fail
    refine (known_any W4).mono ?_
    rintro e W5 ⟨rfl, b5⟩
    have B5 : Hid (Below w.heap.size w W5) := B4.out.trans (b5.mono B4.out.size)
    clear b5
    go_wp2
    go_ret
    exact ⟨rfl, B5.out⟩
  · have i1 : (Y : Int) < X := by omega
    have i2 : ¬ (X : Int) < Y := by omega
    have i3 : decide ((Y : Int) < X) = true := decide_eq_true i1
    have i4 : decide ((X : Int) < Y) = false := decide_eq_false i2
    clear h
    go_enter Try.func8, Try.ntmps8
    go_wp2_with fail
    refine (c1 w).mono ?_
    rintro e W1 ⟨x1, rfl, k1, d1⟩
    obtain rfl := cls_some k1
    have B1 : Hid (Below w.heap.size w W1) := d1.below (Below.refl _ _)
    clear k1 d1
    go_wp2_with fail
    refine (c2 W1).mono ?_
    rintro e W2 ⟨x2, rfl, k2, d2⟩
    obtain rfl := cls_some k2
    have B2 : Hid (Below w.heap.size w W2) := d2.below B1.out
    clear k2 d2
    go_wp2_with fail
    refine (c3 W2).mono ?_
    rintro e W3 ⟨x3, rfl, k3, d3⟩
    obtain rfl := cls_some k3
    have B3 : Hid (Below w.heap.size w W3) := d3.below B2.out
    clear k3 d3
    go_wp2_with fail
    refine (c4 W3).mono ?_
    rintro e W4 ⟨x4, rfl, k4, d4⟩
    obtain rfl := cls_some k4
    have B4 : Hid (Below w.heap.size w W4) := d4.below B3.out
    clear k4 d4
    go_wp2_with fail
    refine (known_any W4).mono ?_
    rintro e W5 ⟨rfl, b5⟩
    have B5 : Hid (Below w.heap.size w W5) := B4.out.trans (b5.mono B4.out.size)
    clear b5
    go_wp2
    go_ret
    exact ⟨rfl, B5.out⟩
  · subst h
    go_enter Try.func8, Try.ntmps8
    go_wp2_with fail
    refine (c1 w).mono ?_
    rintro e W1 ⟨x1, rfl, k1, d1⟩
    obtain rfl := cls_some k1
    have B1 : Hid (Below w.heap.size w W1) := d1.below (Below.refl _ _)
    clear k1 d1
    go_wp2_with fail
    refine (c2 W1).mono ?_
    rintro e W2 ⟨x2, rfl, k2, d2⟩
    obtain rfl := cls_some k2
    have B2 : Hid (Below w.heap.size w W2) := d2.below B1.out
    clear k2 d2
    go_wp2_with fail
    refine (c3 W2).mono ?_
    rintro e W3 ⟨x3, rfl, k3, d3⟩
    obtain rfl := cls_some k3
    have B3 : Hid (Below w.heap.size w W3) := d3.below B2.out
    clear k3 d3
    go_wp2_with fail
    refine (c4 W3).mono ?_
    rintro e W4 ⟨x4, rfl, k4, d4⟩
    obtain rfl := cls_some k4
    have B4 : Hid (Below w.heap.size w W4) := d4.below B3.out
    clear k4 d4
    go_wp2_with fail
    refine (known_any W4).mono ?_
    rintro e W5 ⟨rfl, b5⟩
    have B5 : Hid (Below w.heap.size w W5) := B4.out.trans (b5.mono B4.out.size)
    clear b5
    go_wp2
    go_ret
    exact ⟨rfl, B5.out⟩

set_option maxRecDepth 100000 in
theorem lifted (os : Os) (started : os.Started) (H : Type) (enc : TypeId × Value → H) :
    ReturnsInHanded {} Try.checked os 8 .any (Rows.scoreAgesSpec.pre6 enc Try.prog Try.f8 Rows.scoreAgesRow.domain false) (Rows.scoreAgesSpec.post enc Try.prog Try.f8 false true false false) := by
  refine returnsInHanded_of_change (C := Try.checked) own started (by kernel_rfl) Try.func8
    (ChangeSpec.witness6 (enc := enc) (C := Try.checked) false ⟨#[], #[.int .u16 0, .int .u16 0, .int .u16 0, .int .u32 0, .int .u32 0], []⟩ 8 (by kernel_rfl) (by kernel_rfl) (by kernel_rfl) (by kernel_rfl)) ?_
  intro W base args ds gs before hval0 hW hcnd _
  have hval : ∀ (j : Nat) t v, Try.f8.params[j]? = some t → args[j]? = some v → Value.okWide Try.prog W .any base t v := hval0
  have hW' := hW
  obtain ⟨p, q, hA0, hV, rfl, hfz, hnd⟩ := hW
  have hA : DataW.TrodAll enc Try.prog W 0 (fun _ => true) true Try.f8.params.toList args.toList ds p := hA0
  rw [Try.params8] at hA hval
  obtain ⟨v0, vs0, d0, ds0, p0, q0, hargs, rfl, rfl, h0, r0⟩ := trodAll_cons hA
  obtain ⟨v1, vs1, d1, ds1, p1, q1, rfl, rfl, rfl, h1, r1⟩ := trodAll_cons r0
  obtain ⟨v2, vs2, d2, ds2, p2, q2, rfl, rfl, rfl, h2, r2⟩ := trodAll_cons r1
  obtain ⟨v3, vs3, d3, ds3, p3, q3, rfl, rfl, rfl, h3, r3⟩ := trodAll_cons r2
  obtain ⟨v4, vs4, d4, ds4, p4, q4, rfl, rfl, rfl, h4, r4⟩ := trodAll_cons r3
  obtain ⟨rfl, rfl, rfl⟩ := trodAll_nil r4
  obtain rfl : args = #[v0, v1, v2, v3, v4] := by cases args; simp_all
  obtain ⟨rfl, rfl⟩ := trodVars_none hV
  obtain ⟨a0, rfl, rfl, rfl, w0⟩ := open_int Try.underlying39 (hval 0 39 v0 rfl rfl) h0
  obtain ⟨a1, rfl, rfl, rfl, w1⟩ := open_int Try.underlying39 (hval 1 39 v1 rfl rfl) h1
  obtain ⟨a2, rfl, rfl, rfl, w2⟩ := open_int Try.underlying39 (hval 2 39 v2 rfl rfl) h2
  obtain ⟨a3, rfl, rfl, rfl, w3⟩ := open_int Try.underlying40 (hval 3 40 v3 rfl rfl) h3
  obtain ⟨a4, rfl, rfl, rfl, w4⟩ := open_int Try.underlying40 (hval 4 40 v4 rfl rfl) h4
  clear hA0 hval0
  refine (walk a0 a1 a2 a3 a4 w0 w1 w2 w3 w4 W).mono fun e W' ⟨he, bel⟩ => ?_
  subst he
  exact ⟨_, rfl, _, _, _, [], _, [], hW', trodAll_mk1 (shut_bool Try.underlying4 _), (trodAll_cons_mk (shut_int Try.underlying39 w0) (trodAll_cons_mk (shut_int Try.underlying39 w1) (trodAll_cons_mk (shut_int Try.underlying39 w2) (trodAll_cons_mk (shut_int Try.underlying40 w3) (trodAll_cons_mk (shut_int Try.underlying40 w4) trodAll_mk0))))), rfl, bel.frame _, fun h => by cases h⟩

theorem over : Rows.scoreAgesRow.holds Try.pinned (OpenSpec.ofChange Rows.scoreAgesSpec) :=
  OpenClaim.holds_of_wide 8 Try.f8 rfl rfl rfl rfl rfl rfl rfl ⟨rfl, rfl, rfl, rfl, rfl⟩ rfl rfl rfl rfl rfl (by kernel_rfl) Try.func8 (by kernel_rfl)
    (of_decide_eq_true (by kernel_rfl)) (by unfold Func.isWrapper; first | (rw [if_pos (by decide +kernel)]; kernel_rfl) | (rw [if_neg (by decide +kernel)]; exact ⟨rfl, rfl⟩))
    (fun os started H enc _ => lifted os started H enc)

end Go.Proofs.Ytilhhgkplonipaa.scoreAges
namespace Go.Proofs.Ytilhhgkplonipaa
/-- The statement. -/
theorem scoreAges_holds : Rows.ScoreAgesSaid := scoreAges.over
#print axioms scoreAges_holds
end Go.Proofs.Ytilhhgkplonipaa
