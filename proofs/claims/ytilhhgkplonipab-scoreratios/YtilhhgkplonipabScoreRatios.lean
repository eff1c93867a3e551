/- A part of a whole lies from 0 to 1; the whole is 1; more of it is no less. -/
import Derived.Test.YtilhhgkplonipabRows
import Derived.Test.YtilhhgkplonipabFKnown
import Derived.Test.YtilhhgkplonipabFAge
import Derived.WalkKit
import Derived.ProofKit
import Derived.OpenShut
import Derived.ShutString
import Derived.ChangeOld
import Derived.Below
namespace Go.Proofs.Ytilhhgkplonipab.scoreRatios
open Go.ChangeShapes Go.WideShapes Go.ChangeAt Go.RowKit
open Go.ChangeMaps (open_string shut_string)
set_option linter.unusedVariables false      -- a walk need not use every 'w<i>' (that an integer argument fits its kind)

theorem own : ownKnob Try.prog.godebug = none := by kernel_rfl

set_option maxHeartbeats 2000000 in
theorem walk (a0 : Int) (a1 : Int) (a2 : Int) (w0 : (Lit.int .u64 a0).wf = true) (w1 : (Lit.int .u64 a1).wf = true) (w2 : (Lit.int .u64 a2).wf = true) (w : World) :
    Calls Try.prog 4 #[.int .u64 a0, .int .u64 a1, .int .u64 a2] w fun e w' => e = .returned (.bool true) ∧ Below w.heap.size w w' := by
  have n0 := bounds_u64 w0
  have n1 := bounds_u64 w1
  have n2 := bounds_u64 w2
  obtain ⟨m0, rfl⟩ := Int.eq_ofNat_of_zero_le n0.1
  obtain ⟨m1, rfl⟩ := Int.eq_ofNat_of_zero_le n1.1
  obtain ⟨m2, rfl⟩ := Int.eq_ofNat_of_zero_le n2.1
  have HN : Hid (m0 < 18446744073709551616 ∧ m1 < 18446744073709551616 ∧ m2 < 18446744073709551616) := ⟨by omega, by omega, by omega⟩
  clear n0 n1 n2 w0 w1 w2
  by_cases h2 : m2 = 0
  · subst h2
    have k7 : kindI 9218868437227405312 = 7 := by decide +kernel
    go_enter Try.func4, Try.ntmps4
    go_wp2_with fail
    refine (known_any w).mono ?_
    rintro e W1 ⟨rfl, b1⟩
    have B1 : Hid (Below w.heap.size w W1) := b1
    clear b1
    go_wp2_with fail
    refine (ratio_of 0 0 W1).mono ?_
    rintro e W2 ⟨x, rfl, hx, d2⟩
    rw [rat00] at hx
    have B2 : Hid (Below w.heap.size w W2 ∧ Nan x ∧ x < 2 ^ 64) := ⟨d2.below B1.out, cls_none hx, hx.1⟩
    clear hx d2
    go_wp2_with fail
    refine (kind_of x B2.out.2.2 W2).mono ?_
    rintro e W2 ⟨rfl, rfl⟩
    have k1 : kindI x = 1 := (kind_one x).2 B2.out.2.1
    by_cases h0 : m0 = 0
    · subst h0
      go_wp2
      go_ret
      exact ⟨rfl, B2.out.1⟩
    · have e0 : ((m0 : Int) == 0) = false := by rw [beq_eq_false_iff_ne]; omega
      have H0 : Hid (0 < m0) := Nat.pos_of_ne_zero h0
      have h0' : ¬ (m0 : Int) = 0 := by omega
      clear h0
      go_wp2_with fail
      refine (ratio_of m0 0 W2).mono ?_
      rintro e W3 ⟨y, rfl, hy, d3⟩
      rw [rat_zero m0 HN.out.1 H0.out] at hy
      obtain rfl := cls_some hy
      have B3 : Hid (Below w.heap.size w W3) := d3.below B2.out.1
      clear hy d3
      go_wp2_with fail
      refine (kind_of 9218868437227405312 (by decide) W3).mono ?_
      rintro e W3 ⟨rfl, rfl⟩
      go_wp2
      go_ret
      exact ⟨rfl, B3.out⟩
  have e2 : ((m2 : Int) == 0) = false := by rw [beq_eq_false_iff_ne]; omega
  have e2' : ¬ (m2 : Int) = 0 := by omega
  have H2 : Hid (0 < m2) := Nat.pos_of_ne_zero h2
  clear h2
  obtain ⟨X, hX⟩ : ∃ X : Nat, X = if m0 < m1 then m1 else m0 := ⟨_, rfl⟩
  obtain ⟨Y, hY⟩ : ∃ Y : Nat, Y = if m0 < m1 then m0 else m1 := ⟨_, rfl⟩
  have hXY : Y ≤ X ∧ X < 18446744073709551616 := by
    have := HN.out
    rw [hX, hY]
    by_cases h : m0 < m1
    · rw [if_pos h, if_pos h]; omega
    · rw [if_neg h, if_neg h]; omega
  obtain ⟨R, hR⟩ : ∃ R : Nat, (Y : Int) % (m2 : Int) = R := ⟨((Y : Int) % m2).toNat, (Int.toNat_of_nonneg (Int.emod_nonneg _ e2')).symm⟩
  have hRm : R < m2 := by have := Int.emod_lt_of_pos (Y : Int) (show (0 : Int) < m2 by have := H2.out; omega); omega
  have c1 := fun W => ratio_of R m2 W
  have c2 := fun W => ratio_of m2 m2 W
  have c3 := fun W => ratio_of Y m2 W
  have c4 := fun W => ratio_of X m2 W
  have c6 := fun W => worth_of m2 m2 m0 W
  rw [rat_some R m2 (by have := HN.out; omega) HN.out.2.2 H2.out] at c1
  rw [rat_some m2 m2 HN.out.2.2 HN.out.2.2 H2.out, uR_self H2.out] at c2
  rw [rat_some Y m2 (by omega) HN.out.2.2 H2.out] at c3
  rw [rat_some X m2 hXY.2 HN.out.2.2 H2.out] at c4
  rw [wor_some m2 m2 m0 HN.out.2.2 HN.out.1 H2.out (Nat.le_refl _), wR_self m0 H2.out] at c6
  have g1 := geq_pos (uR R m2) 0 (uR_le _ _) (Nat.zero_le _)
  have g2 := leq_pos (uR R m2) one (by decide) (uR_one (Nat.le_of_lt hRm))
  have g3 : FloatKind.f64.format.order one one = some .eq := by decide +kernel
  have g4 := leq_pos (uR Y m2) (uR X m2) (uR_le _ _) (uR_mono H2.out hXY.1)
  have g5 : FloatKind.f64.format.order 0 0 = some .eq := by decide +kernel
  obtain ⟨p1, hp1⟩ : ∃ p, p = uR R m2 := ⟨_, rfl⟩
  obtain ⟨p3, hp3⟩ : ∃ p, p = uR Y m2 := ⟨_, rfl⟩
  obtain ⟨p4, hp4⟩ : ∃ p, p = uR X m2 := ⟨_, rfl⟩
  rw [← hp1] at c1 g1 g2
  rw [← hp3] at c3 g4
  rw [← hp4] at c4 g4
  clear hp1 hp3 hp4 hXY HN H2 hRm
  have parts : (m0 < m1 ∧ X = m1 ∧ Y = m0) ∨ (m1 < m0 ∧ X = m0 ∧ Y = m1) ∨ (m1 = m0 ∧ X = m0 ∧ Y = m0) := by
    rw [hX, hY]
    rcases Nat.lt_trichotomy m0 m1 with h | h | h
    · exact .inl ⟨h, if_pos h, if_pos h⟩
    · exact .inr (.inr ⟨h.symm, if_neg (by omega), by rw [if_neg (by omega), h]⟩)
    · exact .inr (.inl ⟨h, if_neg (by omega), if_neg (by omega)⟩)
  clear hX hY
  rcases parts with ⟨h, rfl, rfl⟩ | ⟨h, rfl, rfl⟩ | ⟨rfl, rfl, h⟩
  · have i1 : (Y : Int) < X := by omega
    have i2 : ¬ (X : Int) < Y := by omega
    have i3 : decide ((Y : Int) < X) = true := decide_eq_true i1
    have i4 : decide ((X : Int) < Y) = false := decide_eq_false i2
    clear h
    go_enter Try.func4, Try.ntmps4
    go_wp2_with fail
    refine (c1 w).mono ?_
    rintro e W1 ⟨x1, rfl, k1, d1⟩
    obtain rfl := cls_some k1
    have B1 : Hid (Below w.heap.size w W1) := d1.below (Below.refl _ _)
    clear k1 d1
    go_wp2_with fail
    refine (c2 W1).mono ?_
    rintro e W2 ⟨x2, rfl, k2, d2⟩
    obtain rfl := cls_some k2
    have B2 : Hid (Below w.heap.size w W2) := d2.below B1.out
    clear k2 d2
    go_wp2_with fail
    refine (c3 W2).mono ?_
    rintro e W3 ⟨x3, rfl, k3, d3⟩
    obtain rfl := cls_some k3
    have B3 : Hid (Below w.heap.size w W3) := d3.below B2.out
    clear k3 d3
    go_wp2_with fail
    refine (c4 W3).mono ?_
    rintro e W4 ⟨x4, rfl, k4, d4⟩
    obtain rfl := cls_some k4
    have B4 : Hid (Below w.heap.size w W4) := d4.below B3.out
    clear k4 d4
    go_wp2_with fail
    refine (known_any W4).mono ?_
    rintro e W5 ⟨rfl, b5⟩
    have B5 : Hid (Below w.heap.size w W5) := B4.out.trans (b5.mono B4.out.size)
    clear b5
    go_wp2_with fail
    refine (c6 W5).mono ?_
    rintro e W6 ⟨x6, rfl, k6, d6⟩
    obtain rfl := cls_some k6
    have B6 : Hid (Below w.heap.size w W6) := d6.below B5.out
    clear k6 d6
    go_wp2
    go_ret
    exact ⟨rfl, B6.out⟩
  · have i1 : (Y : Int) < X := by omega
    have i2 : ¬ (X : Int) < Y := by omega
    have i3 : decide ((Y : Int) < X) = true := decide_eq_true i1
    have i4 : decide ((X : Int) < Y) = false := decide_eq_false i2
    clear h
    go_enter Try.func4, Try.ntmps4
    go_wp2_with fail
    refine (c1 w).mono ?_
    rintro e W1 ⟨x1, rfl, k1, d1⟩
    obtain rfl := cls_some k1
    have B1 : Hid (Below w.heap.size w W1) := d1.below (Below.refl _ _)
    clear k1 d1
    go_wp2_with fail
    refine (c2 W1).mono ?_
    rintro e W2 ⟨x2, rfl, k2, d2⟩
    obtain rfl := cls_some k2
    have B2 : Hid (Below w.heap.size w W2) := d2.below B1.out
    clear k2 d2
    go_wp2_with fail
    refine (c3 W2).mono ?_
    rintro e W3 ⟨x3, rfl, k3, d3⟩
    obtain rfl := cls_some k3
    have B3 : Hid (Below w.heap.size w W3) := d3.below B2.out
    clear k3 d3
    go_wp2_with fail
    refine (c4 W3).mono ?_
    rintro e W4 ⟨x4, rfl, k4, d4⟩
    obtain rfl := cls_some k4
    have B4 : Hid (Below w.heap.size w W4) := d4.below B3.out
    clear k4 d4
    go_wp2_with fail
    refine (known_any W4).mono ?_
    rintro e W5 ⟨rfl, b5⟩
    have B5 : Hid (Below w.heap.size w W5) := B4.out.trans (b5.mono B4.out.size)
    clear b5
    go_wp2_with fail
    refine (c6 W5).mono ?_
    rintro e W6 ⟨x6, rfl, k6, d6⟩
    obtain rfl := cls_some k6
    have B6 : Hid (Below w.heap.size w W6) := d6.below B5.out
    clear k6 d6
    go_wp2
    go_ret
    exact ⟨rfl, B6.out⟩
  · subst h
    go_enter Try.func4, Try.ntmps4
    go_wp2_with fail
    refine (c1 w).mono ?_
    rintro e W1 ⟨x1, rfl, k1, d1⟩
    obtain rfl := cls_some k1
    have B1 : Hid (Below w.heap.size w W1) := d1.below (Below.refl _ _)
    clear k1 d1
    go_wp2_with fail
    refine (c2 W1).mono ?_
    rintro e W2 ⟨x2, rfl, k2, d2⟩
    obtain rfl := cls_some k2
    have B2 : Hid (Below w.heap.size w W2) := d2.below B1.out
    clear k2 d2
    go_wp2_with fail
    refine (c3 W2).mono ?_
    rintro e W3 ⟨x3, rfl, k3, d3⟩
    obtain rfl := cls_some k3
    have B3 : Hid (Below w.heap.size w W3) := d3.below B2.out
    clear k3 d3
    go_wp2_with fail
    refine (c4 W3).mono ?_
    rintro e W4 ⟨x4, rfl, k4, d4⟩
    obtain rfl := cls_some k4
    have B4 : Hid (Below w.heap.size w W4) := d4.below B3.out
    clear k4 d4
    go_wp2_with fail
    refine (known_any W4).mono ?_
    rintro e W5 ⟨rfl, b5⟩
    have B5 : Hid (Below w.heap.size w W5) := B4.out.trans (b5.mono B4.out.size)
    clear b5
    go_wp2_with fail
    refine (c6 W5).mono ?_
    rintro e W6 ⟨x6, rfl, k6, d6⟩
    obtain rfl := cls_some k6
    have B6 : Hid (Below w.heap.size w W6) := d6.below B5.out
    clear k6 d6
    go_wp2
    go_ret
    exact ⟨rfl, B6.out⟩

set_option maxRecDepth 100000 in
theorem lifted (os : Os) (started : os.Started) (H : Type) (enc : TypeId × Value → H) :
    ReturnsInHanded {} Try.checked os 4 .any (Rows.scoreRatiosSpec.pre6 enc Try.prog Try.f4 Rows.scoreRatiosRow.domain false) (Rows.scoreRatiosSpec.post enc Try.prog Try.f4 false true false false) := by
  refine returnsInHanded_of_change (C := Try.checked) own started (by kernel_rfl) Try.func4
    (ChangeSpec.witness6 (enc := enc) (C := Try.checked) false ⟨#[], #[.int .u64 0, .int .u64 0, .int .u64 0], []⟩ 8 (by kernel_rfl) (by kernel_rfl) (by kernel_rfl) (by kernel_rfl)) ?_
  intro W base args ds gs before hval0 hW hcnd _
  have hval : ∀ (j : Nat) t v, Try.f4.params[j]? = some t → args[j]? = some v → Value.okWide Try.prog W .any base t v := hval0
  have hW' := hW
  obtain ⟨p, q, hA0, hV, rfl, hfz, hnd⟩ := hW
  have hA : DataW.TrodAll enc Try.prog W 0 (fun _ => true) true Try.f4.params.toList args.toList ds p := hA0
  rw [Try.params4] at hA hval
  obtain ⟨v0, vs0, d0, ds0, p0, q0, hargs, rfl, rfl, h0, r0⟩ := trodAll_cons hA
  obtain ⟨v1, vs1, d1, ds1, p1, q1, rfl, rfl, rfl, h1, r1⟩ := trodAll_cons r0
  obtain ⟨v2, vs2, d2, ds2, p2, q2, rfl, rfl, rfl, h2, r2⟩ := trodAll_cons r1
  obtain ⟨rfl, rfl, rfl⟩ := trodAll_nil r2
  obtain rfl : args = #[v0, v1, v2] := by cases args; simp_all
  obtain ⟨rfl, rfl⟩ := trodVars_none hV
  obtain ⟨a0, rfl, rfl, rfl, w0⟩ := open_int Try.underlying26 (hval 0 26 v0 rfl rfl) h0
  obtain ⟨a1, rfl, rfl, rfl, w1⟩ := open_int Try.underlying26 (hval 1 26 v1 rfl rfl) h1
  obtain ⟨a2, rfl, rfl, rfl, w2⟩ := open_int Try.underlying26 (hval 2 26 v2 rfl rfl) h2
  clear hA0 hval0
  refine (walk a0 a1 a2 w0 w1 w2 W).mono fun e W' ⟨he, bel⟩ => ?_
  subst he
  exact ⟨_, rfl, _, _, _, [], _, [], hW', trodAll_mk1 (shut_bool Try.underlying4 _), (trodAll_cons_mk (shut_int Try.underlying26 w0) (trodAll_cons_mk (shut_int Try.underlying26 w1) (trodAll_cons_mk (shut_int Try.underlying26 w2) trodAll_mk0))), rfl, bel.frame _, fun h => by cases h⟩

theorem over : Rows.scoreRatiosRow.holds Try.pinned (OpenSpec.ofChange Rows.scoreRatiosSpec) :=
  OpenClaim.holds_of_wide 4 Try.f4 rfl rfl rfl rfl rfl rfl rfl ⟨rfl, rfl, rfl, rfl, rfl⟩ rfl rfl rfl rfl rfl (by kernel_rfl) Try.func4 (by kernel_rfl)
    (of_decide_eq_true (by kernel_rfl)) (by unfold Func.isWrapper; first | (rw [if_pos (by decide +kernel)]; kernel_rfl) | (rw [if_neg (by decide +kernel)]; exact ⟨rfl, rfl⟩))
    (fun os started H enc _ => lifted os started H enc)

end Go.Proofs.Ytilhhgkplonipab.scoreRatios
namespace Go.Proofs.Ytilhhgkplonipab
/-- The statement. -/
theorem scoreRatios_holds : Rows.ScoreRatiosSaid := scoreRatios.over
#print axioms scoreRatios_holds
end Go.Proofs.Ytilhhgkplonipab
