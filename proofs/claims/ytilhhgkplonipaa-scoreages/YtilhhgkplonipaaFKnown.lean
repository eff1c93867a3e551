/- The chapter's examples hold. -/
import Derived.Test.YtilhhgkplonipaaFList
namespace Go.Proofs.Ytilhhgkplonipaa
open Go.RowKit Ieee
set_option linter.unusedVariables false
set_option maxRecDepth 4000

theorem rat00 : ratC 0 0 = none := by decide +kernel
theorem rat10 : ratC 1 0 = some 9218868437227405312 := by decide +kernel
theorem wor1 : worC 0 4 10 = some 4621819117588971520 := by decide +kernel
theorem wor2 : worC 4 4 10 = some 0 := by decide +kernel
theorem wor3 : worC 1 2 6 = some 4611686018427387904 := by decide +kernel
theorem wor4 : worC 0 0 1 = none := by decide +kernel

theorem best_ex (x : Nat) (h : Nan x) : BestTo [4607182418800017408, x, 4613937818241073152, 4613937818241073152] 4 2 := by
  have k1 : key 4607182418800017408 < key 4613937818241073152 := by decide +kernel
  have n3 : ¬ Nan 4613937818241073152 := by decide +kernel
  refine .inr ⟨2, rfl, by omega, n3, fun i hi hn => ?_, fun i hi hn => ?_⟩
  · match i, hi with
    | 0, _ => exact Int.le_of_lt k1
    | 1, _ => exact absurd h hn
    | 2, _ => exact Int.le_refl _
    | 3, _ => exact Int.le_refl _
  · match i, hi with
    | 0, _ => exact k1
    | 1, _ => exact absurd h hn
theorem best_one (x : Nat) (h : Nan x) : BestTo [x] 1 (-1) := by
  refine .inl ⟨rfl, fun i hi => ?_⟩
  match i, hi with
  | 0, _ => exact h

set_option maxHeartbeats 2000000 in
theorem known_any (w : World) : Calls Try.prog 9 #[] w fun e w' => e = .returned (.bool true) ∧ Below w.heap.size w w' := by
  obtain ⟨q, hq⟩ : ∃ q, q = w.heap.size := ⟨_, rfl⟩
  have HQ : Hid (q = w.heap.size) := hq
  rw [← hq]
  clear hq
  have o1 : FloatKind.f64.format.order 4621819117588971520 4621819117588971520 = some .eq := by decide +kernel
  have o2 : FloatKind.f64.format.order 0 0 = some .eq := by decide +kernel
  have o3 : FloatKind.f64.format.order 4611686018427387904 4611686018427387904 = some .eq := by decide +kernel
  go_enter Try.func9, Try.ntmps9
  go_wp2_with fail
  refine (ratio_of 0 0 w).mono ?_
  rintro e w1 ⟨x, rfl, hx, d1⟩
  rw [rat00] at hx
  have HX : Hid (Nan x ∧ x < 2 ^ 64 ∧ Below q w w1) := ⟨cls_none hx, hx.1, d1.below (Below.refl _ _)⟩
  clear hx d1
  go_wp2_with fail
  refine (worth_of 0 4 10 w1).mono ?_
  rintro e w2 ⟨y, rfl, hy, d2⟩
  rw [wor1] at hy
  obtain rfl := cls_some hy
  have H2 : Hid (Below q w w2) := d2.below HX.out.2.2
  clear hy d2
  go_wp2_with fail
  refine (worth_of 4 4 10 w2).mono ?_
  rintro e w3 ⟨y, rfl, hy, d3⟩
  rw [wor2] at hy
  obtain rfl := cls_some hy
  have H3 : Hid (Below q w w3) := d3.below H2.out
  clear hy d3
  go_wp2_with fail
  refine (worth_of 1 2 6 w3).mono ?_
  rintro e w4 ⟨y, rfl, hy, d4⟩
  rw [wor3] at hy
  obtain rfl := cls_some hy
  have H4 : Hid (Below q w w4) := d4.below H3.out
  clear hy d4
  go_wp2_with fail
  refine (worth_of 0 0 1 w4).mono ?_
  rintro e w5 ⟨y, rfl, hy, d5⟩
  rw [wor4] at hy
  have H5 : Hid (Below q w w5 ∧ Nan y ∧ y < 2 ^ 64) := ⟨d5.below H4.out, cls_none hy, hy.1⟩
  clear hy d5
  go_wp2_with fail
  refine (kind_of y H5.out.2.2 w5).mono ?_
  rintro e w5 ⟨rfl, rfl⟩
  have k1 : kindI y = 1 := (kind_one y).2 H5.out.2.1
  have HS : Hid (q ≤ w5.heap.size) := by
    have := H5.out.1.size
    rw [← HQ.out] at this
    exact this
  go_wp2_with fail
  refine (best_of _ 4 4 [4607182418800017408, x, 4613937818241073152, 4613937818241073152] _ (new_fin rfl rfl rfl (by have := HX.out.2.1; intro z hz; simp at hz; omega) (by decide)) (by omega)).mono ?_
  rintro e w6 ⟨B, rfl, hB, rfl⟩
  obtain rfl := hB.one (best_ex x HX.out.1)
  clear hB
  go_wp2_with fail
  refine (best_of _ 1 1 [x] _ (new_fin (by simp) rfl rfl (by have := HX.out.2.1; intro z hz; simp at hz; omega) (by decide)) (by omega)).mono ?_
  rintro e w7 ⟨B, rfl, hB, rfl⟩
  obtain rfl := hB.one (best_one x HX.out.1)
  clear hB
  go_wp2_with fail
  refine (ratio_of 1 0 _).mono ?_
  rintro e w8 ⟨y8, rfl, hy8, d8⟩
  rw [rat10] at hy8
  obtain rfl := cls_some hy8
  clear hy8
  have H8 : Hid (Below q w w8) := d8.below ((H5.out.1.alloc HS.out _).alloc (by have := HS.out; simp; omega) _)
  clear d8
  have k7 : kindI 9218868437227405312 = 7 := by decide +kernel
  go_wp2_with fail
  refine (kind_of 9218868437227405312 (by decide) w8).mono ?_
  rintro e w8 ⟨rfl, rfl⟩
  go_wp2
  go_ret
  exact ⟨rfl, H8.out⟩

end Go.Proofs.Ytilhhgkplonipaa
