/- The mean of one number, and of none. -/
import Derived.Test.YtilhhgkplonipabFAge
import Derived.Test.YtilhhgkplonipabFMore
namespace Go.Proofs.Ytilhhgkplonipab
open Go.RowKit Ieee
set_option linter.unusedVariables false
set_option maxRecDepth 4000

theorem cv_one : cv 1 = 4607182418800017408 := by decide +kernel
theorem quo00 : op4 .quo 0 0 = none := by decide +kernel
theorem mean_nil : meanC [] = none := by
  unfold meanC
  rw [show numsL [] = [] from rfl, show ([] : List Nat).length = 0 from rfl, cv_nought]
  exact quo00
theorem mean_nan (x : Nat) (h : Nan x) : meanC [x] = none := by
  unfold meanC
  have e : numsL [x] = [] := by unfold numsL; simp [h]
  rw [e, show ([] : List Nat).length = 0 from rfl, cv_nought]
  exact quo00
theorem mean_form (x : Nat) (h : ¬ Nan x) : meanC [x] = bop .quo (op4 .add 0 x) (some 4607182418800017408) := by
  unfold meanC
  have e : numsL [x] = [x] := by unfold numsL; simp [h]
  rw [e, show ([x] : List Nat).length = 1 from rfl, cv_one]
  rfl
theorem mean_zero (x : Nat) (h : ¬ Nan x) (hx : x < 2 ^ 64) (h0 : rung x = 0) : meanC [x] = some 0 := by
  have p : x = 0 ∨ x = 9223372036854775808 := by unfold rung at h0; omega
  rw [mean_form x h]
  rcases p with rfl | rfl
  · decide +kernel
  · decide +kernel
theorem mean_num (x : Nat) (h : ¬ Nan x) (hx : x < 2 ^ 64) (h0 : rung x ≠ 0) : meanC [x] = some x := by
  rw [mean_form x h]
  rcases nan_parts x with n | a | a
  · exact absurd n h
  · have w := word_parts x hx
    rw [a] at w
    rw [← w]
    cases sgn x
    · decide +kernel
    · decide +kernel
  · have w := word_parts x hx
    have v := val_pos h0
    have ad : op4 .add 0 x = some x := by
      rw [op4_add]
      have := add_fin 0 x (by decide) a
      have k0 : key 0 = 0 := by rw [key_pos 0 (by decide), val_zero]; rfl
      rw [k0, Int.zero_add] at this
      have kx : key x ≠ 0 := by unfold key sg; split <;> omega
      have ks : decide (key x < 0) = sgn x := by
        unfold key sg
        cases sgn x
        · exact decide_eq_false (by simp)
        · exact decide_eq_true (by simp; omega)
      have ka : (key x).natAbs = val (rung x) := by unfold key sg; split <;> omega
      rw [if_neg kx, ks, ka, RQ_val, Nat.min_eq_left (Nat.le_of_lt a), w] at this
      exact this
    have dv : op4 .quo x 4607182418800017408 = some x := by
      rw [op4_quo]
      have := div_fin x one a (by decide) (by decide)
      rw [rung_pos one (by decide), sgn_pos one (by decide), val_one, RQ_exact _ _ pE, Nat.min_eq_left (Nat.le_of_lt a), Bool.xor_false, w] at this
      exact this
    rw [ad, bop_some]
    exact dv
theorem one_fin {w : World} {k x : Nat} {fr : Nat × Nat} (hk : w.heap.size = k) (hx : x < 2 ^ 64) : FIn (w.alloc (.cells #[.float .f64 x] 23 fr)) (some ⟨k, 0, none⟩) 1 [x] :=
  new_fin hk rfl rfl (by intro z hz; simp at hz; omega) (by decide)
end Go.Proofs.Ytilhhgkplonipab
