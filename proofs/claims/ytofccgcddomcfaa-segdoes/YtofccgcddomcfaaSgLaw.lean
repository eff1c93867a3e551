/- What the laws without the document's answer lean on: numbers of states. -/
import Derived.Test.YtofccgcddomcfaaSgIn
namespace Go.Proofs.Ytofccgcddomcfaa
open Go.RowKit
set_option linter.unusedVariables false
set_option maxRecDepth 4000

theorem turn_no {L : List Int} {z a b s : Int} (h : stZ L z = s) (hs : s ≠ a) : turnZ L z a b = L ∧ decide (stZ L z = a) = false := by
  have : ¬ stZ L z = a := fun e => hs (h.symm.trans e)
  exact ⟨by unfold turnZ; rw [if_neg this], decide_eq_false this⟩
theorem turn_yes {L : List Int} {z a b : Int} (h : stZ L z = a) (ha : a ≠ 0) : (∀ y, stZ (turnZ L z a b) y = if y = z then b else stZ L y) ∧ decide (stZ L z = a) = true := by
  refine ⟨fun y => ?_, decide_eq_true h⟩
  rw [stZ_turn ha y]
  simp [h]
theorem newZ_getD {Z j : Nat} (h2 : 2 ≤ Z) (hj : j < Z) : (newZ Z).getD j 0 = if j < 2 then 4 else 1 := by
  simp only [List.getD, newZ_at hj h2, Option.getD_some]
theorem newZ_out {Z : Nat} (h2 : 2 ≤ Z) {z : Int} (h : z < 2 ∨ (Z : Int) ≤ z) : stZ (newZ Z) z = 0 ∨ stZ (newZ Z) z = 4 := by
  by_cases h1 : z < 0 ∨ (Z : Int) ≤ z
  · exact .inl (stZ_out (by rw [newZ_length h2]; exact h1))
  · obtain ⟨j, rfl⟩ : ∃ j : Nat, z = j := ⟨z.toNat, by omega⟩
    right
    rw [stZ_nat, newZ_getD h2 (by omega), if_pos (by omega)]
/-- Zones 2 up to i are open, all behind them free. -/
def Front (Z i : Nat) (L : List Int) : Prop := L.length = Z ∧ ∀ j, j < Z → L.getD j 0 = if j < 2 then 4 else if j < i then 2 else 1
theorem front_take {Z i : Nat} {L : List Int} (h : Front Z i L) (h2 : 2 ≤ i) (hi : i < Z) : Front Z (i + 1) (takeZ L) := by
  have hf : firstN L 1 = i := first_is (by rw [h.1]; exact hi) (by rw [h.2 i hi, if_neg (by omega), if_neg (by omega)]) (fun j hj => by
    rw [h.2 j (by omega)]
    split
    · decide
    · first | decide | (rw [if_pos hj]; decide))
  unfold takeZ
  rw [hf, if_pos (by rw [h.1]; exact hi)]
  refine ⟨by rw [List.length_set]; exact h.1, fun j hj => ?_⟩
  rw [getD_set _ _ _ _ (by rw [h.1]; exact hi)]
  by_cases e : j = i
  · subst e
    rw [if_pos rfl, if_neg (by omega), if_pos (by omega)]
  · rw [if_neg e, h.2 j hj]
    by_cases h1 : j < 2
    · rw [if_pos h1, if_pos h1]
    · rw [if_neg h1, if_neg h1]
      by_cases h3 : j < i
      · rw [if_pos h3, if_pos (by omega)]
      · rw [if_neg h3, if_neg (by omega)]
theorem front_of {Z : Nat} {L : List Int} (hl : L.length = Z) (h2 : 2 ≤ Z) (h : ∀ y, stZ L y = stZ (newZ Z) y) : Front Z 2 L := by
  refine ⟨hl, fun j hj => ?_⟩
  have := h j
  rw [stZ_nat, stZ_nat, newZ_getD h2 hj] at this
  rw [this]
  split <;> rfl
theorem front_at {Z i : Nat} {L : List Int} (h : Front Z i L) {j : Nat} (hj : j < Z) (h2 : 2 ≤ j) (hi : j < i) : stZ L j = 2 := by
  rw [stZ_nat, h.2 j hj, if_neg (by omega), if_pos hi]
end Go.Proofs.Ytofccgcddomcfaa
