/- What SegParts leans on: each zone has one state. -/
import Derived.Test.YtofccgcddomcfaaSgLaw
import Derived.Deep.RegionHeld3
namespace Go.Proofs.Ytofccgcddomcfaa
open Go.RowKit
set_option linter.unusedVariables false
set_option maxRecDepth 4000

theorem SegP.drew {W : World} {p g : Nat} {r : Int} {L : List Int} (h : SegP W p g r L) : SegP W.drew p g r L := ⟨h.hp.drew, h.hg.drew, h.len, h.fit⟩
structure Parts (Z : Nat) (L : List Int) : Prop where
  len : L.length = Z
  two : 2 ≤ Z
  one : ∀ j, j < Z → L.getD j 0 = 1 ∨ L.getD j 0 = 2 ∨ L.getD j 0 = 3 ∨ L.getD j 0 = 4
  k0 : L.getD 0 0 = 4
  k1 : L.getD 1 0 = 4
theorem parts_new {Z : Nat} (h2 : 2 ≤ Z) : Parts Z (newZ Z) := by
  refine ⟨newZ_length h2, h2, fun j hj => ?_, by rw [newZ_getD h2 (by omega)]; rfl, by rw [newZ_getD h2 (by omega)]; rfl⟩
  rw [newZ_getD h2 hj]
  split
  · exact .inr (.inr (.inr rfl))
  · exact .inl rfl
theorem parts_turn {Z : Nat} {L : List Int} {y a b : Int} (h : Parts Z L) (ha : a ≠ 0) (ha4 : a ≠ 4) (hb : b = 1 ∨ b = 2 ∨ b = 3 ∨ b = 4) : Parts Z (turnZ L y a b) := by
  have key : ∀ j : Nat, (turnZ L y a b).getD j 0 = if (j : Int) = y ∧ stZ L y = a then b else L.getD j 0 := fun j => by
    have := stZ_turn (L := L) (z := y) (b := b) ha j
    rw [stZ_nat, stZ_nat] at this
    exact this
  have keep : ∀ j : Nat, L.getD j 0 = 4 → (turnZ L y a b).getD j 0 = 4 := fun j hj => by
    rw [key j, if_neg ?_]
    · exact hj
    · rintro ⟨rfl, e⟩
      rw [stZ_nat, hj] at e
      exact ha4 e.symm
  refine ⟨by rw [turnZ_length]; exact h.len, h.two, fun j hj => ?_, keep 0 h.k0, keep 1 h.k1⟩
  rw [key j]
  split
  · exact hb
  · exact h.one j hj
theorem parts_take {Z : Nat} {L : List Int} (h : Parts Z L) : Parts Z (takeZ L) := by
  rw [take_turn]
  split
  · exact parts_turn h (by decide) (by decide) (.inr (.inl rfl))
  · exact h
def sumS (L : List Int) : Nat → Nat
  | 0 => 0
  | 1 => 0
  | k + 2 => sumS L (k + 1) + cntZ L ((k + 1 : Nat) : Int)
theorem cnt_le (L : List Int) (a : Int) : cntZ L a ≤ L.length := listTo_length L a L.length
theorem sumS_step (L : List Int) {k : Nat} (h : 1 ≤ k) : sumS L (k + 1) = sumS L k + cntZ L (k : Int) := by
  match k, h with
  | k + 1, _ => rfl
theorem sumS_le (L : List Int) : ∀ k, sumS L k ≤ k * L.length
  | 0 => Nat.zero_le _
  | 1 => Nat.zero_le _
  | k + 2 => by
    have := sumS_le L (k + 1)
    have := cnt_le L ((k + 1 : Nat) : Int)
    have e : (k + 2) * L.length = (k + 1) * L.length + L.length := by rw [Nat.add_mul (k + 1) 1]; omega
    unfold sumS
    omega
theorem parts_sum {Z : Nat} {L : List Int} (h : Parts Z L) : sumS L 5 = Z := by
  have := cnt_all (L := L) L.length (Nat.le_refl _) (fun i hi => h.one i (by rw [← h.len]; exact hi))
  have e : sumS L 5 = 0 + cntZ L 1 + cntZ L 2 + cntZ L 3 + cntZ L 4 := rfl
  rw [e]
  unfold cntZ listZ
  have := h.len
  omega
theorem list_zero {L : List Int} {a : Int} (h : firstN L a < L.length) : (listZ L a).getD 0 0 = firstN L a := by
  have := list_first h (Nat.le_refl _)
  unfold listZ
  rcases e : listTo L a L.length with _ | ⟨x, xs⟩
  · rw [e] at this; cases this
  · rw [e] at this
    simpa using this
theorem take_st {L : List Int} (h : firstN L 1 < L.length) : stZ (takeZ L) (firstN L 1) = 2 := by
  rw [take_turn, if_pos h, stZ_turn (by decide), if_pos ⟨rfl, by rw [stZ_nat]; exact first_at h⟩]
end Go.Proofs.Ytofccgcddomcfaa
