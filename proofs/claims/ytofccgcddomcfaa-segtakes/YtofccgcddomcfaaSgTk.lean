/- What SegTakes leans on: zones are opened from the lowest free one on. -/
import Derived.Test.YtofccgcddomcfaaSgLaw
namespace Go.Proofs.Ytofccgcddomcfaa
open Go.RowKit
set_option linter.unusedVariables false
set_option maxRecDepth 4000

/-- No zone is open; the first two are for checkpoints. -/
def Gone (Z : Nat) (L : List Int) : Prop := L.length = Z ∧ 2 ≤ Z ∧ ∀ j, j < Z → L.getD j 0 ≠ 2 ∧ (j < 2 → L.getD j 0 = 4)
theorem gone_new {Z : Nat} (h2 : 2 ≤ Z) : Gone Z (newZ Z) := by
  refine ⟨newZ_length h2, h2, fun j hj => ?_⟩
  rw [newZ_getD h2 hj]
  refine ⟨?_, fun h => by rw [if_pos h]⟩
  split <;> decide
theorem gone_turn {Z : Nat} {L : List Int} {y : Int} (h : Gone Z L) : Gone Z (turnZ L y 1 3) := by
  refine ⟨by rw [turnZ_length]; exact h.1, h.2.1, fun j hj => ?_⟩
  have := stZ_turn (L := L) (z := y) (a := 1) (b := 3) (by decide) j
  rw [stZ_nat] at this
  rw [this]
  obtain ⟨a, b⟩ := h.2.2 j hj
  by_cases e : (j : Int) = y ∧ stZ L y = 1
  · rw [if_pos e]
    refine ⟨by decide, fun h2 => ?_⟩
    obtain ⟨rfl, e2⟩ := e
    rw [stZ_nat, b h2] at e2
    exact absurd e2 (by decide)
  · rw [if_neg e, stZ_nat]
    exact ⟨a, b⟩
/-- j of m were opened, the last of them t; none up to t is free. -/
structure Taken (Z m j t : Nat) (M : List Int) : Prop where
  len : M.length = Z
  one : 2 ≤ Z
  free : cntZ M 1 + j = m
  open' : cntZ M 2 = j
  lo : ∀ i, i ≤ t → M.getD i 0 ≠ 1
theorem cnt_none {L : List Int} {a : Int} (h : ∀ j, j < L.length → L.getD j 0 ≠ a) : cntZ L a = 0 := by
  rcases Nat.eq_zero_or_pos (cntZ L a) with e | e
  · exact e
  · have := cnt_pos.1 e
    exact absurd (first_at this) (h _ this)
theorem taken_start {Z m : Nat} {L : List Int} (h : Gone Z L) (hm : m = cntZ L 1) : Taken Z m 0 1 L := by
  refine ⟨h.1, h.2.1, by omega, cnt_none (fun j hj => (h.2.2 j (by rw [← h.1]; exact hj)).1), fun i hi => ?_⟩
  rw [(h.2.2 i (by have := h.2.1; omega)).2 (by omega)]
  decide
theorem taken_step {Z m j t : Nat} {M : List Int} (h : Taken Z m j t M) (hj : j < m) : firstN M 1 < M.length ∧ t < firstN M 1 ∧ Taken Z m (j + 1) (firstN M 1) (takeZ M) := by
  have hp : 0 < cntZ M 1 := by have := h.free; omega
  have hf := cnt_pos.1 hp
  have ha := first_at hf
  have ht : t < firstN M 1 := by
    rcases Nat.lt_or_ge t (firstN M 1) with e | e
    · exact e
    · exact absurd ha (h.lo _ e)
  have c1 := cnt_turn (b := 2) 1 hf ha
  have c2 := cnt_turn (b := 2) 2 hf ha
  simp only [if_true, show ((2 : Int) = 1) = False by simp, show ((1 : Int) = 2) = False by simp, if_false] at c1 c2
  refine ⟨hf, ht, ?_⟩
  unfold takeZ
  rw [if_pos hf]
  refine ⟨by rw [List.length_set]; exact h.len, h.one, by have := h.free; omega, by have := h.open'; omega, fun i hi => ?_⟩
  rw [getD_set _ _ _ _ hf]
  by_cases e : i = firstN M 1
  · rw [if_pos e]; decide
  · rw [if_neg e]; exact first_not (by omega)
theorem taken_end {Z m t : Nat} {M : List Int} (h : Taken Z m m t M) : ¬ firstN M 1 < M.length ∧ (listZ M 2).length = m ∧ cntZ M 1 = 0 := by
  have h0 : cntZ M 1 = 0 := by have := h.free; omega
  exact ⟨fun e => by have := cnt_pos.2 e; omega, h.open', h0⟩
end Go.Proofs.Ytofccgcddomcfaa
