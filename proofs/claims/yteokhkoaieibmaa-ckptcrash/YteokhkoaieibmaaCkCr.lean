/- What a crash leaves of a checkpoint that was being written. -/
import Derived.Test.YteokhkoaieibmaaCkMath
import Derived.Test.YteokhkoaieibmaaZCrashM
namespace Go.Proofs.Yteokhkoaieibmaa
open Go.RowKit
set_option linter.unusedVariables false
set_option maxRecDepth 4000

theorem torn_last (D : List Int) {m : Nat} (h : m < D.length) : (tornL D m).getLast? = some 0 := by
  obtain ⟨j, hj⟩ : ∃ j, D.length - m = j + 1 := ⟨D.length - m - 1, by omega⟩
  unfold tornL
  rw [hj, List.replicate_succ', ← List.append_assoc, List.getLast?_append]
  rfl
/-- It is a state only if all of it is there. -/
theorem kept_isK {s : Sh} {l : List (List Int)} (h : IsK s l) (hf : ∀ b ∈ l, ∀ z ∈ b, Fits8 z) {n : Nat} (hn : n ≤ l.length) {k t : Int} (h' : IsK s (keptB (l.take n) k t)) : n = l.length ∧ keptB (l.take n) k t = l := by
  have hb8 : ∀ (i : Nat) (b : List Int), l[i]? = some b → 64 ≤ b.length := by
    intro i b hb
    have hg := (ckE_zero.1 h.1).1.1
    have := pow_bounds (show s.b ∈ PowR from hg.2.2.2.2.1)
    rw [(h.each hf hb).2.2.2.2.2.2.1]; omega
  have sub : ∀ m : Nat, ∀ b ∈ l.take m, b ∈ l := fun m b hb => List.mem_of_mem_take hb
  have whole : ∀ m : Nat, IsK s (l.take m) → l.length ≤ m := by
    intro m hm
    apply Nat.le_of_not_lt
    intro hlt
    exact h.other hf (sub m) (by rw [List.length_take]; omega) hm
  unfold keptB at h' ⊢
  have e : (l.take n).take k.toNat = l.take (min k.toNat n) := by rw [List.take_take]
  rw [e] at h' ⊢
  by_cases hk : k.toNat < n
  · obtain ⟨D, hD⟩ : ∃ D, l[k.toNat]? = some D := ⟨_, List.getElem?_eq_getElem (by omega)⟩
    have hD' : (l.take n)[k.toNat]? = some D := by rw [List.getElem?_take_of_lt hk]; exact hD
    have hmin : min k.toNat n = k.toNat := by omega
    rw [hD', hmin] at h' ⊢
    simp only at h' ⊢
    by_cases ht : 0 < t
    · rw [if_pos ht] at h' ⊢
      by_cases hm : D.length ≤ t.toNat
      · have e1 : tornL D (min t.toNat D.length) = D := by rw [show min t.toNat D.length = D.length by omega]; exact tornL_all D
        have e2 : l.take k.toNat ++ [D] = l.take (k.toNat + 1) := by
          rw [List.take_succ_eq_append_getElem (by omega)]
          congr 2
          exact (List.getElem?_eq_some_iff.1 hD).2.symm
        rw [e1, e2] at h' ⊢
        have := whole _ h'
        exact ⟨by omega, List.take_of_length_le this⟩
      · exfalso
        have hlt : min t.toNat D.length < D.length := by omega
        have hfit : ∀ b ∈ l.take k.toNat ++ [tornL D (min t.toNat D.length)], ∀ z ∈ b, Fits8 z := by
          intro b hb
          rcases List.mem_append.1 hb with hb | hb
          · exact hf b (List.mem_of_mem_take hb)
          · rw [List.mem_singleton.1 hb]
            exact tornL_fits (hf D (List.mem_of_getElem? hD))
        have hl := h'.last hfit (i := k.toNat) (b := tornL D (min t.toNat D.length)) (by
          rw [List.getElem?_append_right (by rw [List.length_take]; omega), List.length_take]
          rw [show k.toNat - min k.toNat l.length = 0 by omega]
          rfl)
        rw [torn_last D hlt] at hl
        cases hl
    · rw [if_neg ht, List.append_nil] at h' ⊢
      have := whole _ h'
      omega
  · have hmin : min k.toNat n = n := by omega
    have hnone : (l.take n)[k.toNat]? = none := List.getElem?_eq_none (by rw [List.length_take]; omega)
    rw [hnone, hmin] at h' ⊢
    simp only [List.append_nil] at h' ⊢
    have := whole _ h'
    exact ⟨by omega, List.take_of_length_le this⟩
end Go.Proofs.Yteokhkoaieibmaa
