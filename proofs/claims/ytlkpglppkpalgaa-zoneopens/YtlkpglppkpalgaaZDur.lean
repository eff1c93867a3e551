/- What a crash leaves: what is durable stays. -/
import Derived.Test.YtlkpglppkpalgaaZDoesM
namespace Go.Proofs.Ytlkpglppkpalgaa
open Go.RowKit Go.Shelf
set_option linter.unusedVariables false
set_option maxRecDepth 4000

theorem crashB_ge {bs : List (List Int)} {dn : Nat} {k t : Int} (h : dn ≤ bs.length) : dn ≤ (crashB bs dn k t).length := by
  simp [crashB]; omega
theorem crashB_at {bs : List (List Int)} {dn : Nat} {k t : Int} {j : Nat} {D' : List Int} (hd : dn ≤ bs.length) (h : (crashB bs dn k t)[j]? = some D') :
    ∃ D m, bs[j]? = some D ∧ m ≤ D.length ∧ D' = tornL D m ∧ (j < dn ∨ j + 1 < (crashB bs dn k t).length → D' = D) := by
  have hlen : (bs.take dn).length = dn := by simp; omega
  by_cases h1 : j < dn
  · have : bs[j]? = some D' := by
      unfold crashB at h
      rw [List.getElem?_append_left (by omega), List.getElem?_take_of_lt h1] at h; exact h
    exact ⟨D', D'.length, this, Nat.le_refl _, (tornL_all D').symm, fun _ => rfl⟩
  · have h2 : (keptB (bs.drop dn) k t)[j - dn]? = some D' := by
      unfold crashB at h
      rw [List.getElem?_append_right (by omega), hlen] at h; exact h
    have hL : (crashB bs dn k t).length = dn + (keptB (bs.drop dn) k t).length := by unfold crashB; rw [List.length_append, hlen]
    by_cases h3 : j - dn < ((bs.drop dn).take k.toNat).length
    · have h4 : (bs.drop dn)[j - dn]? = some D' := by
        unfold keptB at h2
        rw [List.getElem?_append_left h3, List.getElem?_take_of_lt (by rw [List.length_take] at h3; omega)] at h2; exact h2
      rw [List.getElem?_drop] at h4
      have e : dn + (j - dn) = j := by omega
      rw [e] at h4
      exact ⟨D', D'.length, h4, Nat.le_refl _, (tornL_all D').symm, fun _ => rfl⟩
    · unfold keptB at h2 hL
      rw [List.getElem?_append_right (by omega)] at h2
      cases hu : (bs.drop dn)[k.toNat]? with
      | none => rw [hu] at h2; simp at h2
      | some D =>
        rw [hu] at h2 hL
        have hk := (List.getElem?_eq_some_iff.1 hu).1
        have hl : ((bs.drop dn).take k.toNat).length = k.toNat := by rw [List.length_take]; omega
        by_cases ht : 0 < t
        · simp only [if_pos ht] at h2 hL
          rw [hl] at h2 h3
          have h0 : j - dn - k.toNat = 0 := by
            have := (List.getElem?_eq_some_iff.1 h2).1
            simp at this; omega
          rw [h0] at h2
          rw [List.getElem?_drop] at hu
          have e : dn + k.toNat = j := by omega
          rw [e] at hu
          refine ⟨D, min t.toNat D.length, hu, Nat.min_le_right _ _, by simpa using h2.symm, fun hj => ?_⟩
          rw [hL, List.length_append, hl] at hj
          simp at hj
          omega
        · simp only [if_neg ht] at h2
          simp at h2
theorem torn_get {D : List Int} {m x : Nat} (h : m ≤ D.length) : (tornL D m).getD x 0 = if x < m then D.getD x 0 else 0 := by
  unfold tornL
  by_cases hx : x < m
  · rw [if_pos hx]; simp only [List.getD]; rw [List.getElem?_append_left (by simp; omega), List.getElem?_take_of_lt hx]
  · rw [if_neg hx]; simp only [List.getD]; rw [List.getElem?_append_right (by simp; omega)]
    rw [List.getElem?_replicate]
    split <;> rfl
/-- A block that a crash left, the block that was there, whether it had to stay. -/
def DurB (D' D : List Int) (sure : Prop) : Prop := D'.length = D.length ∧ ∀ n, D'.getD n 0 ≠ D.getD n 0 → ¬ sure ∧ ∀ i, n ≤ i → D'.getD i 0 = 0
def DurZ (z' z : Zn) : Prop :=
  z.2 ≤ z'.1.length ∧ z'.1.length ≤ z.1.length ∧ z'.2 = z'.1.length ∧ ∀ (j : Nat) (D' : List Int), z'.1[j]? = some D' → ∃ D, z.1[j]? = some D ∧ DurB D' D ((j : Int) < z.2 ∨ j + 1 < z'.1.length)
theorem cr1_dur {z : Zn} (k : Int × Int) (h0 : 0 ≤ z.2) (h1 : z.2 ≤ z.1.length) : DurZ (cr1 k z) z := by
  have hge := crashB_ge (bs := z.1) (dn := z.2.toNat) (k := k.1) (t := k.2) (by omega)
  refine ⟨by simp only [cr1]; omega, crashB_len _ _ _ _, rfl, fun j D' hj => ?_⟩
  obtain ⟨D, m, e1, hm, rfl, hs⟩ := crashB_at (by omega) hj
  refine ⟨D, e1, tornL_length hm, fun n hn => ?_⟩
  have hmn : ¬ n < m := by intro h; rw [torn_get hm, if_pos h] at hn; exact hn rfl
  refine ⟨fun hsure => ?_, fun i hi => by rw [torn_get hm, if_neg (by omega)]⟩
  have e := hs (by rcases hsure with h | h; exact .inl (by omega); exact .inr h)
  rw [e] at hn
  exact hn rfl
theorem crash_dur {s : Sh} {zs : List Zn} (hw : Wf s zs) (ls : List (Int × Int)) {i : Nat} {z' : Zn} (h : (crashZ ls zs)[i]? = some z') : ∃ z, zs[i]? = some z ∧ DurZ z' z := by
  unfold crashZ at h
  rw [List.getElem?_mapIdx] at h
  cases hz : zs[i]? with
  | none => rw [hz] at h; cases h
  | some z =>
    rw [hz] at h
    have hh := hw.zone z (List.mem_of_getElem? hz)
    simp at h
    subst h
    exact ⟨z, rfl, cr1_dur _ hh.2.1 hh.2.2.1⟩
end Go.Proofs.Ytlkpglppkpalgaa
