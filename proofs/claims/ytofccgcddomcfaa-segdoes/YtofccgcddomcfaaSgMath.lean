/- States of zones: lists of numbers. -/
import Derived.Test.YtofccgcddomcfaaBlk
namespace Go.Proofs.Ytofccgcddomcfaa
set_option linter.unusedVariables false
set_option maxRecDepth 4000

def stZ (L : List Int) (z : Int) : Int := if 0 ≤ z then L.getD z.toNat 0 else 0
def turnZ (L : List Int) (z a b : Int) : List Int := if stZ L z = a then L.set z.toNat b else L
def firstN (L : List Int) (a : Int) : Nat := L.findIdx (fun x => x == a)
def takeZ (L : List Int) : List Int := if firstN L 1 < L.length then L.set (firstN L 1) 2 else L
def takeI (L : List Int) : Int := if firstN L 1 < L.length then firstN L 1 else 0
def takeB (L : List Int) : Bool := decide (firstN L 1 < L.length)
def listTo (L : List Int) (a : Int) : Nat → List Int
  | 0 => []
  | k + 1 => if L.getD k 0 = a then listTo L a k ++ [(k : Int)] else listTo L a k
def listZ (L : List Int) (a : Int) : List Int := listTo L a L.length
def cntZ (L : List Int) (a : Int) : Nat := (listZ L a).length
def lowB (L : List Int) (r : Int) : Bool := decide ((cntZ L 1 : Int) ≤ r)
def newZ (n : Nat) : List Int := 4 :: 4 :: List.replicate (n - 2) 1

theorem getD_at {L : List Int} {i : Nat} (h : i < L.length) : L.getD i 0 = L[i] := by simp [List.getD, h]
theorem getD_out {L : List Int} {i : Nat} (h : L.length ≤ i) : L.getD i 0 = 0 := by simp [List.getD, List.getElem?_eq_none h]
theorem stZ_nat (L : List Int) (i : Nat) : stZ L i = L.getD i 0 := by simp [stZ]
theorem stZ_out {L : List Int} {z : Int} (h : z < 0 ∨ (L.length : Int) ≤ z) : stZ L z = 0 := by
  unfold stZ
  split
  · exact getD_out (by omega)
  · rfl
theorem stZ_in {L : List Int} {z a : Int} (h : stZ L z = a) (ha : a ≠ 0) : 0 ≤ z ∧ z < L.length := by
  rcases Int.lt_or_le z 0 with h0 | h0
  · exact absurd (h.symm.trans (stZ_out (.inl h0))) ha
  · rcases Int.lt_or_le z L.length with h1 | h1
    · exact ⟨h0, h1⟩
    · exact absurd (h.symm.trans (stZ_out (.inr h1))) ha
theorem turnZ_length (L : List Int) (z a b : Int) : (turnZ L z a b).length = L.length := by unfold turnZ; split <;> simp
theorem takeZ_length (L : List Int) : (takeZ L).length = L.length := by unfold takeZ; split <;> simp
theorem newZ_length {n : Nat} (h : 2 ≤ n) : (newZ n).length = n := by simp [newZ]; omega

/-- The first of a state. -/
theorem first_le (L : List Int) (a : Int) : firstN L a ≤ L.length := List.findIdx_le_length
theorem first_at {L : List Int} {a : Int} (h : firstN L a < L.length) : L.getD (firstN L a) 0 = a := by
  have e : (L[firstN L a]'h == a) = true := List.findIdx_getElem (w := h)
  rw [getD_at h]
  simpa using e
theorem first_not {L : List Int} {a : Int} {i : Nat} (h : i < firstN L a) : L.getD i 0 ≠ a := by
  have hl : i < L.length := Nat.lt_of_lt_of_le h (first_le L a)
  have := List.not_of_lt_findIdx h
  rw [getD_at hl]
  intro e
  simp [e] at this
theorem first_is {L : List Int} {a : Int} {i : Nat} (hl : i < L.length) (hi : L.getD i 0 = a) (hn : ∀ j, j < i → L.getD j 0 ≠ a) : firstN L a = i := by
  rcases Nat.lt_trichotomy (firstN L a) i with h | h | h
  · exact absurd (first_at (by omega)) (hn _ h)
  · exact h
  · exact absurd hi (first_not h)
theorem first_none {L : List Int} {a : Int} (hn : ∀ j, j < L.length → L.getD j 0 ≠ a) : firstN L a = L.length := by
  rcases Nat.lt_or_ge (firstN L a) L.length with h | h
  · exact absurd (first_at h) (hn _ h)
  · have := first_le L a; omega

/-- The states behind a store. -/
theorem getD_set (L : List Int) (i j : Nat) (b : Int) (hi : i < L.length) : (L.set i b).getD j 0 = if j = i then b else L.getD j 0 := by
  by_cases h : j = i
  · subst h; simp [List.getD, hi]
  · simp [List.getD, h, List.getElem?_set_ne (Ne.symm h)]
theorem stZ_turn {L : List Int} {z a b : Int} (ha : a ≠ 0) (y : Int) : stZ (turnZ L z a b) y = if y = z ∧ stZ L z = a then b else stZ L y := by
  unfold turnZ
  by_cases h : stZ L z = a
  · obtain ⟨h0, h1⟩ := stZ_in h ha
    simp only [h, if_true, and_true]
    by_cases hy : y = z
    · subst hy
      simp only [if_true]
      unfold stZ
      rw [if_pos h0, getD_set _ _ _ _ (by omega), if_pos rfl]
    · rw [if_neg hy]
      unfold stZ
      split
      · rw [getD_set _ _ _ _ (by omega), if_neg (by omega)]
      · rfl
  · simp [h]
theorem take_turn (L : List Int) : takeZ L = if firstN L 1 < L.length then turnZ L (firstN L 1) 1 2 else L := by
  unfold takeZ
  split
  · rename_i h
    unfold turnZ
    rw [stZ_nat, if_pos (first_at h)]
    simp
  · rfl

/-! ### The list of a state -/
theorem listTo_length (L : List Int) (a : Int) : ∀ k, (listTo L a k).length ≤ k
  | 0 => Nat.le_refl _
  | k + 1 => by
    have := listTo_length L a k
    unfold listTo
    split
    · simp; omega
    · omega
theorem listTo_step (L : List Int) (a : Int) (k : Nat) : listTo L a (k + 1) = if L.getD k 0 = a then listTo L a k ++ [(k : Int)] else listTo L a k := rfl
theorem listTo_mem {L : List Int} {a : Int} : ∀ {k : Nat} {x : Int}, x ∈ listTo L a k ↔ ∃ i, i < k ∧ L.getD i 0 = a ∧ x = i
  | 0, x => by simp [listTo]
  | k + 1, x => by
    have ih := listTo_mem (L := L) (a := a) (k := k) (x := x)
    unfold listTo
    split
    · rename_i h
      rw [List.mem_append, ih, List.mem_singleton]
      constructor
      · rintro (⟨i, h1, h2, h3⟩ | rfl)
        · exact ⟨i, by omega, h2, h3⟩
        · exact ⟨k, by omega, h, rfl⟩
      · rintro ⟨i, h1, h2, h3⟩
        rcases Nat.lt_or_ge i k with h4 | h4
        · exact .inl ⟨i, h4, h2, h3⟩
        · have : i = k := by omega
          subst this; exact .inr h3
    · rename_i h
      rw [ih]
      constructor
      · rintro ⟨i, h1, h2, h3⟩; exact ⟨i, by omega, h2, h3⟩
      · rintro ⟨i, h1, h2, h3⟩
        rcases Nat.lt_or_ge i k with h4 | h4
        · exact ⟨i, h4, h2, h3⟩
        · have : i = k := by omega
          subst this; exact absurd h2 h
/-- One state is another one: how many there are of each. -/
theorem cnt_front {L M : List Int} {a : Int} : ∀ {k : Nat}, (∀ i, i < k → L.getD i 0 = M.getD i 0) → listTo L a k = listTo M a k
  | 0, _ => rfl
  | k + 1, h => by
    unfold listTo
    rw [cnt_front (fun i hi => h i (by omega)), h k (by omega)]
theorem cnt_set {L : List Int} {a : Int} {z : Nat} {b : Int} (hz : z < L.length) : ∀ k, (listTo (L.set z b) a k).length + (if z < k ∧ L.getD z 0 = a then 1 else 0) = (listTo L a k).length + (if z < k ∧ b = a then 1 else 0)
  | 0 => by simp [listTo]
  | k + 1 => by
    have ih := cnt_set (a := a) (b := b) hz k
    have e := getD_set L z k b hz
    rw [listTo_step, listTo_step, e]
    rcases Nat.lt_trichotomy z k with h | h | h
    · have h' : z < k + 1 := by omega
      have hk : ¬ k = z := by omega
      simp only [h, h', hk, true_and, if_false] at ih ⊢
      by_cases h1 : L.getD k 0 = a
      · simp only [h1, if_true, List.length_append, List.length_singleton]; omega
      · simp only [h1, if_false]; exact ih
    · subst h
      have h' : z < z + 1 := by omega
      simp only [Nat.lt_irrefl, false_and, if_false, Nat.add_zero] at ih
      simp only [h', true_and, if_true]
      by_cases h1 : b = a
      · subst h1
        by_cases h2 : L.getD z 0 = b
        · simp only [h2, if_true, List.length_append, List.length_singleton]; omega
        · simp only [h2, if_true, if_false, List.length_append, List.length_singleton]; omega
      · by_cases h2 : L.getD z 0 = a
        · simp only [h1, h2, if_true, if_false, List.length_append, List.length_singleton]; omega
        · simp only [h1, h2, if_false]; omega
    · have h0 : ¬ z < k := by omega
      have h' : ¬ z < k + 1 := by omega
      have hk : ¬ k = z := by omega
      simp only [h0, h', hk, false_and, if_false, Nat.add_zero] at ih ⊢
      by_cases h1 : L.getD k 0 = a
      · simp only [h1, if_true, List.length_append, List.length_singleton]; omega
      · simp only [h1, if_false]; exact ih
theorem cnt_turn {L : List Int} {z : Nat} {c b : Int} (a : Int) (hz : z < L.length) (hc : L.getD z 0 = c) : cntZ (L.set z b) a + (if c = a then 1 else 0) = cntZ L a + (if b = a then 1 else 0) := by
  have := cnt_set (a := a) (b := b) hz L.length
  unfold cntZ listZ
  rw [List.length_set]
  simp only [hz, true_and, hc] at this
  exact this
/-- Each zone has one state. -/
theorem cnt_all {L : List Int} : ∀ k, k ≤ L.length → (∀ i, i < k → L.getD i 0 = 1 ∨ L.getD i 0 = 2 ∨ L.getD i 0 = 3 ∨ L.getD i 0 = 4) → (listTo L 1 k).length + (listTo L 2 k).length + (listTo L 3 k).length + (listTo L 4 k).length = k
  | 0, _, _ => rfl
  | k + 1, hk, h => by
    have ih := cnt_all k (by omega) (fun i hi => h i (by omega))
    rw [listTo_step, listTo_step, listTo_step, listTo_step]
    rcases h k (by omega) with e | e | e | e <;> rw [e] <;> simp <;> omega
theorem list_first {L : List Int} {a : Int} : ∀ {k : Nat}, firstN L a < k → k ≤ L.length → (listTo L a k).head? = some (firstN L a : Int)
  | 0, h, _ => by omega
  | k + 1, h, hk => by
    rw [listTo_step]
    rcases Nat.lt_or_ge (firstN L a) k with h1 | h1
    · have ih := list_first h1 (by omega)
      split
      · rw [List.head?_append, ih]; rfl
      · exact ih
    · have e : firstN L a = k := by omega
      have hn : listTo L a k = [] := by
        rw [List.eq_nil_iff_forall_not_mem]
        intro x hx
        obtain ⟨i, h2, h3, _⟩ := listTo_mem.1 hx
        exact first_not (by omega) h3
      have := first_at (L := L) (a := a) (by omega)
      rw [e] at this
      rw [if_pos this, hn, e]; rfl
theorem cnt_pos {L : List Int} {a : Int} : 0 < cntZ L a ↔ firstN L a < L.length := by
  constructor
  · intro h
    obtain ⟨x, hx⟩ := List.exists_mem_of_length_pos h
    obtain ⟨i, h1, h2, _⟩ := listTo_mem.1 hx
    rcases Nat.lt_or_ge i (firstN L a) with h3 | h3
    · exact absurd h2 (first_not h3)
    · omega
  · intro h
    have := list_first h (Nat.le_refl _)
    unfold cntZ listZ
    rcases e : listTo L a L.length with _ | ⟨x, xs⟩
    · rw [e] at this; cases this
    · simp
end Go.Proofs.Ytofccgcddomcfaa
