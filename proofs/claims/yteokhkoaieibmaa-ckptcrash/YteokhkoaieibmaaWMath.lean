/- Numbers as bytes, the highest first; what Pack and Take say, as functions on lists. -/
import Derived.Test.YteokhkoaieibmaaSpBase
namespace Go.Proofs.Yteokhkoaieibmaa
open Go.RowKit
set_option linter.unusedVariables false
set_option maxRecDepth 4000

/-- The lowest k bytes of a number, the highest first. -/
def bigI (k : Nat) (v : Int) : List Int := (List.range k).map fun j => v / 2 ^ (8 * (k - 1 - j)) % 256
theorem bigI_length (k : Nat) (v : Int) : (bigI k v).length = k := by simp [bigI]
theorem bigI_fits (k : Nat) (v : Int) : ∀ z ∈ bigI k v, Fits8 z := by
  intro z hz
  simp only [bigI, List.mem_map] at hz
  obtain ⟨j, _, rfl⟩ := hz
  unfold Fits8
  omega
/-- The number whose bytes these are. -/
def numI (bs : List Int) : Int := bs.foldl (fun n x => n * 256 + x) 0
theorem numI_snoc (bs : List Int) (x : Int) : numI (bs ++ [x]) = numI bs * 256 + x := by simp [numI]
theorem bigI_succ (k : Nat) (v : Int) : bigI (k + 1) v = bigI k (v / 256) ++ [v % 256] := by
  unfold bigI
  rw [List.range_succ, List.map_append]
  congr 1
  · apply List.map_congr_left
    intro j hj
    have hj' := List.mem_range.1 hj
    have e : 8 * (k + 1 - 1 - j) = 8 + 8 * (k - 1 - j) := by omega
    rw [e, Int.pow_add, Int.ediv_ediv_of_nonneg (by decide)]
    rfl
  · simp
theorem big_take (k : Nat) (v : Int) {j : Nat} (hj : j < k) : (bigI k v).take j ++ [v / 2 ^ (8 * (k - 1 - j)) % 256] = (bigI k v).take (j + 1) := by
  have hl : j < (bigI k v).length := by rw [bigI_length]; exact hj
  rw [List.take_succ_eq_append_getElem hl]
  simp [bigI]
/-- A number's bytes are the number, modulo what they hold. -/
theorem numI_big (k : Nat) : ∀ v : Int, 0 ≤ v → numI (bigI k v) = v % 256 ^ k := by
  induction k with
  | zero => intro v h0; rw [Int.pow_zero, Int.emod_one]; rfl
  | succ k ih =>
    intro v h0
    have e : (256 : Int) ^ (k + 1) = 256 * 256 ^ k := by rw [Int.pow_succ, Int.mul_comm]
    have hp : (0 : Int) < 256 ^ k := Int.pow_pos (by decide)
    rw [bigI_succ, numI_snoc, ih (v / 256) (by omega), e]
    generalize (256 : Int) ^ k = M at hp
    have e1 : v = 256 * (v / 256) + v % 256 := by omega
    have e2 := Int.mul_ediv_add_emod (v / 256) M
    have r0 := Int.emod_nonneg (v / 256) (Int.ne_of_gt hp)
    have r1 := Int.emod_lt_of_pos (v / 256) hp
    have e3 : v = (v / 256 % M * 256 + v % 256) + 256 * M * (v / 256 / M) := by
      have : 256 * M * (v / 256 / M) = 256 * (M * (v / 256 / M)) := Int.mul_assoc _ _ _
      omega
    conv => rhs; rw [e3]
    rw [Int.add_mul_emod_self_left]
    exact (Int.emod_eq_of_lt (by omega) (by omega)).symm
theorem numI_range : ∀ (n : Nat) (bs : List Int), bs.length = n → (∀ z ∈ bs, Fits8 z) → 0 ≤ numI bs ∧ numI bs < 256 ^ n := by
  intro n
  induction n with
  | zero => intro bs h _; obtain rfl := List.length_eq_zero_iff.1 h; exact ⟨Int.le_refl _, by decide⟩
  | succ n ih =>
    intro bs h hf
    obtain ⟨cs, x, rfl⟩ : ∃ cs x, bs = cs ++ [x] := by
      exact ⟨bs.dropLast, bs.getLast (by intro e; subst e; simp at h), (List.dropLast_concat_getLast _).symm⟩
    have hx := hf x (by simp)
    unfold Fits8 at hx
    obtain ⟨i0, i1⟩ := ih cs (by simpa using h) (fun z hz => hf z (by simp [hz]))
    have e : (256 : Int) ^ (n + 1) = 256 ^ n * 256 := Int.pow_succ _ _
    rw [numI_snoc]
    exact ⟨by omega, by rw [e]; omega⟩

/-- How many bytes a number of some width has. -/
def wd (x : Int) : Nat := if x = 1 then 1 else if x = 2 then 2 else if x = 4 then 4 else 8
theorem wd_le (x : Int) : wd x ≤ 8 := by unfold wd; split <;> (try split) <;> (try split) <;> omega
theorem wd_pos (x : Int) : 1 ≤ wd x := by unfold wd; split <;> (try split) <;> (try split) <;> omega
/-- How many bytes numbers of these widths have together. -/
def offL : List Int → Nat
  | [] => 0
  | x :: ws => wd x + offL ws
theorem offL_append (a b : List Int) : offL (a ++ b) = offL a + offL b := by
  induction a with
  | nil => simp [offL]
  | cons x a ih => simp [offL, ih]; omega
theorem offL_snoc (a : List Int) (x : Int) : offL (a ++ [x]) = offL a + wd x := by rw [offL_append]; simp [offL]
theorem offL_le (a : List Int) : offL a ≤ 8 * a.length := by
  induction a with
  | nil => simp [offL]
  | cons x a ih => have := wd_le x; simp [offL]; omega
theorem offL_take (ws : List Int) (i : Nat) : offL (ws.take i) ≤ offL ws := by
  have : offL ws = offL (ws.take i) + offL (ws.drop i) := by rw [← offL_append, List.take_append_drop]
  omega
theorem take_next (ws : List Int) {i : Nat} (h : i < ws.length) : ws.take (i + 1) = ws.take i ++ [ws.getD i 0] := by
  rw [List.take_succ_eq_append_getElem h]
  simp [List.getD, h]
/-- The numbers at the front. -/
def valL : List Int → List Int → List Int
  | _, [] => []
  | xs, x :: ws => numI (xs.take (wd x)) :: valL (xs.drop (wd x)) ws
theorem valL_append (a b : List Int) : ∀ xs, valL xs (a ++ b) = valL xs a ++ valL (xs.drop (offL a)) b := by
  induction a with
  | nil => intro xs; simp [valL, offL]
  | cons x a ih => intro xs; simp [valL, offL, ih, List.drop_drop]
theorem valL_snoc (a : List Int) (x : Int) (xs : List Int) : valL xs (a ++ [x]) = valL xs a ++ [numI ((xs.drop (offL a)).take (wd x))] := by rw [valL_append]; simp [valL]
theorem valL_length (a : List Int) : ∀ xs, (valL xs a).length = a.length := by
  induction a with
  | nil => intro xs; rfl
  | cons x a ih => intro xs; simp [valL, ih]
theorem numI_small {bs : List Int} {n : Nat} (hl : bs.length ≤ n) (hf : ∀ z ∈ bs, Fits8 z) : 0 ≤ numI bs ∧ numI bs < 256 ^ n := by
  obtain ⟨h0, h1⟩ := numI_range bs.length bs rfl hf
  refine ⟨h0, Int.lt_of_lt_of_le h1 ?_⟩
  exact_mod_cast Nat.pow_le_pow_right (n := 256) (by decide) hl
def FitsU (z : Int) : Prop := 0 ≤ z ∧ z < 18446744073709551616
theorem numI_u64 {bs : List Int} (hl : bs.length ≤ 8) (hf : ∀ z ∈ bs, Fits8 z) : FitsU (numI bs) := numI_small hl hf
theorem valL_fits (a : List Int) : ∀ xs, (∀ z ∈ xs, Fits8 z) → ∀ v ∈ valL xs a, FitsU v := by
  induction a with
  | nil => intro xs h v hv; simp [valL] at hv
  | cons x a ih =>
    intro xs h v hv
    simp only [valL, List.mem_cons] at hv
    rcases hv with rfl | hv
    · exact numI_u64 (by rw [List.length_take]; have := wd_le x; omega) (fun z hz => h z (List.mem_of_mem_take hz))
    · exact ih _ (fun z hz => h z (List.mem_of_mem_drop hz)) v hv
/-- Numbers as bytes. -/
def packL : List Int → List Int → List Int
  | x :: ws, v :: vs => bigI (wd x) v ++ packL ws vs
  | _, _ => []
theorem packL_nil (vs : List Int) : packL [] vs = [] := by cases vs <;> rfl
theorem packL_nil' (ws : List Int) : packL ws [] = [] := by cases ws <;> rfl
theorem packL_append : ∀ (a c b d : List Int), a.length = c.length → packL (a ++ b) (c ++ d) = packL a c ++ packL b d := by
  intro a
  induction a with
  | nil => intro c b d h; have : c = [] := List.length_eq_zero_iff.1 (by simpa using h.symm)
           subst this; simp [packL]
  | cons x a ih =>
    intro c b d h
    cases c with
    | nil => simp at h
    | cons v c => simp only [List.cons_append, packL]; rw [ih c b d (by simpa using h), List.append_assoc]
theorem packL_snoc (a c : List Int) (x v : Int) (h : a.length = c.length) : packL (a ++ [x]) (c ++ [v]) = packL a c ++ bigI (wd x) v := by
  rw [packL_append a c _ _ h]; simp [packL]
theorem packL_fits : ∀ (a c : List Int), ∀ z ∈ packL a c, Fits8 z := by
  intro a
  induction a with
  | nil => intro c z hz; rw [packL_nil] at hz; simp at hz
  | cons x a ih =>
    intro c z hz
    cases c with
    | nil => simp [packL] at hz
    | cons v c =>
      simp only [packL, List.mem_append] at hz
      rcases hz with hz | hz
      · exact bigI_fits _ _ z hz
      · exact ih c z hz
theorem packL_length : ∀ (a c : List Int), a.length ≤ c.length → (packL a c).length = offL a := by
  intro a
  induction a with
  | nil => intro c h; rw [packL_nil]; rfl
  | cons x a ih =>
    intro c h
    cases c with
    | nil => simp at h
    | cons v c => simp only [packL, offL, List.length_append, bigI_length]; rw [ih c (by simpa using h)]
/-- Only what both lists have counts. -/
theorem packL_take : ∀ (a c : List Int) (n : Nat), n = min a.length c.length → packL (a.take n) (c.take n) = packL a c := by
  intro a
  induction a with
  | nil => intro c n h; simp [packL_nil]
  | cons x a ih =>
    intro c n h
    cases c with
    | nil => simp [packL_nil', packL]
    | cons v c =>
      obtain ⟨m, rfl⟩ : ∃ m, n = m + 1 := ⟨n - 1, by simp at h; omega⟩
      simp only [List.take_succ_cons, packL]
      rw [ih c m (by simp at h; omega)]
/-- What is packed is taken, modulo what its width holds. -/
def modL : List Int → List Int → List Int
  | x :: ws, v :: vs => v % 256 ^ wd x :: modL ws vs
  | _, _ => []
theorem val_pack : ∀ (a c more : List Int), a.length ≤ c.length → (∀ v ∈ c, FitsU v) → valL (packL a c ++ more) a = modL a c := by
  intro a
  induction a with
  | nil => intro c more h hf; cases c <;> rfl
  | cons x a ih =>
    intro c more h hf
    cases c with
    | nil => simp at h
    | cons v c =>
      simp only [packL, valL, modL]
      rw [List.append_assoc, List.take_left' (bigI_length _ _), List.drop_left' (bigI_length _ _), numI_big _ _ (hf v (by simp)).1, ih c more (by simpa using h) (fun z hz => hf z (by simp [hz]))]
theorem drop_pack (a c more : List Int) (h : a.length ≤ c.length) : (packL a c ++ more).drop (offL a) = more := by
  rw [List.drop_left' (packL_length a c h)]
theorem modL_at : ∀ (a c : List Int) (i : Nat), i < a.length → a.length ≤ c.length → (modL a c).getD i 0 = c.getD i 0 % 256 ^ wd (a.getD i 0) := by
  intro a
  induction a with
  | nil => intro c i h; simp at h
  | cons x a ih =>
    intro c i h hl
    cases c with
    | nil => simp at hl
    | cons v c =>
      cases i with
      | zero => simp [modL]
      | succ i => simpa [modL] using ih c i (by simpa using h) (by simpa using hl)
end Go.Proofs.Yteokhkoaieibmaa
