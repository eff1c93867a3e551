/- Letters and digits for bits: plain mathematics, no Go text in sight. -/
import Derived.Test.YtpliokkmiijieaaDoorSpBase
namespace Go.Proofs.YtpliokkmiijieaaDoor
set_option linter.unusedVariables false
set_option maxRecDepth 4000

/-! ### Numbers that are made of bits -/
/-- The number of the n bits from a on, the highest first. -/
def sumB (f : Nat → Int) (a : Nat) : Nat → Int
  | 0 => 0
  | n + 1 => 2 * sumB f a n + f (a + n)
def Bit (f : Nat → Int) : Prop := ∀ k, f k = 0 ∨ f k = 1
theorem p2_pos (n : Nat) : (0 : Int) < 2 ^ n := Int.pow_pos (by decide)
theorem p2_succ (n : Nat) : (2 : Int) ^ (n + 1) = 2 * 2 ^ n := by rw [Int.pow_succ, Int.mul_comm]
theorem sumB_nonneg {f : Nat → Int} (hf : Bit f) (a n : Nat) : 0 ≤ sumB f a n := by
  induction n with
  | zero => exact Int.le_refl _
  | succ n ih => rw [sumB]; have := hf (a + n); omega
theorem sumB_lt {f : Nat → Int} (hf : Bit f) (a n : Nat) : sumB f a n < 2 ^ n := by
  induction n with
  | zero => rw [sumB]; decide
  | succ n ih => rw [sumB, p2_succ]; have := hf (a + n); omega
theorem sumB_add (f : Nat → Int) (a m n : Nat) : sumB f a (m + n) = sumB f a m * 2 ^ n + sumB f (a + m) n := by
  induction n with
  | zero => simp [sumB]
  | succ n ih =>
    rw [← Nat.add_assoc, sumB, ih, sumB, p2_succ, Nat.add_assoc a m n]
    have : sumB f a m * (2 * 2 ^ n) = 2 * (sumB f a m * 2 ^ n) := by rw [Int.mul_left_comm]
    omega
theorem sumB_div {f : Nat → Int} (hf : Bit f) (a m n : Nat) : sumB f a (m + n) / 2 ^ n = sumB f a m := by
  rw [sumB_add, Int.add_comm, Int.add_mul_ediv_right _ _ (Int.ne_of_gt (p2_pos n)), Int.ediv_eq_zero_of_lt (sumB_nonneg hf _ _) (sumB_lt hf _ _), Int.zero_add]
theorem sumB_mod {f : Nat → Int} (hf : Bit f) (a m n : Nat) : sumB f a (m + n) % 2 ^ n = sumB f (a + m) n := by
  rw [sumB_add, Int.add_comm, Int.add_mul_emod_self_right, Int.emod_eq_of_lt (sumB_nonneg hf _ _) (sumB_lt hf _ _)]
theorem sumB_congr {f g : Nat → Int} (a : Nat) : ∀ (n : Nat), (∀ k, a ≤ k → k < a + n → f k = g k) → sumB f a n = sumB g a n
  | 0, _ => rfl
  | n + 1, h => by rw [sumB, sumB, sumB_congr a n (fun k h1 h2 => h k h1 (by omega)), h (a + n) (by omega) (by omega)]
theorem sumB_zero {f : Nat → Int} (a : Nat) : ∀ (n : Nat), (∀ k, a ≤ k → k < a + n → f k = 0) → sumB f a n = 0
  | 0, _ => rfl
  | n + 1, h => by rw [sumB, sumB_zero a n (fun k h1 h2 => h k h1 (by omega)), h (a + n) (by omega) (by omega)]; rfl
theorem sumB_bit {f : Nat → Int} (hf : Bit f) (a n t : Nat) (ht : t < n) : sumB f a n / 2 ^ (n - 1 - t) % 2 = f (a + t) := by
  have e : n = (t + 1) + (n - 1 - t) := by omega
  have h := sumB_div hf a (t + 1) (n - 1 - t)
  rw [← e] at h
  rw [h, sumB]
  have := hf (a + t)
  omega
theorem sumB_eq_zero {f : Nat → Int} (hf : Bit f) (a n : Nat) (h : sumB f a n = 0) : ∀ t, t < n → f (a + t) = 0 := by
  intro t ht
  have := sumB_bit hf a n t ht
  rw [h, Int.zero_ediv] at this
  omega

/-! ### The bits of a list of numbers of w bits each -/
def bitOf (w : Nat) (xs : List Int) (k : Nat) : Int := xs.getD (k / w) 0 / 2 ^ (w - 1 - k % w) % 2
theorem bitOf_bit (w : Nat) (xs : List Int) : Bit (bitOf w xs) := fun k => by unfold bitOf; omega
def Fit (w : Nat) (xs : List Int) : Prop := ∀ z ∈ xs, 0 ≤ z ∧ z < 2 ^ w
theorem Fit.at {w : Nat} {xs : List Int} (h : Fit w xs) (i : Nat) : 0 ≤ xs.getD i 0 ∧ xs.getD i 0 < 2 ^ w := by
  by_cases hi : i < xs.length
  · have : xs.getD i 0 = xs[i] := by simp [List.getD, hi]
    rw [this]; exact h _ (List.getElem_mem hi)
  · have : xs.getD i 0 = 0 := by simp [List.getD, List.getElem?_eq_none (by omega : xs.length ≤ i)]
    rw [this]; exact ⟨Int.le_refl _, p2_pos w⟩
theorem bitOf_at {w : Nat} (hw : 0 < w) (xs : List Int) (j t : Nat) (ht : t < w) : bitOf w xs (w * j + t) = xs.getD j 0 / 2 ^ (w - 1 - t) % 2 := by
  unfold bitOf
  rw [Nat.mul_add_div hw, Nat.div_eq_of_lt ht, Nat.add_zero, Nat.mul_add_mod, Nat.mod_eq_of_lt ht]
theorem sumB_part {w : Nat} (hw : 0 < w) {xs : List Int} (h : Fit w xs) (j : Nat) : ∀ n, n ≤ w → sumB (bitOf w xs) (w * j) n = xs.getD j 0 / 2 ^ (w - n)
  | 0, _ => by rw [sumB, Nat.sub_zero, Int.ediv_eq_zero_of_lt (h.at j).1 (h.at j).2]
  | n + 1, hn => by
    rw [sumB, sumB_part hw h j n (by omega), bitOf_at hw xs j n (by omega)]
    have e : w - n = (w - (n + 1)) + 1 := by omega
    have e2 : w - 1 - n = w - (n + 1) := by omega
    rw [e, e2, Int.pow_succ, ← Int.ediv_ediv_of_nonneg (Int.le_of_lt (p2_pos _))]
    omega
theorem sumB_whole {w : Nat} (hw : 0 < w) {xs : List Int} (h : Fit w xs) (j : Nat) : sumB (bitOf w xs) (w * j) w = xs.getD j 0 := by
  rw [sumB_part hw h j w (Nat.le_refl _), Nat.sub_self, Int.pow_zero, Int.ediv_one]
theorem bitOf_out {w : Nat} (hw : 0 < w) (xs : List Int) (k : Nat) (hk : w * xs.length ≤ k) : bitOf w xs k = 0 := by
  unfold bitOf
  have : xs.length ≤ k / w := by rw [Nat.le_div_iff_mul_le hw, Nat.mul_comm]; exact hk
  have e : xs.getD (k / w) 0 = 0 := by simp [List.getD, List.getElem?_eq_none this]
  rw [e, Int.zero_ediv]; rfl
/-- Two lists with the same bits are one. -/
theorem same_bits {w : Nat} (hw : 0 < w) {xs ys : List Int} (hx : Fit w xs) (hy : Fit w ys) (hl : xs.length = ys.length) (h : ∀ k, k < w * xs.length → bitOf w xs k = bitOf w ys k) : xs = ys := by
  apply List.ext_getElem hl
  intro i h1 h2
  have e := sumB_congr (f := bitOf w xs) (g := bitOf w ys) (w * i) w (fun k _ hk => h k (by
    have : w * (i + 1) ≤ w * xs.length := Nat.mul_le_mul_left w h1
    rw [Nat.mul_add, Nat.mul_one] at this
    omega))
  rw [sumB_whole hw hx, sumB_whole hw hy] at e
  simpa [List.getD, h1, h2] using e

/-! ### Signs -/
def signI (v : Int) : Int := if v < 26 then 97 + v else 24 + v
def IsSign (c : Int) : Prop := (97 ≤ c ∧ c ≤ 122) ∨ (50 ≤ c ∧ c ≤ 55)
instance (c : Int) : Decidable (IsSign c) := by unfold IsSign; exact inferInstance
def valI (c : Int) : Int := if 97 ≤ c then c - 97 else c - 24
theorem sign_is {v : Int} (h0 : 0 ≤ v) (h1 : v < 32) : IsSign (signI v) := by unfold IsSign signI; split <;> omega
theorem val_sign {v : Int} (h0 : 0 ≤ v) (h1 : v < 32) : valI (signI v) = v := by unfold valI signI; split <;> split <;> omega
theorem sign_val {c : Int} (h : IsSign c) : signI (valI c) = c := by unfold IsSign at h; unfold valI signI; split <;> split <;> omega
theorem val_fits {c : Int} (h : IsSign c) : 0 ≤ valI c ∧ valI c < 32 := by unfold IsSign at h; unfold valI; split <;> omega

/-! ### Writing -/
def scN (n : Nat) : Nat := (8 * n + 4) / 5
/-- The five bits of each sign. -/
def fives (xs : List Int) : List Int := (List.range (scN xs.length)).map fun i => sumB (bitOf 8 xs) (5 * i) 5
def wrI (xs : List Int) : List Int := (fives xs).map signI
theorem fives_length (xs : List Int) : (fives xs).length = scN xs.length := by simp [fives]
theorem wrI_length (xs : List Int) : (wrI xs).length = scN xs.length := by simp [wrI, fives_length]
theorem fives_fit (xs : List Int) : Fit 5 (fives xs) := by
  intro z hz
  simp only [fives, List.mem_map] at hz
  obtain ⟨i, _, rfl⟩ := hz
  exact ⟨sumB_nonneg (bitOf_bit _ _) _ _, sumB_lt (bitOf_bit _ _) _ _⟩
theorem fives_at (xs : List Int) (i : Nat) (hi : i < scN xs.length) : (fives xs).getD i 0 = sumB (bitOf 8 xs) (5 * i) 5 := by simp [fives, List.getD, hi]
theorem wrI_at (xs : List Int) (i : Nat) (hi : i < scN xs.length) : (wrI xs).getD i 0 = signI (sumB (bitOf 8 xs) (5 * i) 5) := by simp [wrI, fives, List.getD, hi]
theorem fives_bit (xs : List Int) (k : Nat) : bitOf 5 (fives xs) k = bitOf 8 xs k := by
  by_cases hk : k < 5 * scN xs.length
  · have e : k = 5 * (k / 5) + k % 5 := by omega
    have hi : k / 5 < scN xs.length := by omega
    have h := bitOf_at (by decide : 0 < 5) (fives xs) (k / 5) (k % 5) (by omega)
    rw [← e, fives_at xs _ hi, sumB_bit (bitOf_bit _ _) _ _ _ (by omega : k % 5 < 5), ← e] at h
    exact h
  · rw [bitOf_out (by decide) _ _ (by rw [fives_length]; omega), bitOf_out (by decide) _ _ (by unfold scN at hk; omega)]
theorem wrI_fits (xs : List Int) : ∀ z ∈ wrI xs, Fits8 z := by
  intro z hz
  simp only [wrI, List.mem_map] at hz
  obtain ⟨v, hv, rfl⟩ := hz
  have := fives_fit xs v hv
  unfold Fits8 signI
  split <;> omega
theorem wrI_sign (xs : List Int) : ∀ z ∈ wrI xs, IsSign z := by
  intro z hz
  simp only [wrI, List.mem_map] at hz
  obtain ⟨v, hv, rfl⟩ := hz
  have := fives_fit xs v hv
  exact sign_is this.1 (by omega)
theorem wrI_vals (xs : List Int) : (wrI xs).map valI = fives xs := by
  unfold wrI
  rw [List.map_map]
  conv => rhs; rw [← List.map_id (fives xs)]
  apply List.map_congr_left
  intro v hv
  have := fives_fit xs v hv
  exact val_sign this.1 (by omega)
/-- The program's way to five bits out of two bytes. -/
theorem two_bytes {xs : List Int} (h : Fit 8 xs) (n : Nat) : (xs.getD (n / 8) 0 * 256 + xs.getD (n / 8 + 1) 0) / 2 ^ (11 - n % 8) % 32 = sumB (bitOf 8 xs) n 5 := by
  have e16 : xs.getD (n / 8) 0 * 256 + xs.getD (n / 8 + 1) 0 = sumB (bitOf 8 xs) (8 * (n / 8)) (8 + 8) := by
    rw [sumB_add, sumB_whole (by decide) h, show 8 * (n / 8) + 8 = 8 * (n / 8 + 1) by omega, sumB_whole (by decide) h]
    rfl
  have e : (8 : Nat) + 8 = (n % 8 + 5) + (11 - n % 8) := by omega
  rw [e16, e, sumB_div (bitOf_bit _ _)]
  have := sumB_mod (bitOf_bit 8 xs) (8 * (n / 8)) (n % 8) 5
  rw [show (2 : Int) ^ 5 = 32 from rfl, show 8 * (n / 8) + n % 8 = n by omega] at this
  exact this

/-! ### Reading -/
structure Rd where
  out : List Int
  held : Int
  bits : Nat
def rd0 : Rd := ⟨[], 0, 0⟩
def rdStep (s : Rd) (v : Int) : Rd :=
  if 3 ≤ s.bits then ⟨s.out ++ [(s.held * 32 + v) / 2 ^ (s.bits - 3)], (s.held * 32 + v) % 2 ^ (s.bits - 3), s.bits - 3⟩ else ⟨s.out, s.held * 32 + v, s.bits + 5⟩
def rdN (vs : List Int) : Rd := vs.foldl rdStep rd0
theorem rdN_snoc (vs : List Int) (v : Int) : rdN (vs ++ [v]) = rdStep (rdN vs) v := by simp [rdN]
def RdOk (f : Nat → Int) (i : Nat) (s : Rd) : Prop :=
  8 * s.out.length + s.bits = 5 * i ∧ s.bits < 8 ∧ s.held = sumB f (8 * s.out.length) s.bits ∧ ∀ j, j < s.out.length → s.out.getD j 0 = sumB f (8 * j) 8
theorem rdStep_ok {f : Nat → Int} (hf : Bit f) {i : Nat} {s : Rd} (h : RdOk f i s) {v : Int} (hv : v = sumB f (5 * i) 5) : RdOk f (i + 1) (rdStep s v) := by
  obtain ⟨h1, h2, h3, h4⟩ := h
  have e : s.held * 32 + v = sumB f (8 * s.out.length) (s.bits + 5) := by
    rw [sumB_add, ← h3, hv, ← h1]; rfl
  unfold rdStep
  by_cases hb : 3 ≤ s.bits
  · have e8 : s.bits + 5 = 8 + (s.bits - 3) := by omega
    rw [if_pos hb, e, e8, sumB_div hf, sumB_mod hf]
    refine ⟨by simp; omega, by show s.bits - 3 < 8; omega, by simp [Nat.mul_add], fun j hj => ?_⟩
    by_cases hj' : j < s.out.length
    · have := h4 j hj'
      simp [List.getD, List.getElem?_append_left hj'] at this ⊢
      simpa [hj'] using this
    · have : j = s.out.length := by simp at hj; omega
      subst this
      simp [List.getD]
  · rw [if_neg hb, e]
    exact ⟨by show 8 * s.out.length + (s.bits + 5) = _; omega, by show s.bits + 5 < 8; omega, rfl, h4⟩
theorem rdN_ok {vs : List Int} (h : Fit 5 vs) : ∀ i, i ≤ vs.length → RdOk (bitOf 5 vs) i (rdN (vs.take i))
  | 0, _ => ⟨rfl, by show (0 : Nat) < 8; omega, rfl, fun j hj => absurd hj (by simp [rdN, rd0])⟩
  | i + 1, hi => by
    rw [List.take_succ_eq_append_getElem hi, rdN_snoc]
    refine rdStep_ok (bitOf_bit _ _) (rdN_ok h i (by omega)) ?_
    rw [sumB_whole (by decide) h]
    have hi' : i < vs.length := hi
    simp [List.getD, hi']
theorem rdN_all {vs : List Int} (h : Fit 5 vs) : RdOk (bitOf 5 vs) vs.length (rdN vs) := by
  have := rdN_ok h vs.length (Nat.le_refl _)
  rwa [List.take_length] at this
theorem RdOk.fit {f : Nat → Int} (hf : Bit f) {i : Nat} {s : Rd} (h : RdOk f i s) : Fit 8 s.out := by
  intro z hz
  obtain ⟨j, hj, rfl⟩ := List.getElem_of_mem hz
  have := h.2.2.2 j hj
  have e : s.out.getD j 0 = s.out[j] := by simp [List.getD, hj]
  rw [← e, this]
  exact ⟨sumB_nonneg hf _ _, sumB_lt hf _ _⟩
theorem RdOk.bit {f : Nat → Int} (hf : Bit f) {i : Nat} {s : Rd} (h : RdOk f i s) (k : Nat) (hk : k < 8 * s.out.length) : bitOf 8 s.out k = f k := by
  have hj : k / 8 < s.out.length := by omega
  have e : k = 8 * (k / 8) + k % 8 := by omega
  have hb := bitOf_at (by decide : 0 < 8) s.out (k / 8) (k % 8) (by omega)
  rw [← e, h.2.2.2 _ hj, sumB_bit hf _ _ _ (by omega : k % 8 < 8), ← e] at hb
  exact hb
def RdGood (s : Rd) : Prop := s.bits < 5 ∧ s.held = 0
instance (s : Rd) : Decidable (RdGood s) := by unfold RdGood; exact inferInstance
/-- What is read is written so. -/
theorem read_written {vs : List Int} (h : Fit 5 vs) (hg : RdGood (rdN vs)) : fives (rdN vs).out = vs := by
  have ok := rdN_all h
  have hlen : scN (rdN vs).out.length = vs.length := by unfold scN; have := ok.1; have := hg.1; omega
  refine same_bits (by decide : 0 < 5) (fives_fit _) h (by rw [fives_length, hlen]) fun k hk => ?_
  rw [fives_length, hlen] at hk
  rw [fives_bit]
  by_cases hk8 : k < 8 * (rdN vs).out.length
  · exact ok.bit (bitOf_bit _ _) k hk8
  · rw [bitOf_out (by decide) _ _ (by omega)]
    have hz := sumB_eq_zero (bitOf_bit 5 vs) _ _ (ok.2.2.1.symm.trans hg.2) (k - 8 * (rdN vs).out.length) (by have := ok.1; omega)
    rw [show 8 * (rdN vs).out.length + (k - 8 * (rdN vs).out.length) = k by omega] at hz
    exact hz.symm
/-- What is written is read. -/
theorem written_read {xs : List Int} (h : Fit 8 xs) : (rdN (fives xs)).out = xs ∧ RdGood (rdN (fives xs)) := by
  have ok := rdN_all (fives_fit xs)
  rw [fives_length] at ok
  have hlen : (rdN (fives xs)).out.length = xs.length ∧ (rdN (fives xs)).bits < 5 := by
    have h1 := ok.1
    have h2 := ok.2.1
    unfold scN at h1
    have a1 : (rdN (fives xs)).out.length < xs.length + 1 := by omega
    have a2 : xs.length < (rdN (fives xs)).out.length + 1 := by omega
    omega
  refine ⟨same_bits (by decide : 0 < 8) (ok.fit (bitOf_bit _ _)) h hlen.1 fun k hk => ?_, hlen.2, ?_⟩
  · rw [ok.bit (bitOf_bit _ _) k hk, fives_bit]
  · rw [ok.2.2.1]
    refine sumB_zero _ _ fun k h1 h2 => ?_
    rw [fives_bit, bitOf_out (by decide) _ _ (by omega)]
/-- Read, as the document has it: nothing, or the bytes. -/
theorem good_iff {vs : List Int} (h : Fit 5 vs) : RdGood (rdN vs) ↔ fives (rdN vs).out = vs := by
  refine ⟨read_written h, fun e => ?_⟩
  have := (written_read ((rdN_all h).fit (bitOf_bit _ _))).2
  rwa [e] at this

/-! ### Texts -/
def Signs (cs : List Int) : Prop := ∀ c ∈ cs, IsSign c
instance (cs : List Int) : Decidable (Signs cs) := by unfold Signs; exact inferInstance
theorem Signs.fit {cs : List Int} (h : Signs cs) : Fit 5 (cs.map valI) := by
  intro z hz
  simp only [List.mem_map] at hz
  obtain ⟨c, hc, rfl⟩ := hz
  exact val_fits (h c hc)
def rdI (cs : List Int) : Rd := rdN (cs.map valI)
def Reads (cs : List Int) : Prop := Signs cs ∧ RdGood (rdI cs)
instance (cs : List Int) : Decidable (Reads cs) := by unfold Reads; exact inferInstance
def readI (cs : List Int) : List Int := if Reads cs then (rdI cs).out else []
def readE (cs : List Int) : Int := if Reads cs then 0 else 40
theorem sign_vals {cs : List Int} (h : Signs cs) : (cs.map valI).map signI = cs := by
  rw [List.map_map]
  conv => rhs; rw [← List.map_id cs]
  apply List.map_congr_left
  intro c hc
  exact sign_val (h c hc)
theorem wr_reads {xs : List Int} (h : Fit 8 xs) : Reads (wrI xs) ∧ readI (wrI xs) = xs ∧ readE (wrI xs) = 0 := by
  have hr : Reads (wrI xs) := ⟨wrI_sign xs, by unfold rdI; rw [wrI_vals]; exact (written_read h).2⟩
  refine ⟨hr, ?_, ?_⟩
  · unfold readI; rw [if_pos hr]; unfold rdI; rw [wrI_vals]; exact (written_read h).1
  · unfold readE; rw [if_pos hr]
theorem reads_wr {cs : List Int} (h : Reads cs) : wrI (rdI cs).out = cs := by
  unfold wrI rdI
  rw [read_written h.1.fit h.2]
  exact sign_vals h.1
theorem reads_iff {cs : List Int} (h : Signs cs) : Reads cs ↔ wrI (rdI cs).out = cs := by
  refine ⟨reads_wr, fun e => ⟨h, ?_⟩⟩
  refine (good_iff h.fit).2 ?_
  have := congrArg (List.map valI) e
  rwa [wrI_vals] at this
theorem readI_fit (cs : List Int) : Fit 8 (readI cs) := by
  unfold readI
  split
  · rename_i h
    exact (rdN_all h.1.fit).fit (bitOf_bit _ _)
  · intro z hz; cases hz
theorem readI_length (cs : List Int) : (readI cs).length ≤ cs.length := by
  unfold readI
  split
  · rename_i h
    have := (rdN_all h.1.fit).1
    rw [List.length_map] at this
    unfold rdI
    omega
  · exact Nat.zero_le _
/-- Bytes behind others do not change the signs ahead. -/
theorem wr_front (xs ys : List Int) (i : Nat) (hi : i < 8 * xs.length / 5) : (wrI xs).getD i 0 = (wrI (xs ++ ys)).getD i 0 := by
  rw [wrI_at _ _ (by unfold scN; omega), wrI_at _ _ (by rw [List.length_append]; unfold scN; omega)]
  congr 1
  refine sumB_congr _ _ fun k h1 h2 => ?_
  unfold bitOf
  have : k / 8 < xs.length := by omega
  have e : (xs ++ ys).getD (k / 8) 0 = xs.getD (k / 8) 0 := by simp [List.getD, List.getElem?_append_left this]
  rw [e]
end Go.Proofs.YtpliokkmiijieaaDoor
