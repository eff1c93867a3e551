/- What greet tells, as functions on lists of bytes: flags, options, what is asked. -/
import Derived.Test.YtkegpgmmlmineaaWOwnT
namespace Go.Proofs.Ytkegpgmmlmineaa
open Go.RowKit
set_option linter.unusedVariables false
set_option maxRecDepth 4000

/-- Widths that there are. -/
def Sane (ws : List Int) : Prop := ∀ x ∈ ws, (wd x : Int) = x
theorem sane_at {ws : List Int} (h : Sane ws) {j : Nat} (hj : j < ws.length) : (wd (ws.getD j 0) : Int) = ws.getD j 0 := by
  have : ws.getD j 0 = ws[j] := by simp [List.getD, hj]
  rw [this]; exact h _ (List.getElem_mem hj)
theorem valL_take (ws : List Int) : ∀ xs, valL (xs.take (offL ws)) ws = valL xs ws := by
  induction ws with
  | nil => intro xs; rfl
  | cons x ws ih =>
    intro xs
    simp only [valL, offL]
    rw [List.take_take, Nat.min_eq_left (Nat.le_add_right _ _), List.drop_take, Nat.add_sub_cancel_left, ih]
/-- Only the front counts for the numbers at the front. -/
theorem takeV_take (xs ws : List Int) : takeV (xs.take (offL ws)) ws = takeV xs ws := by
  unfold takeV
  by_cases h : offL ws ≤ xs.length
  · rw [if_pos h, if_pos (by rw [List.length_take]; omega), valL_take]
  · rw [if_neg h, if_neg (by rw [List.length_take]; omega)]
theorem front_enough (xs ws : List Int) : (offL ws ≤ (xs.take (offL ws)).length) = (offL ws ≤ xs.length) := by
  rw [List.length_take]; apply propext; omega

/-- Flags. -/
def fN (xs : List Int) : Int := numI (xs.take 4)
def flagsE (xs : List Int) : Int := if xs.length < 4 then 70 else if fN xs = 1 ∨ fN xs = 3 then 0 else 72
def flagsB (xs : List Int) : Bool := decide (4 ≤ xs.length ∧ fN xs = 3)
def flagsC (xs : List Int) : Int := if flagsE xs = 0 then 4 else 0
theorem take4 (xs : List Int) (h : 4 ≤ xs.length) : takeV xs [4] = [fN xs] := by
  unfold takeV
  rw [if_pos (by simpa [offL, wd] using h)]
  simp [valL, wd, fN]
theorem numI_take {xs : List Int} (h : ∀ z ∈ xs, Fits8 z) (i n : Nat) : 0 ≤ numI ((xs.drop i).take n) ∧ numI ((xs.drop i).take n) < 256 ^ n :=
  numI_small (by rw [List.length_take]; omega) (fun z hz => h z (List.mem_of_mem_drop (List.mem_of_mem_take hz)))

/-- An option. -/
def have8 : Int := 5280542401877725268
def nM (xs : List Int) : Int := numI (xs.take 8)
def nK (xs : List Int) : Int := numI ((xs.drop 8).take 4)
def nL (xs : List Int) : Int := numI ((xs.drop 12).take 4)
def nextE (xs : List Int) : Int := if xs.length < 16 then 70 else if nM xs ≠ have8 then 71 else if 1024 < nL xs then 73 else if (xs.length : Int) < 16 + nL xs then 70 else 0
def nextK (xs : List Int) : Int := if nextE xs = 0 then nK xs else 0
def nextD (xs : List Int) : List Int := if nextE xs = 0 then (xs.drop 16).take (nL xs).toNat else []
def nextC (xs : List Int) : Int := if nextE xs = 0 then 16 + nL xs else 0
theorem take844 (xs : List Int) (h : 16 ≤ xs.length) : takeV xs [8, 4, 4] = [nM xs, nK xs, nL xs] := by
  unfold takeV
  rw [if_pos (by simpa [offL, wd] using h)]
  simp [valL, wd, nM, nK, nL, List.drop_drop]
theorem rest844 (xs : List Int) (h : 16 ≤ xs.length) : takeR xs [8, 4, 4] = xs.drop 16 := by
  unfold takeR
  rw [if_pos (by simpa [offL, wd] using h)]
  simp [offL, wd]
theorem nextD_fits {xs : List Int} (h : ∀ z ∈ xs, Fits8 z) : ∀ z ∈ nextD xs, Fits8 z := by
  unfold nextD
  split
  · exact fun z hz => h z (List.mem_of_mem_drop (List.mem_of_mem_take hz))
  · simp
theorem nextD_len (xs : List Int) : (nextD xs).length ≤ xs.length := by
  unfold nextD
  split
  · rw [List.length_take, List.length_drop]; omega
  · simp
theorem nextE_is (xs : List Int) : nextE xs = 70 ∨ nextE xs = 71 ∨ nextE xs = 73 ∨ nextE xs = 0 := by
  unfold nextE
  split
  · exact .inl rfl
  · split
    · exact .inr (.inl rfl)
    · split
      · exact .inr (.inr (.inl rfl))
      · split
        · exact .inl rfl
        · exact .inr (.inr (.inr rfl))

/-- What is asked. -/
def aN (xs : List Int) : Int := numI (xs.take 4)
/-- What stands behind the name. -/
def aT (xs : List Int) : List Int := xs.drop (4 + (aN xs).toNat)
def aK (xs : List Int) : Int := numI ((aT xs).take 2)
def aR (xs : List Int) : List Int := (aT xs).drop 2
def AskOk (xs : List Int) : Prop := 4 ≤ xs.length ∧ aN xs ≤ 255 ∧ aN xs ≤ ((xs.length - 4 : Nat) : Int) ∧ 2 ≤ (aT xs).length ∧ 2 * aK xs = (((aR xs).length : Nat) : Int)
instance (xs : List Int) : Decidable (AskOk xs) := by unfold AskOk; infer_instance
def askE (xs : List Int) : Int := if AskOk xs then 0 else 74
def askS (xs : List Int) : List Int := if AskOk xs then (xs.drop 4).take (aN xs).toNat else []
/-- The numbers of two bytes that bytes are. -/
def pairs (ys : List Int) : List Int := valL ys (List.replicate (ys.length / 2) 2)
def askL (xs : List Int) : List Int := if AskOk xs then pairs (aR xs) else []
theorem offL_rep (n : Nat) : offL (List.replicate n 2) = 2 * n := by
  induction n with
  | zero => rfl
  | succ n ih => rw [List.replicate_succ]; simp only [offL, ih]; simp [wd]; omega
theorem pairs_length (ys : List Int) : (pairs ys).length = ys.length / 2 := by unfold pairs; rw [valL_length, List.length_replicate]
theorem pairs_take (ys : List Int) : takeV ys (List.replicate (ys.length / 2) 2) = pairs ys := by
  unfold takeV
  rw [if_pos (by rw [offL_rep]; omega)]
  rfl
theorem pairs_next (ys : List Int) (n : Nat) (h : 2 * n + 1 < ys.length) : valL ys (List.replicate (n + 1) 2) = valL ys (List.replicate n 2) ++ [ys.getD (2 * n) 0 * 256 + ys.getD (2 * n + 1) 0] := by
  rw [List.replicate_succ', valL_snoc, offL_rep]
  have e : (ys.drop (2 * n)).take (wd 2) = [ys.getD (2 * n) 0, ys.getD (2 * n + 1) 0] := by
    have h1 : 2 * n < ys.length := by omega
    have e2 : wd 2 = 2 := rfl
    rw [e2, List.drop_eq_getElem_cons h1, List.drop_eq_getElem_cons h, List.take_succ_cons, List.take_succ_cons, List.take_zero]
    simp [List.getD, h1, h]
  rw [e]
  simp [numI]
def Fits16 (z : Int) : Prop := 0 ≤ z ∧ z < 65536
theorem valL_fits16 (n : Nat) : ∀ ys : List Int, (∀ z ∈ ys, Fits8 z) → ∀ v ∈ valL ys (List.replicate n 2), Fits16 v := by
  induction n with
  | zero => intro ys h v hv; simp [valL] at hv
  | succ n ih =>
    intro ys h v hv
    rw [List.replicate_succ] at hv
    simp only [valL, List.mem_cons] at hv
    rcases hv with rfl | hv
    · have := numI_small (n := 2) (bs := ys.take (wd 2)) (by rw [List.length_take]; simp [wd]; omega) (fun z hz => h z (List.mem_of_mem_take hz))
      exact this
    · exact ih _ (fun z hz => h z (List.mem_of_mem_drop hz)) v hv
theorem askL_fits {xs : List Int} (h : ∀ z ∈ xs, Fits8 z) : ∀ v ∈ askL xs, Fits16 v := by
  unfold askL
  split
  · exact valL_fits16 _ _ (fun z hz => h z (List.mem_of_mem_drop (List.mem_of_mem_drop hz)))
  · simp
theorem askL_len (xs : List Int) : (askL xs).length ≤ xs.length := by
  unfold askL
  split
  · rw [pairs_length]; unfold aR aT; rw [List.length_drop, List.length_drop]; omega
  · simp
theorem wf16 {z : Int} (h : Fits16 z) : (Lit.int .u16 z).wf = true := by
  unfold Fits16 at h
  simp [Lit.wf, IntKind.min, IntKind.max, IntKind.signed, IntKind.bits]
  omega
end Go.Proofs.Ytkegpgmmlmineaa
