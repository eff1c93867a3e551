/- What is no number, put into a list: the best, and the mean, are the same; parts of a list of floats. -/
import Derived.Test.YtilhhgkplonipaaFOpen
import Derived.Deep.Cut
import Derived.Deep.Upon
namespace Go.Proofs.Ytilhhgkplonipaa
open Go.RowKit Ieee
set_option linter.unusedVariables false
set_option maxRecDepth 4000

/-- The front of a slice, as slicing leaves it, in whatever world. -/
theorem slice_front {t : TypeId} (ht : Try.prog.underlying t = some (.slice (Try.prog.elem t))) (hz : ∀ w : World, (sizeOf (Try.prog.elem t)).run Try.prog w = .ok 1 w) (a : Option Addr) (n c k : Nat) (hk : k ≤ c) (w : World) :
    (Instr.slice t (.slice a n c) none (some (.int .i64 (k : Int))) none).run Try.prog w = .ok (.slice a k c) w := by
  rw [run_slice_h (P := Try.prog) w t a n c ht .i64 k (by omega) (by omega), hz w]
  simp only [Result.andThen, Int.toNat_natCast]
  unfold sliced
  cases a with
  | none => simp
  | some x => simp [Addr.add]
theorem slice_back {t : TypeId} (ht : Try.prog.underlying t = some (.slice (Try.prog.elem t))) (hz : ∀ w : World, (sizeOf (Try.prog.elem t)).run Try.prog w = .ok 1 w) (a : Option Addr) (n c k : Nat) (hk : k ≤ n) (w : World) :
    (Instr.slice t (.slice a n c) (some (.int .i64 (k : Int))) none none).run Try.prog w = .ok (.slice (if c = k then a else a.map (·.add k)) (n - k) (c - k)) w := by
  rw [run_slice_l (P := Try.prog) w t a n c ht .i64 k (by omega) (by omega), hz w]
  simp only [Result.andThen, Int.toNat_natCast]
  unfold sliced
  rw [Nat.mul_one]
theorem Try.one_f64s : ∀ w : World, (sizeOf (Try.prog.elem 31)).run Try.prog w = .ok 1 w := fun _ => by kernel_rfl
theorem own_drawn {w w' : World} {base : Nat} {v : Value} {n : Nat} {vs : List Value} (h : w.ownsRow base 22 1 v n vs) (d : Drawn w w') : w'.ownsRow base 22 1 v n vs := by
  obtain ⟨k, rfl⟩ := d
  exact h
theorem back_nil {a : Option Addr} {n c t : Nat} (h : a = none → n = 0 ∧ c = 0) : (if c = t then a else a.map (·.add t)) = none → n - t = 0 ∧ c - t = 0 := by
  intro e
  have : a = none := by
    split at e
    · exact e
    · simpa using e
  obtain ⟨h1, h2⟩ := h this
  omega

theorem ins_at (zs : List Nat) (t x : Nat) (ht : t ≤ zs.length) (i : Nat) : (zs.take t ++ [x] ++ zs.drop t).getD i 0 = if i < t then zs.getD i 0 else if i = t then x else zs.getD (i - 1) 0 := by
  have lt : (zs.take t).length = t := by rw [List.length_take]; omega
  simp only [List.getD_eq_getElem?_getD]
  congr 1
  rw [List.append_assoc]
  by_cases a : i < t
  · rw [if_pos a, List.getElem?_append_left (by omega), List.getElem?_take_of_lt a]
  · rw [if_neg a, List.getElem?_append_right (by omega), lt]
    by_cases b : i = t
    · subst b
      simp
    · rw [if_neg b]
      obtain ⟨d, rfl⟩ : ∃ d, i = t + 1 + d := ⟨i - t - 1, by omega⟩
      rw [show t + 1 + d - t = d + 1 by omega, show t + 1 + d - 1 = t + d by omega]
      simp only [List.cons_append, List.nil_append, List.getElem?_cons_succ, List.getElem?_drop]
theorem best_ins {zs : List Nat} {n t x k : Nat} (hl : zs.length = n) (ht : t ≤ n) (hx : Nan x) (h : BestTo zs n (k : Int)) :
    BestTo (zs.take t ++ [x] ++ zs.drop t) (n + 1) ((if k < t then k else k + 1 : Nat) : Int) := by
  rcases h with ⟨e, _⟩ | ⟨k', e, hk, hn, h1, h2⟩
  · omega
  obtain rfl : k' = k := by omega
  have g := ins_at zs t x (by omega)
  have gk : (zs.take t ++ [x] ++ zs.drop t).getD (if k' < t then k' else k' + 1) 0 = zs.getD k' 0 := by
    rw [g]
    by_cases a : k' < t
    · rw [if_pos a, if_pos a]
    · rw [if_neg a, if_neg (by omega), if_neg (by omega)]; rfl
  refine .inr ⟨_, rfl, by split <;> omega, by rw [gk]; exact hn, fun i hi hin => ?_, fun i hi hin => ?_⟩
  · rw [gk]
    rw [g] at hin ⊢
    by_cases a : i < t
    · rw [if_pos a] at hin ⊢; exact h1 i (by omega) hin
    · rw [if_neg a] at hin ⊢
      by_cases b : i = t
      · rw [if_pos b] at hin; exact absurd hx hin
      · rw [if_neg b] at hin ⊢; exact h1 (i - 1) (by omega) hin
  · rw [gk]
    rw [g] at hin ⊢
    by_cases a : i < t
    · rw [if_pos a] at hin ⊢
      refine h2 i ?_ hin
      revert hi
      split <;> intro hi <;> omega
    · rw [if_neg a] at hin ⊢
      by_cases b : i = t
      · rw [if_pos b] at hin; exact absurd hx hin
      · rw [if_neg b] at hin ⊢
        refine h2 (i - 1) ?_ hin
        revert hi
        split <;> intro hi <;> omega
theorem mean_ins (zs : List Nat) (t x : Nat) (hx : Nan x) : meanC (zs.take t ++ [x] ++ zs.drop t) = meanC zs := by
  have : numsL (zs.take t ++ [x] ++ zs.drop t) = numsL zs := by
    unfold numsL
    rw [List.filter_append, List.filter_append]
    have e : List.filter (fun z => !decide (Nan z)) [x] = [] := by simp [hx]
    rw [e, List.append_nil, ← List.filter_append, List.take_append_drop]
  unfold meanC
  rw [this]
end Go.Proofs.Ytilhhgkplonipaa
