/- Kind, Order and what they call; the document's own; the worth of a zone. -/
import Derived.Test.YtilhhgkplonipaaFRun
namespace Go.Proofs.Ytilhhgkplonipaa
open Go.RowKit Ieee
set_option linter.unusedVariables false
set_option maxRecDepth 4000

theorem fmt64 : FloatKind.f64.format = double := rfl

/-- A number's kind. -/
def kindI (x : Nat) : Int := if Nan x then 1 else if rung x = IR then (if sgn x then 2 else 7) else if rung x = 0 then (if sgn x then 4 else 5) else if sgn x then 3 else 6
/-- How numbers stand to each other. -/
def ordI (x y : Nat) : Int := if Nan x then (if Nan y then 0 else -1) else if Nan y then 1 else if key x < key y then -1 else if key y < key x then 1 else 0

theorem neq_nan (x : Nat) : (FloatKind.f64.format.order x x != some .eq) = decide (Nan x) := by
  rw [fmt64]
  by_cases h : Nan x
  · rw [order_nan_left x x h, decide_eq_true h]; rfl
  · rw [order_self x h, decide_eq_false h]; rfl

theorem isNaN_of (x : Nat) (w : World) : Calls Try.prog 23 #[.float .f64 x] w fun e w' => e = .returned (.bool (decide (Nan x))) ∧ w' = w := by
  have h := neq_nan x
  go_enter Try.func23, Try.ntmps23
  go_wp2
  go_ret
  exact ⟨rfl, rfl⟩
theorem none_of (x : Nat) (w : World) : Calls Try.prog 27 #[.float .f64 x] w fun e w' => e = .returned (.bool (decide (Nan x))) ∧ w' = w := by
  have h := neq_nan x
  go_enter Try.func27, Try.ntmps27
  go_wp2
  go_ret
  exact ⟨rfl, rfl⟩
theorem cNaN_of (x : Nat) (w : World) : Calls Try.prog 32 #[.float .f64 x] w fun e w' => e = .returned (.bool (decide (Nan x))) ∧ w' = w := by
  have h := neq_nan x
  go_enter Try.func32, Try.ntmps32
  go_wp2
  go_ret
  exact ⟨rfl, rfl⟩

theorem xor_low (r : Nat) (h : r < 2 ^ 63) : r ^^^ 2 ^ 63 = 2 ^ 63 + r := by
  apply Nat.eq_of_testBit_eq
  intro i
  rw [Nat.testBit_xor, Nat.testBit_two_pow]
  rcases Nat.lt_trichotomy i 63 with a | a | a
  · rw [Nat.testBit_two_pow_add_gt a, decide_eq_false (by omega), Bool.xor_false]
  · subst a
    rw [Nat.testBit_two_pow_add_eq, Nat.testBit_lt_two_pow h]; rfl
  · have p : 2 ^ 64 ≤ 2 ^ i := Nat.pow_le_pow_right (by decide) a
    rw [Nat.testBit_lt_two_pow (by omega), Nat.testBit_lt_two_pow (by omega), decide_eq_false (by omega)]; rfl
theorem neg_word (s : Bool) (r : Nat) (h : r < 2 ^ 63) : Op.negFloat .f64 (double.word s r) = double.word (!s) r := by
  change double.word s r ^^^ 2 ^ 63 = _
  unfold Format.word
  rw [d_sw]
  cases s
  · exact xor_low r h
  · simp only [if_true, Bool.not_true, Bool.false_eq_true, if_false]
    rw [← xor_low r h, Nat.xor_assoc, Nat.xor_self, Nat.xor_zero]
theorem rung_lt (x : Nat) : rung x < 2 ^ 63 := Nat.mod_lt _ (by decide)
theorem neg_parts (x : Nat) (h : x < 2 ^ 64) : rung (Op.negFloat .f64 x) = rung x ∧ sgn (Op.negFloat .f64 x) = !sgn x := by
  have e : Op.negFloat .f64 x = double.word (!sgn x) (rung x) := by
    rw [← neg_word _ _ (rung_lt x), word_parts x h]
  rw [e]
  exact ⟨rung_word _ _ (rung_lt x), sgn_word _ _ (rung_lt x)⟩

theorem key_word_pos (r : Nat) (h : r < 2 ^ 63) : key r = val r := by
  have a : sgn r = false := by unfold sgn; rw [Nat.div_eq_of_lt h]; rfl
  have b : rung r = r := Nat.mod_eq_of_lt h
  unfold key sg
  rw [a, b]; rfl
theorem nan_pos (r : Nat) (h : r ≤ IR) : ¬ Nan r := by
  unfold Nan rung
  have := ir_lt
  rw [Nat.mod_eq_of_lt (by omega)]; omega

theorem order_zero (x : Nat) (hx : ¬ Nan x) : FloatKind.f64.format.order x 0 = some (if rung x = 0 then .eq else if sgn x then .lt else .gt) := by
  rw [fmt64, order_key x 0 hx (nan_pos 0 (by decide))]
  rw [key_word_pos 0 (by decide), val_zero]
  congr 1
  unfold key sg
  by_cases h : rung x = 0
  · rw [if_pos h, h, val_zero]
    cases sgn x <;> rfl
  · have v := val_pos h
    rw [if_neg h]
    cases sgn x
    · exact compare_gt.2 (by simp; omega)
    · exact compare_lt.2 (by simp; omega)
/-- Infinity with that sign? -/
def infB (s : Bool) (x : Nat) : Bool := decide (rung x = IR ∧ sgn x = s)
theorem order_max (x : Nat) (hx : ¬ Nan x) : (FloatKind.f64.format.order x 9218868437227405311 == some .gt) = infB false x := by
  rw [fmt64, order_key x _ hx (nan_pos _ (by decide)), key_word_pos 9218868437227405311 (by decide)]
  have m := val_lt_iff 9218868437227405311 (rung x)
  have n : ¬ IR < rung x := hx
  unfold infB
  by_cases h : rung x = IR ∧ sgn x = false
  · rw [decide_eq_true h]
    have : compare (key x) (val 9218868437227405311 : Int) = .gt := compare_gt.2 (by
      unfold key sg
      rw [h.2]
      have := m.2 (by rw [h.1]; decide)
      simp; omega)
    rw [this]; rfl
  · rw [decide_eq_false h]
    have : compare (key x) (val 9218868437227405311 : Int) ≠ .gt := fun g => by
      have g := compare_gt.1 g
      unfold key sg at g
      revert g
      cases hs : sgn x
      · intro g
        simp at g
        have := m.1 (by omega)
        have hi : rung x = IR := by unfold IR at *; omega
        exact h ⟨hi, hs⟩
      · intro g
        simp at g
        have p : 0 < val 9218868437227405311 := val_pos (by decide)
        omega
    revert this
    cases compare (key x) (val 9218868437227405311 : Int) <;> simp

theorem nan_max (x : Nat) (hx : Nan x) : (FloatKind.f64.format.order x 9218868437227405311 == some .gt) = false := by
  rw [fmt64, order_nan_left _ _ hx]; rfl

theorem isInfM_of (x : Nat) (hx : x < 2 ^ 64) (hn : ¬ Nan x) (w : World) : Calls Try.prog 24 #[.float .f64 x, .int .i64 (-1)] w fun e w' => e = .returned (.bool (infB true x)) ∧ w' = w := by
  have np := neg_parts x hx
  have nn : ¬ Nan (Op.negFloat .f64 x) := by unfold Nan; rw [np.1]; exact hn
  have h := order_max _ nn
  have e : infB false (Op.negFloat .f64 x) = infB true x := by
    unfold infB
    rw [np.1, np.2]
    cases sgn x <;> simp
  rw [e] at h
  clear np nn
  have hneg : ∀ W, (Op.unary .neg (.float .f64 x)).run Try.prog W = .ok (.float .f64 (Op.negFloat .f64 x)) W := fun W => rfl
  go_enter Try.func24, Try.ntmps24
  go_wp2
  go_ret
  exact ⟨rfl, rfl⟩
theorem isInfP_of (x : Nat) (hn : ¬ Nan x) (w : World) : Calls Try.prog 24 #[.float .f64 x, .int .i64 1] w fun e w' => e = .returned (.bool (infB false x)) ∧ w' = w := by
  have h := order_max _ hn
  go_enter Try.func24, Try.ntmps24
  go_wp2
  go_ret
  exact ⟨rfl, rfl⟩

theorem run_bits (x : Nat) (w : World) : (callFunc 31 #[.float .f64 x]).run Try.prog w = .ok (.value (.int .u64 x)) w := by
  rw [run_callFunc_extern (e := Extern.MathFloatBits.float64bits) Try.func31 (by kernel_rfl) (by kernel_rfl) (by kernel_rfl) (by kernel_rfl)]
  rfl
theorem run_frombits (x : Int) (w : World) : (callFunc 33 #[.int .u64 x]).run Try.prog w = .ok (.value (.float .f64 x.toNat)) w := by
  rw [run_callFunc_extern (e := Extern.MathFloatBits.float64frombits) Try.func33 (by kernel_rfl) (by kernel_rfl) (by kernel_rfl) (by kernel_rfl)]
  rfl

theorem nanv_of (w : World) : Calls Try.prog 29 #[] w fun e w' => e = .returned (.float .f64 9221120237041090561) ∧ w' = w := by
  have h := fun W => run_frombits 9221120237041090561 W
  go_enter Try.func29, Try.ntmps29
  go_wp2
  go_ret
  exact ⟨rfl, rfl⟩

theorem signbit_of (x : Nat) (hx : x < 2 ^ 64) (w : World) : Calls Try.prog 25 #[.float .f64 x] w fun e w' => e = .returned (.bool (sgn x)) ∧ w' = w := by
  have h := fun W => run_bits x W
  have hs : decide (wrap64 (x : Int) < 0) = sgn x := by
    unfold wrap64 sgn
    by_cases a : x < 2 ^ 63
    · rw [Nat.div_eq_of_lt a]
      exact decide_eq_false (by omega)
    · have e : x / 2 ^ 63 = 1 := by omega
      rw [e]
      exact decide_eq_true (by omega)
  go_enter Try.func25, Try.ntmps25
  go_wp2
  go_ret
  exact ⟨rfl, rfl⟩

end Go.Proofs.Ytilhhgkplonipaa
