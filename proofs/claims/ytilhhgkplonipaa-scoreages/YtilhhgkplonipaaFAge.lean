/- What grows with what: a part of a whole, a zone's worth. -/
import Derived.Test.YtilhhgkplonipaaFOrd
namespace Go.Proofs.Ytilhhgkplonipaa
open Go.RowKit Ieee
set_option linter.unusedVariables false
set_option maxRecDepth 4000

/-- 1, 2 and 2 ^ 64. -/
abbrev one : Nat := 4607182418800017408
abbrev two : Nat := 4611686018427387904
abbrev r64 : Nat := 4895412794951729152
theorem val_one : val one = 2 ^ EE := by rw [ee]; decide +kernel
theorem val_two : val two = 2 * 2 ^ EE := by rw [ee]; decide +kernel
theorem val_r64 : val r64 = 18446744073709551616 * 2 ^ EE := by rw [ee]; decide +kernel
theorem pE : 0 < 2 ^ EE := Nat.two_pow_pos _

theorem rung_pos (r : Nat) (h : r ≤ IR) : rung r = r := Nat.mod_eq_of_lt (Nat.lt_of_le_of_lt h ir_lt)
theorem sgn_pos (r : Nat) (h : r ≤ IR) : sgn r = false := by unfold sgn; rw [Nat.div_eq_of_lt (Nat.lt_of_le_of_lt h ir_lt)]; rfl
theorem word_pos (r : Nat) : double.word false r = r := rfl
theorem bop_some (o : BinOp) (x y : Nat) : bop o (some x) (some y) = op4 o x y := rfl
theorem ff : (false ^^ false) = false := rfl
theorem op4_quo (x y : Nat) : op4 .quo x y = double.div x y := rfl
theorem op4_mul (x y : Nat) : op4 .mul x y = double.mul x y := rfl
theorem op4_add (x y : Nat) : op4 .add x y = double.add x y := rfl
theorem op4_sub (x y : Nat) : op4 .sub x y = double.sub x y := rfl
theorem key_pos (r : Nat) (h : r ≤ IR) : key r = val r := key_word_pos r (Nat.lt_of_le_of_lt h ir_lt)

theorem cv_mono {n m : Nat} (h : n ≤ m) : cv n ≤ cv m := by
  unfold cv
  have := RQ_mono1 1 (by decide) (Nat.mul_le_mul_right (2 ^ EE) h)
  omega
theorem cv_fin (n : Nat) (h : n < 18446744073709551616) : cv n < IR := by
  have : RQ (n * 2 ^ EE) 1 ≤ r64 := RQ_le (by decide) (by rw [val_r64, Nat.mul_one]; exact Nat.mul_le_mul_right _ (by omega))
  unfold cv
  have : r64 < IR := by decide
  omega
theorem cv_big (n : Nat) (h : 0 < n) : one ≤ cv n := by
  have : one ≤ RQ (n * 2 ^ EE) 1 := le_RQ (by decide) (by rw [val_one, Nat.mul_one]; exact Nat.le_mul_of_pos_left _ h)
  unfold cv
  have : one ≤ IR := by decide
  omega
theorem cv_nought : cv 0 = 0 := by unfold cv; rw [Nat.zero_mul, RQ_zero]; rfl

def uR (a b : Nat) : Nat := min (RQ (val (cv a) * 2 ^ EE) (val (cv b))) IR
def pR (u : Nat) : Nat := min (RQ (val one - val u) 1) IR
def dR (u : Nat) : Nat := min (RQ (val one + val u) 1) IR
def gR (p c : Nat) : Nat := min (RQ (val p * val (cv c)) (2 ^ EE)) IR
def qR (g d : Nat) : Nat := min (RQ (val g * 2 ^ EE) (val d)) IR

theorem div_pos (x y : Nat) (hx : x < IR) (hy : y < IR) (h0 : y ≠ 0) : op4 .quo x y = some (qR x y) := by
  rw [op4_quo]
  unfold qR
  have ex := rung_pos x (Nat.le_of_lt hx)
  have ey := rung_pos y (Nat.le_of_lt hy)
  have := div_fin x y (by rw [ex]; exact hx) (by rw [ey]; exact hy) (by rw [ey]; exact h0)
  rw [ex, ey, sgn_pos x (Nat.le_of_lt hx), sgn_pos y (Nat.le_of_lt hy), ff, word_pos] at this
  exact this
theorem mul_pos' (x y : Nat) (hx : x < IR) (hy : y < IR) : op4 .mul x y = some (min (RQ (val x * val y) (2 ^ EE)) IR) := by
  rw [op4_mul]
  have ex := rung_pos x (Nat.le_of_lt hx)
  have ey := rung_pos y (Nat.le_of_lt hy)
  have := mul_fin x y (by rw [ex]; exact hx) (by rw [ey]; exact hy)
  rw [ex, ey, sgn_pos x (Nat.le_of_lt hx), sgn_pos y (Nat.le_of_lt hy), ff, word_pos] at this
  exact this
theorem mul_cv (p c : Nat) (hp : p < IR) (hc : cv c < IR) : op4 .mul p (cv c) = some (gR p c) := by
  unfold gR
  exact mul_pos' p (cv c) hp hc
theorem one_lt : one < IR := by decide
theorem add_one' (u : Nat) (hu : u < IR) : op4 .add one u = some (dR u) := by
  rw [op4_add]
  unfold dR
  have e1 := rung_pos one (by decide)
  have eu := rung_pos u (Nat.le_of_lt hu)
  have := add_fin one u (by rw [e1]; exact one_lt) (by rw [eu]; exact hu)
  rw [key_pos one (by decide), key_pos u (Nat.le_of_lt hu), sgn_pos one (by decide)] at this
  have hp : 0 < val one := by rw [val_one]; exact pE
  rw [if_neg (by omega), decide_eq_false (by omega)] at this
  have ab : ((val one : Int) + (val u : Int)).natAbs = val one + val u := by omega
  rw [ab, word_pos] at this
  exact this
theorem sub_one' (u : Nat) (hu : u ≤ one) : op4 .sub one u = some (pR u) := by
  rw [op4_sub]
  unfold pR
  have hi : u < IR := Nat.lt_of_le_of_lt hu one_lt
  have e1 := rung_pos one (by decide)
  have eu := rung_pos u (Nat.le_of_lt hi)
  have := sub_fin one u (by rw [e1]; exact one_lt) (by rw [eu]; exact hi)
  rw [key_pos one (by decide), key_pos u (Nat.le_of_lt hi), sgn_pos one (by decide)] at this
  have hv := (val_mono_iff u one).2 hu
  have sg0 : (if (val one : Int) - (val u : Int) = 0 then false && !sgn u else decide ((val one : Int) - (val u : Int) < 0)) = false := by
    split
    · rfl
    · exact decide_eq_false (by omega)
  rw [sg0] at this
  have ab : ((val one : Int) - (val u : Int)).natAbs = val one - val u := by omega
  rw [ab, word_pos] at this
  exact this

theorem rat_some (a b : Nat) (ha : a < 18446744073709551616) (hb : b < 18446744073709551616) (h0 : 0 < b) : ratC a b = some (uR a b) := by
  have := cv_big b h0
  exact div_pos _ _ (cv_fin a ha) (cv_fin b hb) (by have : 0 < one := by decide
                                                    omega)
theorem uR_one {a b : Nat} (h : a ≤ b) : uR a b ≤ one := by
  by_cases h0 : 0 < val (cv b)
  · have : RQ (val (cv a) * 2 ^ EE) (val (cv b)) ≤ one := RQ_le h0 (by
      rw [val_one, Nat.mul_comm]
      exact Nat.mul_le_mul_left _ ((val_mono_iff _ _).2 (cv_mono h)))
    unfold uR
    omega
  · have zb : val (cv b) = 0 := by omega
    have za : val (cv a) = 0 := by
      have := (val_mono_iff _ _).2 (cv_mono h)
      omega
    unfold uR
    rw [za, Nat.zero_mul, RQ_zero]
    exact Nat.le_trans (Nat.min_le_left _ _) (Nat.zero_le _)
theorem uR_mono {a a' b : Nat} (h0 : 0 < b) (h : a ≤ a') : uR a b ≤ uR a' b := by
  have hb : 0 < val (cv b) := by
    have := cv_big b h0
    exact val_pos (by have : 0 < one := by decide
                      omega)
  have := RQ_mono1 (val (cv b)) hb (Nat.mul_le_mul_right (2 ^ EE) ((val_mono_iff _ _).2 (cv_mono h)))
  unfold uR
  omega
theorem uR_self {b : Nat} (h0 : 0 < b) : uR b b = one := by
  have hb : 0 < val (cv b) := by
    have := cv_big b h0
    exact val_pos (by have : 0 < one := by decide
                      omega)
  have := RQ_exact one (val (cv b)) hb
  rw [val_one, Nat.mul_comm] at this
  unfold uR
  rw [this]
  decide

theorem pR_one (u : Nat) : pR u ≤ one := by
  have : RQ (val one - val u) 1 ≤ one := RQ_le (by decide) (by omega)
  unfold pR
  omega
theorem pR_mono {u v : Nat} (h : u ≤ v) : pR v ≤ pR u := by
  have := RQ_mono1 1 (by decide) (show val one - val v ≤ val one - val u by have := (val_mono_iff _ _).2 h; omega)
  unfold pR
  omega
theorem dR_two {u : Nat} (h : u ≤ one) : one ≤ dR u ∧ dR u ≤ two := by
  have hv := (val_mono_iff _ _).2 h
  have a : one ≤ RQ (val one + val u) 1 := le_RQ (by decide) (by omega)
  have b : RQ (val one + val u) 1 ≤ two := RQ_le (by decide) (by rw [val_two]; rw [val_one] at hv ⊢; omega)
  unfold dR
  have : one ≤ IR := by decide
  omega
theorem dR_mono {u v : Nat} (h : u ≤ v) : dR u ≤ dR v := by
  have := RQ_mono1 1 (by decide) (show val one + val u ≤ val one + val v by have := (val_mono_iff _ _).2 h; omega)
  unfold dR
  omega
theorem gR_le {p : Nat} (c : Nat) (h : p ≤ one) : gR p c ≤ cv c := by
  have : RQ (val p * val (cv c)) (2 ^ EE) ≤ cv c := RQ_le pE (by
    rw [Nat.mul_comm]
    refine Nat.mul_le_mul_left _ ?_
    rw [← val_one]
    exact (val_mono_iff _ _).2 h)
  unfold gR
  omega
theorem gR_mono {p p' c c' : Nat} (h : p ≤ p') (g : c ≤ c') : gR p c ≤ gR p' c' := by
  have := RQ_mono1 (2 ^ EE) pE (Nat.mul_le_mul ((val_mono_iff _ _).2 h) ((val_mono_iff _ _).2 (cv_mono g)))
  unfold gR
  omega
theorem qR_mono {g g' d d' : Nat} (h : g ≤ g') (k : d' ≤ d) (h0 : 0 < d') : qR g d ≤ qR g' d' := by
  have p1 : 0 < val d' := val_pos (by omega)
  have p2 : 0 < val d := val_pos (by omega)
  have := RQ_mono p2 p1 (N := val g * 2 ^ EE) (M := val g' * 2 ^ EE) (Nat.mul_le_mul (Nat.mul_le_mul_right _ ((val_mono_iff _ _).2 h)) ((val_mono_iff _ _).2 k))
  unfold qR
  omega

/-- A zone's worth, where no more is left than there is. -/
def wR (a b c : Nat) : Nat := qR (gR (pR (uR a b)) c) (dR (uR a b))
theorem wor_some (a b c : Nat) (hb : b < 18446744073709551616) (hc : c < 18446744073709551616) (h0 : 0 < b) (h : a ≤ b) : worC a b c = some (wR a b c) := by
  have u1 := uR_one h
  have hr := rat_some a b (by omega) hb h0
  have d1 := dR_two u1
  have p1 := pR_one (uR a b)
  have g1 := gR_le c p1
  have cf := cv_fin c hc
  have ol := one_lt
  have tl : two < IR := by decide
  have oz : 0 < one := by decide
  have e1 := sub_one' _ u1
  have e2 := add_one' _ (show uR a b < IR by omega)
  have e3 := mul_cv (pR (uR a b)) c (by omega) cf
  have e4 := div_pos (gR (pR (uR a b)) c) (dR (uR a b)) (by omega) (by omega) (by omega)
  unfold worC
  rw [hr]
  have b1 : bop .sub (some 4607182418800017408) (some (uR a b)) = some (pR (uR a b)) := by rw [bop_some]; exact e1
  have b2 : bop .add (some 4607182418800017408) (some (uR a b)) = some (dR (uR a b)) := by rw [bop_some]; exact e2
  have b3 : bop .mul (some (pR (uR a b))) (some (cv c)) = some (gR (pR (uR a b)) c) := by rw [bop_some]; exact e3
  have b4 : bop .quo (some (gR (pR (uR a b)) c)) (some (dR (uR a b))) = some (wR a b c) := by rw [bop_some]; unfold wR; exact e4
  rw [b1, b2, b3, b4]
theorem wR_age {a b c c' : Nat} (h : a ≤ b) (g : c ≤ c') : wR a b c ≤ wR a b c' :=
  qR_mono (gR_mono (Nat.le_refl _) g) (Nat.le_refl _) (by have := (dR_two (uR_one h)).1; have oz : 0 < one := by decide
                                                          omega)
theorem wR_live {a a' b c : Nat} (h0 : 0 < b) (h : a' ≤ b) (g : a ≤ a') : wR a' b c ≤ wR a b c := by
  have m := uR_mono h0 g
  exact qR_mono (gR_mono (pR_mono m) (Nat.le_refl _)) (dR_mono m) (by have := (dR_two (uR_one (Nat.le_trans g h))).1; have oz : 0 < one := by decide
                                                                      omega)
theorem wR_le (a b c : Nat) : wR a b c ≤ IR := Nat.min_le_right _ _
theorem uR_le (a b : Nat) : uR a b ≤ IR := Nat.min_le_right _ _
theorem wR_self {b : Nat} (c : Nat) (h0 : 0 < b) : wR b b c = 0 := by
  unfold wR
  rw [uR_self h0]
  have a : pR one = 0 := by unfold pR; rw [Nat.sub_self, RQ_zero]; rfl
  have b : gR 0 c = 0 := by unfold gR; rw [val_zero, Nat.zero_mul, RQ_zero]; rfl
  rw [a, b]
  unfold qR
  rw [val_zero, Nat.zero_mul, RQ_zero]
  rfl
/-- Anything by nought. -/
theorem rat_zero (a : Nat) (ha : a < 18446744073709551616) (h0 : 0 < a) : ratC a 0 = some 9218868437227405312 := by
  have c := cv_big a h0
  have cf := cv_fin a ha
  have oz : 0 < one := by decide
  have ex := rung_pos (cv a) (Nat.le_of_lt cf)
  obtain ⟨m, p, e, hp, hv⟩ := read_fin (cv a) (by rw [ex]; exact cf)
  rw [ex] at hv
  have vp := val_pos (show cv a ≠ 0 by omega)
  have m0 : m ≠ 0 := by
    intro z
    rw [z, Nat.zero_mul] at hv
    omega
  unfold ratC op4 floatBits
  rw [cv_nought]
  change double.div (cv a) 0 = _
  unfold Format.div
  rw [e, sgn_pos _ (Nat.le_of_lt cf)]
  have z0 : double.read 0 = .number false 0 (-1074) := by decide +kernel
  rw [z0]
  unfold Datum.quotient
  simp only [if_true, if_neg m0]
  rfl

theorem geq_pos (x y : Nat) (hx : x ≤ IR) (h : y ≤ x) : (FloatKind.f64.format.order x y == some .gt || FloatKind.f64.format.order x y == some .eq) = true := by
  have hy : y ≤ IR := Nat.le_trans h hx
  rw [fmt64, order_key x y (nan_pos x hx) (nan_pos y hy), key_pos x hx, key_pos y hy]
  have := (val_mono_iff _ _).2 h
  rcases Nat.lt_or_ge (val y) (val x) with c | c
  · rw [compare_gt.2 (by omega)]; rfl
  · rw [compare_eq.2 (by omega)]; rfl
theorem leq_pos (x y : Nat) (hy : y ≤ IR) (h : x ≤ y) : (FloatKind.f64.format.order x y == some .lt || FloatKind.f64.format.order x y == some .eq) = true := by
  have hx : x ≤ IR := Nat.le_trans h hy
  rw [fmt64, order_key x y (nan_pos x hx) (nan_pos y hy), key_pos x hx, key_pos y hy]
  have := (val_mono_iff _ _).2 h
  rcases Nat.lt_or_ge (val x) (val y) with c | c
  · rw [compare_lt.2 (by omega)]; rfl
  · rw [compare_eq.2 (by omega)]; rfl
end Go.Proofs.Ytilhhgkplonipaa
