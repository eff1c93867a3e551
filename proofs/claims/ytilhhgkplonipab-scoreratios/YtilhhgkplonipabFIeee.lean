/- Ieee's operations on doubles, said by rungs: what each gives is the rung nearest to the exact answer. -/
import Derived.Test.YtilhhgkplonipabFMath
namespace Go.Proofs.Ytilhhgkplonipab
open Ieee
set_option linter.unusedVariables false
set_option maxRecDepth 4000

/-- The rung of infinity. -/
abbrev IR : Nat := 9218868437227405312

theorem d_inf : double.infRung = IR := by decide
theorem d_bin : double.binade = 2 ^ 52 := rfl
theorem d_sw : double.signWeight = 2 ^ 63 := rfl
theorem d_fr : double.fractionBits = 52 := rfl
theorem d_lp : double.leastPlace = -1074 := by decide

theorem cut_even (neg : Bool) (n drop : Nat) : Toward.even.cut neg n drop = rhe n (2 ^ drop) := by
  have plain : ∀ g, (n / g + (decide (g < 2 * (n % g)) || (g == 2 * (n % g) && n / g % 2 == 1)).toNat) = rhe n g := by
    intro g
    unfold rhe
    congr 2
  unfold Toward.cut
  simp only [Nat.one_shiftLeft]
  rcases Nat.lt_or_ge (n.log2 + 2) drop with h | h
  · rw [Nat.min_eq_right (Nat.le_of_lt h)]
    rw [plain]
    have small : ∀ k, n.log2 + 2 ≤ k → rhe n (2 ^ k) = 0 := by
      intro k hk
      have a : n < 2 ^ (n.log2 + 1) := lt_of_log2 n _ (Nat.le_refl _)
      have b : 2 ^ (n.log2 + 1) * 2 ≤ 2 ^ k := by
        rw [← Nat.pow_succ]; exact Nat.pow_le_pow_right (by decide) hk
      unfold rhe
      rw [Nat.div_eq_of_lt (by omega), Nat.mod_eq_of_lt (by omega), decide_eq_false (by omega), decide_eq_false (by omega)]
      rfl
    rw [small _ (Nat.le_refl _), small _ (Nat.le_of_lt h)]
  · rw [Nat.min_eq_left h]
    exact plain _

theorem log2_mul_pow (m k : Nat) (hm : m ≠ 0) : (m * 2 ^ k).log2 = m.log2 + k := by
  have nz : m * 2 ^ k ≠ 0 := by
    have := Nat.mul_pos (Nat.pos_of_ne_zero hm) (Nat.two_pow_pos k)
    omega
  refine Nat.le_antisymm (log2_le_of _ _ ?_) ((Nat.le_log2 nz).2 ?_)
  · rw [show m.log2 + k + 1 = m.log2 + 1 + k by omega, Nat.pow_add]
    exact Nat.mul_lt_mul_of_pos_right (lt_of_log2 m _ (Nat.le_refl _)) (Nat.two_pow_pos _)
  · rw [Nat.pow_add]
    exact Nat.mul_le_mul_right _ (le_of_log2 hm)

theorem log2_div_pow (m k : Nat) : (m / 2 ^ k).log2 = m.log2 - k := by
  by_cases hm : m = 0
  · subst hm; simp
  rcases Nat.lt_or_ge m.log2 k with h | h
  · have : m < 2 ^ k := Nat.lt_of_lt_of_le (lt_of_log2 m _ (Nat.le_refl _)) (Nat.pow_le_pow_right (by decide) h)
    rw [Nat.div_eq_of_lt this]
    simp
    omega
  · have lo : 2 ^ (m.log2 - k) ≤ m / 2 ^ k := by
      refine (Nat.le_div_iff_mul_le (Nat.two_pow_pos _)).2 ?_
      rw [← Nat.pow_add, Nat.sub_add_cancel h]
      exact le_of_log2 hm
    have nz : m / 2 ^ k ≠ 0 := by
      have := Nat.two_pow_pos (m.log2 - k)
      omega
    refine Nat.le_antisymm (log2_le_of _ _ ?_) ((Nat.le_log2 nz).2 lo)
    refine Nat.div_lt_of_lt_mul ?_
    rw [← Nat.pow_add, show k + (m.log2 - k + 1) = m.log2 + 1 by omega]
    exact lt_of_log2 m _ (Nat.le_refl _)

theorem RQ_zero (D : Nat) : RQ 0 D = 0 := by
  simp [RQ, lgQ, rhe]

/-- To round is to find the rung nearest to the number. -/
theorem nearest_RQ (neg : Bool) (mag : Nat) (place : Int) :
    double.nearest neg mag place = double.word neg (min (RQ (mag * 2 ^ (place + 1074).toNat) (2 ^ (-(place + 1074)).toNat)) IR) := by
  by_cases hm : mag = 0
  · subst hm
    unfold Format.nearest
    simp [RQ_zero]
  unfold Format.nearest
  rw [if_neg hm]
  simp only [d_fr, d_lp, d_bin, d_inf, cut_even, Nat.shiftLeft_eq]
  generalize he : place + 1074 = e
  have hp : place = e - 1074 := by omega
  subst hp
  -- the last place kept, counted from the least one
  obtain ⟨L, hL, hLe⟩ : ∃ L : Nat, max (e - 1074 + (mag.log2 : Int) - ((52 : Nat) : Int)) (-1074) = (L : Int) - 1074 ∧ (L = (e + mag.log2 - 52).toNat) :=
    ⟨(e + mag.log2 - 52).toNat, by omega, rfl⟩
  rw [hL]
  have l1 : ((L : Int) - 1074 - -1074).toNat = L := by omega
  have l2 : (e - 1074 - ((L : Int) - 1074)).toNat = (e - L).toNat := by congr 1; omega
  have l3 : ((L : Int) - 1074 - (e - 1074)).toNat = ((L : Int) - e).toNat := by congr 1; omega
  rw [l1, l2, l3]
  have lg : lgQ (mag * 2 ^ e.toNat) (2 ^ (-e).toNat) = L := by
    unfold lgQ
    rw [log2_div_pow, log2_mul_pow _ _ hm]
    omega
  have kept : rhe (mag * 2 ^ (e - (L : Int)).toNat) (2 ^ ((L : Int) - e).toNat) = rhe (mag * 2 ^ e.toNat) (2 ^ (-e).toNat * 2 ^ L) := by
    rw [← Nat.pow_add]
    rcases Int.le_total 0 e with h0 | h0
    · obtain ⟨c, hc⟩ : ∃ c, c = min e.toNat L := ⟨_, rfl⟩
      have p := rhe_mul (mag * 2 ^ (e - (L : Int)).toNat) (2 ^ ((L : Int) - e).toNat) (2 ^ c) (Nat.two_pow_pos _)
      have p1 : (e - (L : Int)).toNat + c = e.toNat := by omega
      have p2 : ((L : Int) - e).toNat + c = (-e).toNat + L := by omega
      rw [← p, Nat.mul_assoc, ← Nat.pow_add, ← Nat.pow_add, p1, p2]
    · rw [show (e - (L : Int)).toNat = e.toNat by omega, show ((L : Int) - e).toNat = (-e).toNat + L by omega]
  unfold RQ
  rw [lg, kept]

def sg (s : Bool) (n : Nat) : Int := if s then -(n : Int) else n

/-- The sign bit; the rung; no number. -/
def sgn (x : Nat) : Bool := x / 2 ^ 63 % 2 == 1
def rung (x : Nat) : Nat := x % 2 ^ 63
def Nan (x : Nat) : Prop := IR < rung x
instance (x : Nat) : Decidable (Nan x) := inferInstanceAs (Decidable (_ < _))
/-- What orders numbers. -/
def key (x : Nat) : Int := sg (sgn x) (val (rung x))

theorem read_fin (x : Nat) (h : rung x < IR) : ∃ m p, double.read x = .number (sgn x) m p ∧ 0 ≤ p + 1074 ∧ m * 2 ^ (p + 1074).toNat = val (rung x) := by
  unfold Format.read
  simp only [d_sw, d_bin, d_inf, d_lp]
  change rung x < IR at h
  by_cases a : rung x < 2 ^ 52
  · have a' : x % 2 ^ 63 < 2 ^ 52 := a
    rw [if_pos a']
    refine ⟨_, _, rfl, by omega, ?_⟩
    unfold val
    rw [if_pos a]
    simp [rung]
  · have a' : ¬ x % 2 ^ 63 < 2 ^ 52 := a
    have h' : x % 2 ^ 63 < IR := h
    rw [if_neg a', if_pos h']
    refine ⟨_, _, rfl, by omega, ?_⟩
    unfold val
    rw [if_neg a]
    unfold rung
    congr 2
    omega

theorem read_inf (x : Nat) (h : rung x = IR) : double.read x = .infinity (sgn x) := by
  unfold Format.read
  simp only [d_sw, d_bin, d_inf, d_lp]
  have h' : x % 2 ^ 63 = IR := h
  rw [if_neg (by rw [h']; decide), if_neg (by rw [h']; decide), if_pos h']
  rfl

theorem read_nan (x : Nat) (h : Nan x) : ∃ fr, double.read x = .nan (sgn x) fr := by
  unfold Format.read
  simp only [d_sw, d_bin, d_inf, d_lp]
  have h' : IR < x % 2 ^ 63 := h
  rw [if_neg (by have : 2 ^ 52 < IR := by decide
                 omega), if_neg (by omega), if_neg (by omega)]
  exact ⟨_, rfl⟩

theorem nan_parts (x : Nat) : Nan x ∨ rung x = IR ∨ rung x < IR := by
  unfold Nan; omega

theorem order_nan_left (x y : Nat) (h : Nan x) : double.order x y = none := by
  obtain ⟨f, e⟩ := read_nan x h
  unfold Format.order
  rw [e]
  cases double.read y <;> rfl
theorem order_nan_right (x y : Nat) (h : Nan y) : double.order x y = none := by
  obtain ⟨f, e⟩ := read_nan y h
  unfold Format.order
  rw [e]
  cases double.read x <;> rfl

theorem compare_scale (a b : Int) (c : Int) (hc : 0 < c) : compare (a * c) (b * c) = compare a b := by
  simp only [compare, compareOfLessAndEq]
  have l : a * c < b * c ↔ a < b := ⟨fun h => Int.lt_of_mul_lt_mul_right h (Int.le_of_lt hc), fun h => Int.mul_lt_mul_of_pos_right h hc⟩
  have e : a * c = b * c ↔ a = b := ⟨fun h => Int.eq_of_mul_eq_mul_right (by omega) h, fun h => by rw [h]⟩
  simp only [l, e]

theorem compare_lt {a b : Int} : compare a b = .lt ↔ a < b := by
  simp only [compare, compareOfLessAndEq]
  split
  · simp [*]
  · split <;> simp <;> omega
theorem compare_gt {a b : Int} : compare a b = .gt ↔ b < a := by
  simp only [compare, compareOfLessAndEq]
  split
  · simp; omega
  · split <;> simp <;> omega
theorem compare_eq {a b : Int} : compare a b = .eq ↔ a = b := by
  simp only [compare, compareOfLessAndEq]
  split
  · simp; omega
  · split <;> simp [*]

theorem sg_shift (s : Bool) (m k c : Nat) : signed s m k * (2 ^ c : Nat) = sg s (m * 2 ^ (k + c)) := by
  unfold signed sg
  cases s
  · simp only [Nat.shiftLeft_eq, Bool.false_eq_true, if_false]
    rw [← Int.natCast_mul, Nat.mul_assoc, ← Nat.pow_add]
  · simp only [Nat.shiftLeft_eq, if_true]
    rw [Int.neg_mul, ← Int.natCast_mul, Nat.mul_assoc, ← Nat.pow_add]

theorem order_key (x y : Nat) (hx : ¬ Nan x) (hy : ¬ Nan y) : double.order x y = some (compare (key x) (key y)) := by
  have big : ∀ z, rung z < IR → val (rung z) < val IR := fun z h => (val_lt_iff _ _).2 h
  have fin : ∀ z, rung z < IR → -(val IR : Int) < key z ∧ key z < val IR := by
    intro z h
    have := big z h
    unfold key sg
    split <;> omega
  have pos : (0 : Int) < val IR := by
    have := (val_lt_iff 0 IR).2 (by decide)
    rw [val_zero] at this
    omega
  have infk : ∀ z, rung z = IR → key z = if sgn z then -(val IR : Int) else val IR := by
    intro z h; unfold key sg; rw [h]
  unfold Format.order
  rcases nan_parts x with n | a | a
  · exact absurd n hx
  · rw [read_inf x a]
    rcases nan_parts y with n | b | b
    · exact absurd n hy
    · rw [read_inf y b]
      unfold Datum.order
      rw [infk x a, infk y b]
      cases sgn x <;> cases sgn y
      · simp only [Bool.false_eq_true, if_false]; rw [compare_eq.2 rfl]; rfl
      · simp only [Bool.false_eq_true, if_false, if_true]; rw [compare_gt.2 (by omega)]; rfl
      · simp only [Bool.false_eq_true, if_false, if_true]; rw [compare_lt.2 (by omega)]; rfl
      · simp only [if_true]; rw [compare_eq.2 rfl]; rfl
    · obtain ⟨m, p, e, _, _⟩ := read_fin y b
      rw [e]
      unfold Datum.order
      rw [infk x a]
      have := fin y b
      cases sgn x
      · simp only [Bool.false_eq_true, if_false]; rw [compare_gt.2 (by omega)]
      · simp only [if_true]; rw [compare_lt.2 (by omega)]
  · obtain ⟨m, p, e, hp, hv⟩ := read_fin x a
    rw [e]
    rcases nan_parts y with n | b | b
    · exact absurd n hy
    · rw [read_inf y b]
      unfold Datum.order
      rw [infk y b]
      have := fin x a
      cases sgn y
      · simp only [Bool.false_eq_true, if_false]; rw [compare_lt.2 (by omega)]
      · simp only [if_true]; rw [compare_gt.2 (by omega)]
    · obtain ⟨n, q, e2, hq, hv2⟩ := read_fin y b
      rw [e2]
      unfold Datum.order
      simp only
      have c : (0 : Int) < ((2 ^ (min p q + 1074).toNat : Nat) : Int) := by
        have := Nat.two_pow_pos (min p q + 1074).toNat
        omega
      rw [← compare_scale _ _ _ c, sg_shift, sg_shift]
      unfold key
      rw [← hv, ← hv2]
      congr 6 <;> (congr 1; omega)

theorem order_self (x : Nat) (hx : ¬ Nan x) : double.order x x = some .eq := by
  rw [order_key x x hx hx, compare_eq.2 rfl]

/-- A sum, exactly, and rounded. -/
theorem dsum (s t : Bool) (m n : Nat) (i j : Int) (hi : 0 ≤ i + 1074) (hj : 0 ≤ j + 1074) (T : Int)
    (hT : T = sg s (m * 2 ^ (i + 1074).toNat) + sg t (n * 2 ^ (j + 1074).toNat)) :
    ((Datum.sum (.number s m i) (.number t n j)).map double.write) = some (double.word (if T = 0 then s && t else decide (T < 0)) (min (RQ T.natAbs 1) IR)) := by
  unfold Datum.sum
  simp only [Option.map_some]
  generalize hb : min i j = base
  generalize ht : signed s m (i - base).toNat + signed t n (j - base).toNat = total
  have c : (0 : Int) < ((2 ^ (base + 1074).toNat : Nat) : Int) := by
    have := Nat.two_pow_pos (base + 1074).toNat
    omega
  have e : T = total * ((2 ^ (base + 1074).toNat : Nat) : Int) := by
    rw [← ht, Int.add_mul, sg_shift, sg_shift, hT]
    congr 3 <;> (congr 1; omega)
  have z : T = 0 ↔ total = 0 := by
    rw [e]
    constructor
    · intro h
      rcases Int.mul_eq_zero.1 h with h | h <;> omega
    · intro h; rw [h, Int.zero_mul]
  have l : T < 0 ↔ total < 0 := by
    rw [e]
    constructor
    · intro h
      rcases Int.lt_or_le total 0 with g | g
      · exact g
      · have := Int.mul_nonneg g (Int.le_of_lt c)
        omega
    · intro h; exact Int.mul_neg_of_neg_of_pos h c
  have ab : T.natAbs = total.natAbs * 2 ^ (base + 1074).toNat := by
    rw [e, Int.natAbs_mul, Int.natAbs_natCast]
  dsimp only [Format.write]
  rw [nearest_RQ, ab]
  have q0 : (-(base + 1074)).toNat = 0 := by omega
  rw [q0, Nat.pow_zero]
  simp only [z, l]

end Go.Proofs.Ytilhhgkplonipab
