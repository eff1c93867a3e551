/- What the four operations give on doubles, by rungs; what a whole number gives; that no operation of two numbers gives bits of no number. -/
import Derived.Test.YtilhhgkplonipaaFIeee
namespace Go.Proofs.Ytilhhgkplonipaa
open Ieee
set_option linter.unusedVariables false
set_option maxRecDepth 4000

/-- 1074, by a name. -/
def EE : Nat := 1074
theorem ee : EE = 1074 := by unfold EE; rfl

theorem word_lt64 (s : Bool) (r : Nat) (h : r < 2 ^ 63) : double.word s r < 2 ^ 64 := by
  unfold Format.word; rw [d_sw]; cases s <;> simp <;> omega
theorem rung_word (s : Bool) (r : Nat) (h : r < 2 ^ 63) : rung (double.word s r) = r := by
  unfold rung Format.word; rw [d_sw]; cases s <;> simp <;> omega
theorem sgn_word (s : Bool) (r : Nat) (h : r < 2 ^ 63) : sgn (double.word s r) = s := by
  unfold sgn Format.word; rw [d_sw]
  cases s
  · simp; omega
  · simp; omega
theorem word_parts (x : Nat) (h : x < 2 ^ 64) : double.word (sgn x) (rung x) = x := by
  unfold sgn rung Format.word; rw [d_sw]
  by_cases a : x < 2 ^ 63
  · have e : x / 2 ^ 63 = 0 := Nat.div_eq_of_lt a
    rw [e]; simp; omega
  · have e : x / 2 ^ 63 = 1 := by omega
    rw [e]; simp; omega
theorem ir_lt : IR < 2 ^ 63 := by decide
theorem min_lt (a : Nat) : min a IR < 2 ^ 63 := Nat.lt_of_le_of_lt (Nat.min_le_right _ _) ir_lt
theorem word_not_nan (s : Bool) (r : Nat) (h : r ≤ IR) : ¬ Nan (double.word s r) := by
  unfold Nan; rw [rung_word s r (Nat.lt_of_le_of_lt h ir_lt)]; omega

theorem val_pos {r : Nat} (h : r ≠ 0) : 0 < val r := by
  have := (val_lt_iff 0 r).2 (by omega)
  rwa [val_zero] at this

theorem sticky_RQ (D n : Nat) (P : Int) (hn : 0 < n) (hQ : 2 ^ 53 ≤ D / n) :
    RQ ((2 * (D / n) + (D % n != 0).toNat) * 2 ^ P.toNat) (2 ^ (-P).toNat) = RQ (D * 2 ^ (P + 1).toNat) (n * 2 ^ (-(P + 1)).toNat) := by
  have s1 : (D % n != 0).toNat ≤ 1 := Bool.toNat_le _
  have st := rhe_sticky D n
  generalize (D % n != 0).toNat = s at *
  have hQ0 : D / n ≠ 0 := by
    have := Nat.two_pow_pos 53
    omega
  -- the logarithm of the quotient
  have lQ : 53 ≤ (D / n).log2 := (Nat.le_log2 hQ0).2 hQ
  have lA : (2 * (D / n) + s).log2 = (D / n).log2 + 1 := by
    have nz : 2 * (D / n) + s ≠ 0 := by omega
    have lo := le_of_log2 hQ0
    have hi := lt_of_log2 (D / n) _ (Nat.le_refl _)
    refine Nat.le_antisymm (log2_le_of _ _ ?_) ((Nat.le_log2 nz).2 ?_)
    · rw [Nat.pow_succ]; omega
    · rw [Nat.pow_succ]; omega
  have A0 : 2 * (D / n) + s ≠ 0 := by omega
  obtain ⟨L, hL⟩ : ∃ L : Nat, L = ((D / n).log2 + 1 + P - 52).toNat := ⟨_, rfl⟩
  have l1 : lgQ ((2 * (D / n) + s) * 2 ^ P.toNat) (2 ^ (-P).toNat) = L := by
    unfold lgQ
    rw [log2_div_pow, log2_mul_pow _ _ A0, lA]
    omega
  have l2 : lgQ (D * 2 ^ (P + 1).toNat) (n * 2 ^ (-(P + 1)).toNat) = L := by
    unfold lgQ
    rw [← Nat.div_div_eq_div_mul, log2_div_pow]
    have : (D * 2 ^ (P + 1).toNat / n).log2 = (D / n).log2 + (P + 1).toNat := by
      have hi := lt_of_log2 (D / n) _ (Nat.le_refl _)
      have lo := le_of_log2 hQ0
      have up : D < 2 ^ ((D / n).log2 + 1) * n := by
        have := Nat.div_lt_iff_lt_mul hn (x := D) (y := 2 ^ ((D / n).log2 + 1))
        exact this.1 hi
      have dn : 2 ^ (D / n).log2 * n ≤ D := (Nat.le_div_iff_mul_le hn).1 lo
      have up2 : D * 2 ^ (P + 1).toNat / n < 2 ^ ((D / n).log2 + (P + 1).toNat + 1) := by
        refine (Nat.div_lt_iff_lt_mul hn).2 ?_
        rw [show (D / n).log2 + (P + 1).toNat + 1 = (D / n).log2 + 1 + (P + 1).toNat by omega, Nat.pow_add, Nat.mul_assoc, Nat.mul_comm (2 ^ (P + 1).toNat) n, ← Nat.mul_assoc]
        exact Nat.mul_lt_mul_of_pos_right up (Nat.two_pow_pos _)
      have dn2 : 2 ^ ((D / n).log2 + (P + 1).toNat) ≤ D * 2 ^ (P + 1).toNat / n := by
        refine (Nat.le_div_iff_mul_le hn).2 ?_
        rw [Nat.pow_add, Nat.mul_assoc, Nat.mul_comm (2 ^ (P + 1).toNat) n, ← Nat.mul_assoc]
        exact Nat.mul_le_mul_right _ dn
      have nz : D * 2 ^ (P + 1).toNat / n ≠ 0 := by
        have := Nat.two_pow_pos ((D / n).log2 + (P + 1).toNat)
        omega
      exact Nat.le_antisymm (log2_le_of _ _ up2) ((Nat.le_log2 nz).2 dn2)
    rw [this]
    omega
  unfold RQ
  rw [l1, l2]
  congr 1
  obtain ⟨h, hh⟩ : ∃ h : Nat, h = ((L : Int) - P - 2).toNat := ⟨_, rfl⟩
  have e1 : 2 ^ (-P).toNat * 2 ^ L = 4 * 2 ^ h * 2 ^ P.toNat := by
    rw [show (4 : Nat) = 2 ^ 2 by rfl, ← Nat.pow_add, ← Nat.pow_add, ← Nat.pow_add]
    congr 1
    omega
  have e2 : n * 2 ^ (-(P + 1)).toNat * 2 ^ L = n * (2 * 2 ^ h) * 2 ^ (P + 1).toNat := by
    rw [Nat.mul_assoc, Nat.mul_assoc]
    congr 1
    rw [show (2 : Nat) * 2 ^ h = 2 ^ (1 + h) by rw [Nat.pow_add, Nat.pow_one], ← Nat.pow_add, ← Nat.pow_add]
    congr 1
    omega
  rw [e1, e2, rhe_mul _ _ _ (Nat.two_pow_pos _), rhe_mul _ _ _ (Nat.two_pow_pos _)]
  exact st (2 ^ h) hn (Nat.two_pow_pos _)

/-- A quotient of numbers. -/
theorem div_fin (x y : Nat) (hx : rung x < IR) (hy : rung y < IR) (h0 : rung y ≠ 0) :
    double.div x y = some (double.word (sgn x ^^ sgn y) (min (RQ (val (rung x) * 2 ^ EE) (val (rung y))) IR)) := by
  obtain ⟨m, i, e, hi, hv⟩ := read_fin x hx
  obtain ⟨n, j, e2, hj, hv2⟩ := read_fin y hy
  have vy := val_pos h0
  have n0 : n ≠ 0 := by
    intro z
    rw [z, Nat.zero_mul] at hv2
    omega
  unfold Format.div
  rw [e, e2]
  unfold Datum.quotient
  simp only [if_neg n0, d_fr, Option.map_some]
  by_cases m0 : m = 0
  · subst m0
    rw [Nat.zero_mul] at hv
    dsimp only [Format.write]
    rw [nearest_RQ, ← hv]
    simp [RQ_zero]
  obtain ⟨more, hmore⟩ : ∃ more, more = 52 + 2 + n.log2 - m.log2 := ⟨_, rfl⟩
  rw [← hmore]
  dsimp only [Format.write]
  rw [nearest_RQ]
  refine congrArg (fun r => some (double.word (sgn x ^^ sgn y) (min r IR))) ?_
  rw [Nat.shiftLeft_eq]
  have big : 2 ^ 53 ≤ m * 2 ^ more / n := by
    have a := le_of_log2 m0
    have b := lt_of_log2 n _ (Nat.le_refl _)
    refine (Nat.le_div_iff_mul_le (Nat.pos_of_ne_zero n0)).2 ?_
    have c : 2 ^ (m.log2 + more) ≤ m * 2 ^ more := by
      rw [Nat.pow_add]; exact Nat.mul_le_mul_right _ a
    have d : 2 ^ 53 * n ≤ 2 ^ (53 + (n.log2 + 1)) := by
      rw [Nat.pow_add]; exact Nat.mul_le_mul_left _ (Nat.le_of_lt b)
    have f : 2 ^ (53 + (n.log2 + 1)) ≤ 2 ^ (m.log2 + more) := Nat.pow_le_pow_right (by decide) (by omega)
    omega
  have st := sticky_RQ (m * 2 ^ more) n (i - j - (more : Int) - 1 + 1074) (Nat.pos_of_ne_zero n0) big
  rw [st]
  refine RQ_eq (Nat.mul_pos (Nat.pos_of_ne_zero n0) (Nat.two_pow_pos _)) vy ?_
  rw [← hv, ← hv2]
  have g : ∀ a b c d : Nat, a + b + c = d → m * 2 ^ a * 2 ^ b * (n * 2 ^ c) = m * n * 2 ^ d := by
    intro a b c d h
    rw [← h, Nat.pow_add, Nat.pow_add]
    ac_rfl
  have g2 : ∀ a b c d : Nat, a + b + c = d → m * 2 ^ a * 2 ^ b * (n * 2 ^ c) = m * n * 2 ^ d := g
  rw [g _ _ _ _ rfl, g2 _ _ _ _ rfl]
  have hE := ee
  refine congrArg (fun k => m * n * 2 ^ k) ?_
  omega

/-- A product of numbers. -/
theorem mul_fin (x y : Nat) (hx : rung x < IR) (hy : rung y < IR) :
    double.mul x y = some (double.word (sgn x ^^ sgn y) (min (RQ (val (rung x) * val (rung y)) (2 ^ EE)) IR)) := by
  obtain ⟨m, i, e, hi, hv⟩ := read_fin x hx
  obtain ⟨n, j, e2, hj, hv2⟩ := read_fin y hy
  unfold Format.mul
  rw [e, e2]
  unfold Datum.product
  simp only [Option.map_some]
  dsimp only [Format.write]
  rw [nearest_RQ]
  refine congrArg (fun r => some (double.word (sgn x ^^ sgn y) (min r IR))) ?_
  refine RQ_eq (Nat.two_pow_pos _) (Nat.two_pow_pos _) ?_
  rw [← hv, ← hv2]
  have g : ∀ a b d : Nat, a + b = d → m * n * 2 ^ a * 2 ^ b = m * n * 2 ^ d := by
    intro a b d h
    rw [← h, Nat.pow_add, Nat.mul_assoc]
  have g2 : ∀ a b c d : Nat, a + b + c = d → m * 2 ^ a * (n * 2 ^ b) * 2 ^ c = m * n * 2 ^ d := by
    intro a b c d h
    rw [← h, Nat.pow_add, Nat.pow_add]
    ac_rfl
  rw [g _ _ _ rfl, g2 _ _ _ _ rfl]
  have hE := ee
  refine congrArg (fun k => m * n * 2 ^ k) ?_
  omega

/-- A sum, a difference of numbers. -/
theorem add_fin (x y : Nat) (hx : rung x < IR) (hy : rung y < IR) :
    double.add x y = some (double.word (if key x + key y = 0 then sgn x && sgn y else decide (key x + key y < 0)) (min (RQ (key x + key y).natAbs 1) IR)) := by
  obtain ⟨m, i, e, hi, hv⟩ := read_fin x hx
  obtain ⟨n, j, e2, hj, hv2⟩ := read_fin y hy
  unfold Format.add
  rw [e, e2]
  refine dsum _ _ _ _ _ _ hi hj _ ?_
  unfold key
  rw [← hv, ← hv2]
theorem sub_fin (x y : Nat) (hx : rung x < IR) (hy : rung y < IR) :
    double.sub x y = some (double.word (if key x - key y = 0 then sgn x && !sgn y else decide (key x - key y < 0)) (min (RQ (key x - key y).natAbs 1) IR)) := by
  obtain ⟨m, i, e, hi, hv⟩ := read_fin x hx
  obtain ⟨n, j, e2, hj, hv2⟩ := read_fin y hy
  unfold Format.sub
  rw [e, e2]
  refine dsum _ _ _ _ _ _ hi hj _ ?_
  unfold key
  rw [← hv, ← hv2]
  unfold sg
  cases sgn y <;> simp <;> omega

/-- A whole number as a double. -/
def cv (n : Nat) : Nat := min (RQ (n * 2 ^ EE) 1) IR
theorem ofInt_cv (n : Nat) : floatOfInt .f64 (n : Int) = cv n := by
  unfold floatOfInt FloatKind.nearest FloatKind.encode FloatKind.format
  dsimp only [Format.write]
  rw [nearest_RQ]
  have : decide ((n : Int) < 0) = false := decide_eq_false (by omega)
  rw [this]
  have e1 : ((0 : Int) + 1074).toNat = EE := by rw [ee]; rfl
  have e2 : (-((0 : Int) + 1074)).toNat = 0 := by rfl
  rw [e1, e2]
  simp [Format.word, cv]

/-- What no operation of numbers gives. -/
def Num (d : Datum) : Prop := match d with | .nan .. => False | _ => True
theorem write_num (d : Datum) (h : Num d) : ¬ Nan (double.write d) ∧ double.write d < 2 ^ 64 := by
  cases d with
  | number s m p =>
    dsimp only [Format.write]
    rw [nearest_RQ]
    exact ⟨word_not_nan _ _ (Nat.min_le_right _ _), word_lt64 _ _ (min_lt _)⟩
  | infinity s =>
    dsimp only [Format.write]
    rw [d_inf]
    exact ⟨word_not_nan _ _ (Nat.le_refl _), word_lt64 _ _ ir_lt⟩
  | nan s f => exact absurd h (by simp [Num])
theorem sum_num (a b c : Datum) (h : Datum.sum a b = some c) : Num c := by
  cases a <;> cases b <;> simp only [Datum.sum] at h
  all_goals first
    | (cases h; done)
    | (split at h <;> first | (cases h; done) | (cases h; trivial))
    | (cases h; trivial)
theorem product_num (a b c : Datum) (h : Datum.product a b = some c) : Num c := by
  cases a <;> cases b <;> simp only [Datum.product] at h
  all_goals first
    | (cases h; done)
    | (split at h <;> first | (cases h; done) | (cases h; trivial))
    | (cases h; trivial)
theorem quotient_num (k : Nat) (a b c : Datum) (h : Datum.quotient k a b = some c) : Num c := by
  cases a <;> cases b <;> simp only [Datum.quotient] at h
  all_goals first
    | (cases h; done)
    | (cases h; trivial)
    | (split at h
       · split at h <;> first | (cases h; done) | (cases h; trivial)
       · cases h; trivial)
theorem map_num {d : Option Datum} {r : Nat} (hd : ∀ c, d = some c → Num c) (h : d.map double.write = some r) : ¬ Nan r ∧ r < 2 ^ 64 := by
  cases d with
  | none => cases h
  | some c => cases h; exact write_num c (hd c rfl)

/-- The operation's answer; none: no number. -/
def op4 (o : BinOp) (x y : Nat) : Option Nat := floatBits o .f64 x y
theorem op4_num {o : BinOp} {x y r : Nat} (h : op4 o x y = some r) : ¬ Nan r ∧ r < 2 ^ 64 := by
  unfold op4 floatBits at h
  cases o <;> simp only [FloatKind.format] at h <;> first
    | (cases h; done)
    | exact map_num (fun c e => sum_num _ _ _ e) h
    | exact map_num (fun c e => product_num _ _ _ e) h
    | exact map_num (fun c e => quotient_num _ _ _ _ e) h
theorem op4_left {o : BinOp} {x y : Nat} (h : Nan x) : op4 o x y = none := by
  obtain ⟨f, e⟩ := read_nan x h
  unfold op4 floatBits
  cases o <;> simp only [FloatKind.format, Format.add, Format.sub, Format.mul, Format.div, e] <;> cases double.read y <;> rfl
theorem op4_right {o : BinOp} {x y : Nat} (h : Nan y) : op4 o x y = none := by
  obtain ⟨f, e⟩ := read_nan y h
  unfold op4 floatBits
  cases o <;> simp only [FloatKind.format, Format.add, Format.sub, Format.mul, Format.div, e] <;> cases double.read x <;> rfl

/-- The bits x are the number c; where c is none: they are no number. -/
def Cls (c : Option Nat) (x : Nat) : Prop := x < 2 ^ 64 ∧ match c with | some r => x = r ∧ ¬ Nan r | none => Nan x
def bop (o : BinOp) (c d : Option Nat) : Option Nat := c.bind fun x => d.bind fun y => op4 o x y
theorem bop_cls {o : BinOp} {c d : Option Nat} {x y : Nat} (hx : Cls c x) (hy : Cls d y) : op4 o x y = bop o c d := by
  unfold bop
  cases c with
  | none => exact op4_left hx.2
  | some a => cases d with
    | none => exact op4_right hy.2
    | some b => obtain ⟨_, rfl, _⟩ := hx; obtain ⟨_, rfl, _⟩ := hy; rfl

end Go.Proofs.Ytilhhgkplonipaa
