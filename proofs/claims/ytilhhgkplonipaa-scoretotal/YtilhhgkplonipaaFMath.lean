/- Rounding to a rung, of a number that is a quotient of whole numbers (units of 2 ^ -1074): monotone, and exact where the number is one. -/
import Derived.Laws.FloatArith
namespace Go.Proofs.Ytilhhgkplonipaa
set_option linter.unusedVariables false
set_option maxRecDepth 4000

/-- N / g to the nearest whole number, a half to the even one. -/
def rhe (n g : Nat) : Nat := n / g + (decide (g < 2 * (n % g)) || (decide (g = 2 * (n % g)) && decide (n / g % 2 = 1))).toNat

theorem rhe_one (n : Nat) : rhe n 1 = n := by
  simp [rhe, Nat.mod_one]

theorem rhe_le (n g : Nat) : rhe n g ≤ n / g + 1 := by
  unfold rhe
  have := Bool.toNat_le (decide (g < 2 * (n % g)) || (decide (g = 2 * (n % g)) && decide (n / g % 2 = 1)))
  omega

theorem le_rhe (n g : Nat) : n / g ≤ rhe n g := by unfold rhe; omega

theorem rhe_mul (n g c : Nat) (hc : 0 < c) : rhe (n * c) (g * c) = rhe n g := by
  unfold rhe
  rw [Nat.mul_div_mul_right _ _ hc, Nat.mul_mod_mul_right]
  have e : 2 * (n % g * c) = 2 * (n % g) * c := by rw [Nat.mul_assoc]
  rw [e]
  have a : decide (g * c < 2 * (n % g) * c) = decide (g < 2 * (n % g)) :=
    decide_eq_decide.2 (Nat.mul_lt_mul_right hc)
  have b : decide (g * c = 2 * (n % g) * c) = decide (g = 2 * (n % g)) :=
    decide_eq_decide.2 ⟨fun h => Nat.eq_of_mul_eq_mul_right hc h, fun h => by rw [← h]⟩
  rw [a, b]

theorem rhe_exact (n g : Nat) (hg : 0 < g) : rhe (n * g) g = n := by
  have := rhe_mul n 1 g hg
  rw [Nat.one_mul] at this
  rw [this, rhe_one]

theorem rhe_mono {n m : Nat} (g : Nat) (h : n ≤ m) : rhe n g ≤ rhe m g := by
  by_cases hg : g = 0
  · subst hg
    simp only [rhe, Nat.div_zero, Nat.mod_zero]
    have key : (decide (0 < 2 * n) || (decide (0 = 2 * n) && decide (0 % 2 = 1))).toNat ≤ (decide (0 < 2 * m) || (decide (0 = 2 * m) && decide (0 % 2 = 1))).toNat := by
      by_cases a : n = 0
      · subst a; simp
      · have : 0 < 2 * n := by omega
        have : 0 < 2 * m := by omega
        simp [*]
    omega
  have hd : n / g ≤ m / g := Nat.div_le_div_right h
  rcases Nat.lt_or_ge (n / g) (m / g) with h1 | h1
  · have a := rhe_le n g
    have b := le_rhe m g
    omega
  · have e : n / g = m / g := Nat.le_antisymm hd h1
    have r : n % g ≤ m % g := by
      have x := Nat.div_add_mod n g
      have y := Nat.div_add_mod m g
      rw [e] at x
      omega
    unfold rhe
    rw [e]
    have key : (decide (g < 2 * (n % g)) || (decide (g = 2 * (n % g)) && decide (m / g % 2 = 1))).toNat ≤ (decide (g < 2 * (m % g)) || (decide (g = 2 * (m % g)) && decide (m / g % 2 = 1))).toNat := by
      by_cases p : g < 2 * (m % g)
      · simp only [p, decide_true, Bool.true_or, Bool.toNat_true]
        exact Bool.toNat_le _
      · have p1 : ¬ g < 2 * (n % g) := by omega
        by_cases q : g = 2 * (n % g)
        · have q2 : g = 2 * (m % g) := by omega
          rw [decide_eq_false p, decide_eq_false p1, decide_eq_true q, decide_eq_true q2]
          exact Nat.le_refl _
        · rw [decide_eq_false p1, decide_eq_false q]
          simp
    omega

theorem log2_le_of (n k : Nat) (h : n < 2 ^ (k + 1)) : n.log2 ≤ k := by
  by_cases z : n = 0
  · subst z; simp
  · have := (Nat.log2_lt z).2 h
    omega

theorem lt_of_log2 (n k : Nat) (h : n.log2 ≤ k) : n < 2 ^ (k + 1) := by
  by_cases z : n = 0
  · subst z; exact Nat.two_pow_pos _
  · exact (Nat.log2_lt z).1 (by omega)

theorem log2_mono {n m : Nat} (h : n ≤ m) : n.log2 ≤ m.log2 := by
  exact log2_le_of _ _ (Nat.lt_of_le_of_lt h (lt_of_log2 m _ (Nat.le_refl _)))

theorem le_of_log2 {n : Nat} (hn : n ≠ 0) : 2 ^ n.log2 ≤ n := Nat.log2_self_le hn

/-- The binade that N / D falls into, from the least one on. -/
def lgQ (N D : Nat) : Nat := (N / D).log2 - 52

/-- The rung nearest to N / D. -/
def RQ (N D : Nat) : Nat := lgQ N D * 2 ^ 52 + rhe N (D * 2 ^ lgQ N D)

theorem lgQ_mul (N D c : Nat) (hc : 0 < c) : lgQ (N * c) (D * c) = lgQ N D := by
  unfold lgQ; rw [Nat.mul_div_mul_right _ _ hc]

theorem RQ_mul (N D c : Nat) (hc : 0 < c) : RQ (N * c) (D * c) = RQ N D := by
  unfold RQ
  rw [lgQ_mul N D c hc, show D * c * 2 ^ lgQ N D = D * 2 ^ lgQ N D * c by rw [Nat.mul_assoc, Nat.mul_comm c, ← Nat.mul_assoc], rhe_mul _ _ _ hc]

theorem RQ_mono1 {N M : Nat} (D : Nat) (hD : 0 < D) (h : N ≤ M) : RQ N D ≤ RQ M D := by
  have hl : lgQ N D ≤ lgQ M D := by
    unfold lgQ
    have := log2_mono (Nat.div_le_div_right (c := D) h)
    omega
  unfold RQ
  rcases Nat.lt_or_ge (lgQ N D) (lgQ M D) with h1 | h1
  · have a : rhe N (D * 2 ^ lgQ N D) ≤ 2 ^ 53 := by
      have b : N / D < 2 ^ (52 + lgQ N D + 1) := lt_of_log2 _ _ (by unfold lgQ; omega)
      have c : N / (D * 2 ^ lgQ N D) < 2 ^ 53 := by
        rw [← Nat.div_div_eq_div_mul]
        refine Nat.div_lt_of_lt_mul ?_
        rw [← Nat.pow_add]
        rwa [show lgQ N D + 53 = 52 + lgQ N D + 1 by omega]
      have d := rhe_le N (D * 2 ^ lgQ N D)
      omega
    have b : 2 ^ 52 ≤ rhe M (D * 2 ^ lgQ M D) := by
      refine Nat.le_trans ?_ (le_rhe _ _)
      rw [← Nat.div_div_eq_div_mul]
      have hl2 : lgQ M D + 52 = (M / D).log2 := by unfold lgQ at h1 ⊢; omega
      have nz : M / D ≠ 0 := by
        intro z
        rw [z] at hl2
        have : (0 : Nat).log2 = 0 := by simp
        omega
      refine (Nat.le_div_iff_mul_le (Nat.two_pow_pos _)).2 ?_
      rw [← Nat.pow_add, Nat.add_comm, hl2]
      exact le_of_log2 nz
    have c : (lgQ N D + 1) * 2 ^ 52 ≤ lgQ M D * 2 ^ 52 := Nat.mul_le_mul_right _ h1
    have d : (lgQ N D + 1) * 2 ^ 52 = lgQ N D * 2 ^ 52 + 2 ^ 52 := by rw [Nat.add_mul, Nat.one_mul]
    have e : (2 : Nat) ^ 53 = 2 ^ 52 + 2 ^ 52 := by decide
    omega
  · have e : lgQ N D = lgQ M D := Nat.le_antisymm hl h1
    rw [e]
    exact Nat.add_le_add_left (rhe_mono _ h) _

theorem RQ_mono {N D M E : Nat} (hD : 0 < D) (hE : 0 < E) (h : N * E ≤ M * D) : RQ N D ≤ RQ M E := by
  rw [← RQ_mul N D E hE, ← RQ_mul M E D hD, Nat.mul_comm E D]
  exact RQ_mono1 _ (Nat.mul_pos hD hE) h

theorem RQ_eq {N D M E : Nat} (hD : 0 < D) (hE : 0 < E) (h : N * E = M * D) : RQ N D = RQ M E :=
  Nat.le_antisymm (RQ_mono hD hE (Nat.le_of_eq h)) (RQ_mono hE hD (Nat.le_of_eq h.symm))

/-- What a rung stands for, in units of 2 ^ -1074 (also past the last one). -/
def val (r : Nat) : Nat := if r < 2 ^ 52 then r else (2 ^ 52 + r % 2 ^ 52) * 2 ^ (r / 2 ^ 52 - 1)

theorem RQ_val (r : Nat) : RQ (val r) 1 = r := by
  unfold val
  split
  · rename_i h
    have l : lgQ r 1 = 0 := by
      unfold lgQ
      rw [Nat.div_one]
      have := log2_le_of r 51 h
      omega
    unfold RQ
    rw [l]
    simp [rhe_one]
  · rename_i h
    have l : lgQ ((2 ^ 52 + r % 2 ^ 52) * 2 ^ (r / 2 ^ 52 - 1)) 1 = r / 2 ^ 52 - 1 := by
      unfold lgQ
      rw [Nat.div_one]
      have m : r % 2 ^ 52 < 2 ^ 52 := Nat.mod_lt _ (Nat.two_pow_pos _)
      have up : ((2 ^ 52 + r % 2 ^ 52) * 2 ^ (r / 2 ^ 52 - 1)).log2 ≤ 52 + (r / 2 ^ 52 - 1) := by
        refine log2_le_of _ _ ?_
        rw [show 52 + (r / 2 ^ 52 - 1) + 1 = 53 + (r / 2 ^ 52 - 1) by omega, Nat.pow_add]
        exact Nat.mul_lt_mul_of_pos_right (by have e : (2 : Nat) ^ 53 = 2 ^ 52 + 2 ^ 52 := by decide
                                              omega) (Nat.two_pow_pos _)
      have lo : 52 + (r / 2 ^ 52 - 1) ≤ ((2 ^ 52 + r % 2 ^ 52) * 2 ^ (r / 2 ^ 52 - 1)).log2 := by
        refine (Nat.le_log2 ?_).2 ?_
        · have : 0 < (2 ^ 52 + r % 2 ^ 52) * 2 ^ (r / 2 ^ 52 - 1) := Nat.mul_pos (by omega) (Nat.two_pow_pos _)
          omega
        · rw [Nat.pow_add]
          exact Nat.mul_le_mul_right _ (by omega)
      omega
    unfold RQ
    rw [l, Nat.one_mul, rhe_exact _ _ (Nat.two_pow_pos _)]
    have q : 1 ≤ r / 2 ^ 52 := (Nat.le_div_iff_mul_le (Nat.two_pow_pos _)).2 (by omega)
    have x := Nat.div_add_mod r (2 ^ 52)
    have y : (r / 2 ^ 52 - 1) * 2 ^ 52 + 2 ^ 52 = r / 2 ^ 52 * 2 ^ 52 := by
      rw [← Nat.succ_mul]; congr 1; omega
    rw [Nat.mul_comm] at x
    have z : (r / 2 ^ 52 - 1) * 2 ^ 52 + (2 ^ 52 + r % 2 ^ 52) = (r / 2 ^ 52 - 1) * 2 ^ 52 + 2 ^ 52 + r % 2 ^ 52 := by rw [Nat.add_assoc]
    rw [z, y, x]

theorem RQ_exact (r D : Nat) (hD : 0 < D) : RQ (val r * D) D = r := by
  have := RQ_mul (val r) 1 D hD
  rw [Nat.one_mul] at this
  rw [this, RQ_val]

theorem val_mono_iff (r s : Nat) : val r ≤ val s ↔ r ≤ s := by
  have back : ∀ a b, val a ≤ val b → a ≤ b := by
    intro a b h
    have := RQ_mono1 1 (by decide) h
    rwa [RQ_val, RQ_val] at this
  refine ⟨back r s, fun h => ?_⟩
  rcases Nat.lt_or_ge (val s) (val r) with g | g
  · have e := back s r (Nat.le_of_lt g)
    have : r = s := Nat.le_antisymm h e
    rw [this]; exact Nat.le_refl _
  · exact g

theorem val_lt_iff (r s : Nat) : val r < val s ↔ r < s := by
  have := val_mono_iff s r
  omega

theorem val_inj {r s : Nat} (h : val r = val s) : r = s :=
  Nat.le_antisymm ((val_mono_iff r s).1 (Nat.le_of_eq h)) ((val_mono_iff s r).1 (Nat.le_of_eq h.symm))

theorem val_zero : val 0 = 0 := by decide

/-- A number at most (at least) a rung's rounds to at most (at least) it. -/
theorem RQ_le {N D r : Nat} (hD : 0 < D) (h : N ≤ val r * D) : RQ N D ≤ r := by
  have := RQ_mono1 D hD h
  rwa [RQ_exact r D hD] at this
theorem le_RQ {N D r : Nat} (hD : 0 < D) (h : val r * D ≤ N) : r ≤ RQ N D := by
  have := RQ_mono1 D hD h
  rwa [RQ_exact r D hD] at this

/-- A quotient cut off behind enough digits, with one digit more that tells whether anything was left over, rounds as the quotient itself. -/
theorem rhe_sticky (D n h : Nat) (hn : 0 < n) (hh : 0 < h) :
    rhe (2 * (D / n) + (D % n != 0).toNat) (4 * h) = rhe D (n * (2 * h)) := by
  generalize hs : (D % n != 0).toNat = s
  have s1 : s ≤ 1 := by rw [← hs]; exact Bool.toNat_le _
  have s0 : s = 0 ↔ D % n = 0 := by
    rw [← hs]
    by_cases z : D % n = 0 <;> simp [z]
  have hD := Nat.div_add_mod D n
  have hr : D % n < n := Nat.mod_lt _ hn
  generalize D / n = Q at *
  generalize D % n = e at *
  subst hD
  have hQ := Nat.div_add_mod Q (2 * h)
  have hu : Q % (2 * h) < 2 * h := Nat.mod_lt _ (by omega)
  generalize Q / (2 * h) = k at *
  generalize Q % (2 * h) = u at *
  subst hQ
  have d1 : (2 * (2 * h * k + u) + s) = 4 * h * k + (2 * u + s) := by
    rw [Nat.mul_add, ← Nat.mul_assoc, ← Nat.mul_assoc, Nat.add_assoc]
  have lt1 : 2 * u + s < 4 * h := by omega
  have d2 : n * (2 * h * k + u) + e = n * (2 * h) * k + (n * u + e) := by
    rw [Nat.mul_add, ← Nat.mul_assoc, Nat.add_assoc]
  have lt2 : n * u + e < n * (2 * h) := by
    have : n * (u + 1) ≤ n * (2 * h) := Nat.mul_le_mul_left _ hu
    rw [Nat.mul_add, Nat.mul_one] at this
    omega
  have q1 : (4 * h * k + (2 * u + s)) / (4 * h) = k := by
    rw [Nat.mul_add_div (by omega), Nat.div_eq_of_lt lt1, Nat.add_zero]
  have m1 : (4 * h * k + (2 * u + s)) % (4 * h) = 2 * u + s := by
    rw [Nat.mul_add_mod, Nat.mod_eq_of_lt lt1]
  have q2 : (n * (2 * h) * k + (n * u + e)) / (n * (2 * h)) = k := by
    rw [Nat.mul_add_div (Nat.mul_pos hn (by omega)), Nat.div_eq_of_lt lt2, Nat.add_zero]
  have m2 : (n * (2 * h) * k + (n * u + e)) % (n * (2 * h)) = n * u + e := by
    rw [Nat.mul_add_mod, Nat.mod_eq_of_lt lt2]
  rw [d1, d2]
  unfold rhe
  rw [q1, m1, q2, m2]
  have c : n * (2 * h) = 2 * (n * h) := by rw [← Nat.mul_assoc, Nat.mul_comm n 2, Nat.mul_assoc]
  have below : u < h → n * u + n ≤ n * h := fun z => by
    have : n * (u + 1) ≤ n * h := Nat.mul_le_mul_left _ z
    rwa [Nat.mul_add, Nat.mul_one] at this
  have above : h < u → n * h + n ≤ n * u := fun z => by
    have : n * (h + 1) ≤ n * u := Nat.mul_le_mul_left _ z
    rwa [Nat.mul_add, Nat.mul_one] at this
  have A : decide (4 * h < 2 * (2 * u + s)) = decide (n * (2 * h) < 2 * (n * u + e)) := by
    refine decide_eq_decide.2 ?_
    rw [c]
    rcases Nat.lt_trichotomy u h with z | z | z
    · have := below z; omega
    · subst z; omega
    · have := above z; omega
  have B : decide (4 * h = 2 * (2 * u + s)) = decide (n * (2 * h) = 2 * (n * u + e)) := by
    refine decide_eq_decide.2 ?_
    rw [c]
    rcases Nat.lt_trichotomy u h with z | z | z
    · have := below z; omega
    · subst z; omega
    · have := above z; omega
  rw [A, B]

end Go.Proofs.Ytilhhgkplonipaa
