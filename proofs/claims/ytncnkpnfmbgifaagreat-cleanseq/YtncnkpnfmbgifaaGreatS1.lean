/- Texts of this seat, one behind the other: FMath, FIeee, FOps. -/
import Derived.Laws.FloatArith
/- Rounding to a rung, of a number that is a quotient of whole numbers (units of 2 ^ -1074): monotone, and exact where the number is one. -/
namespace Go.Proofs.YtncnkpnfmbgifaaGreat
set_option linter.unusedVariables false
set_option maxRecDepth 4000

def rhe (n g : Nat) : Nat := n / g + (decide (g < 2 * (n % g)) || (decide (g = 2 * (n % g)) && decide (n / g % 2 = 1))).toNat

theorem rhe_one (n : Nat) : rhe n 1 = n := by
  simp [rhe, Nat.mod_one]

theorem rhe_le (n g : Nat) : rhe n g ≤ n / g + 1 := by
  unfold rhe
  have := Bool.toNat_le (decide (g < 2 * (n % g)) || (decide (g = 2 * (n % g)) && decide (n / g % 2 = 1)))
  omega

theorem le_rhe (n g : Nat) : n / g ≤ rhe n g := by unfold rhe; omega

theorem rhe_mul (n g c : Nat) (hc : 0 < c) : rhe (n * c) (g * c) = rhe n g := by
  unfold rhe
  rw [Nat.mul_div_mul_right _ _ hc, Nat.mul_mod_mul_right]
  have e : 2 * (n % g * c) = 2 * (n % g) * c := by rw [Nat.mul_assoc]
  rw [e]
  have a : decide (g * c < 2 * (n % g) * c) = decide (g < 2 * (n % g)) :=
    decide_eq_decide.2 (Nat.mul_lt_mul_right hc)
  have b : decide (g * c = 2 * (n % g) * c) = decide (g = 2 * (n % g)) :=
    decide_eq_decide.2 ⟨fun h => Nat.eq_of_mul_eq_mul_right hc h, fun h => by rw [← h]⟩
  rw [a, b]

theorem rhe_exact (n g : Nat) (hg : 0 < g) : rhe (n * g) g = n := by
  have := rhe_mul n 1 g hg
  rw [Nat.one_mul] at this
  rw [this, rhe_one]

theorem rhe_mono {n m : Nat} (g : Nat) (h : n ≤ m) : rhe n g ≤ rhe m g := by
  by_cases hg : g = 0
  · subst hg
    simp only [rhe, Nat.div_zero, Nat.mod_zero]
    have key : (decide (0 < 2 * n) || (decide (0 = 2 * n) && decide (0 % 2 = 1))).toNat ≤ (decide (0 < 2 * m) || (decide (0 = 2 * m) && decide (0 % 2 = 1))).toNat := by
      by_cases a : n = 0
      · subst a; simp
      · have : 0 < 2 * n := by omega
        have : 0 < 2 * m := by omega
        simp [*]
    omega
  have hd : n / g ≤ m / g := Nat.div_le_div_right h
  rcases Nat.lt_or_ge (n / g) (m / g) with h1 | h1
  · have a := rhe_le n g
    have b := le_rhe m g
    omega
  · have e : n / g = m / g := Nat.le_antisymm hd h1
    have r : n % g ≤ m % g := by
      have x := Nat.div_add_mod n g
      have y := Nat.div_add_mod m g
      rw [e] at x
      omega
    unfold rhe
    rw [e]
    have key : (decide (g < 2 * (n % g)) || (decide (g = 2 * (n % g)) && decide (m / g % 2 = 1))).toNat ≤ (decide (g < 2 * (m % g)) || (decide (g = 2 * (m % g)) && decide (m / g % 2 = 1))).toNat := by
      by_cases p : g < 2 * (m % g)
      · simp only [p, decide_true, Bool.true_or, Bool.toNat_true]
        exact Bool.toNat_le _
      · have p1 : ¬ g < 2 * (n % g) := by omega
        by_cases q : g = 2 * (n % g)
        · have q2 : g = 2 * (m % g) := by omega
          rw [decide_eq_false p, decide_eq_false p1, decide_eq_true q, decide_eq_true q2]
          exact Nat.le_refl _
        · rw [decide_eq_false p1, decide_eq_false q]
          simp
    omega

theorem log2_le_of (n k : Nat) (h : n < 2 ^ (k + 1)) : n.log2 ≤ k := by
  by_cases z : n = 0
  · subst z; simp
  · have := (Nat.log2_lt z).2 h
    omega

theorem lt_of_log2 (n k : Nat) (h : n.log2 ≤ k) : n < 2 ^ (k + 1) := by
  by_cases z : n = 0
  · subst z; exact Nat.two_pow_pos _
  · exact (Nat.log2_lt z).1 (by omega)

theorem log2_mono {n m : Nat} (h : n ≤ m) : n.log2 ≤ m.log2 := by
  exact log2_le_of _ _ (Nat.lt_of_le_of_lt h (lt_of_log2 m _ (Nat.le_refl _)))

theorem le_of_log2 {n : Nat} (hn : n ≠ 0) : 2 ^ n.log2 ≤ n := Nat.log2_self_le hn

def lgQ (N D : Nat) : Nat := (N / D).log2 - 52

def RQ (N D : Nat) : Nat := lgQ N D * 2 ^ 52 + rhe N (D * 2 ^ lgQ N D)

theorem lgQ_mul (N D c : Nat) (hc : 0 < c) : lgQ (N * c) (D * c) = lgQ N D := by
  unfold lgQ; rw [Nat.mul_div_mul_right _ _ hc]

theorem RQ_mul (N D c : Nat) (hc : 0 < c) : RQ (N * c) (D * c) = RQ N D := by
  unfold RQ
  rw [lgQ_mul N D c hc, show D * c * 2 ^ lgQ N D = D * 2 ^ lgQ N D * c by rw [Nat.mul_assoc, Nat.mul_comm c, ← Nat.mul_assoc], rhe_mul _ _ _ hc]

theorem RQ_mono1 {N M : Nat} (D : Nat) (hD : 0 < D) (h : N ≤ M) : RQ N D ≤ RQ M D := by
  have hl : lgQ N D ≤ lgQ M D := by
    unfold lgQ
    have := log2_mono (Nat.div_le_div_right (c := D) h)
    omega
  unfold RQ
  rcases Nat.lt_or_ge (lgQ N D) (lgQ M D) with h1 | h1
  · have a : rhe N (D * 2 ^ lgQ N D) ≤ 2 ^ 53 := by
      have b : N / D < 2 ^ (52 + lgQ N D + 1) := lt_of_log2 _ _ (by unfold lgQ; omega)
      have c : N / (D * 2 ^ lgQ N D) < 2 ^ 53 := by
        rw [← Nat.div_div_eq_div_mul]
        refine Nat.div_lt_of_lt_mul ?_
        rw [← Nat.pow_add]
        rwa [show lgQ N D + 53 = 52 + lgQ N D + 1 by omega]
      have d := rhe_le N (D * 2 ^ lgQ N D)
      omega
    have b : 2 ^ 52 ≤ rhe M (D * 2 ^ lgQ M D) := by
      refine Nat.le_trans ?_ (le_rhe _ _)
      rw [← Nat.div_div_eq_div_mul]
      have hl2 : lgQ M D + 52 = (M / D).log2 := by unfold lgQ at h1 ⊢; omega
      have nz : M / D ≠ 0 := by
        intro z
        rw [z] at hl2
        have : (0 : Nat).log2 = 0 := by simp
        omega
      refine (Nat.le_div_iff_mul_le (Nat.two_pow_pos _)).2 ?_
      rw [← Nat.pow_add, Nat.add_comm, hl2]
      exact le_of_log2 nz
    have c : (lgQ N D + 1) * 2 ^ 52 ≤ lgQ M D * 2 ^ 52 := Nat.mul_le_mul_right _ h1
    have d : (lgQ N D + 1) * 2 ^ 52 = lgQ N D * 2 ^ 52 + 2 ^ 52 := by rw [Nat.add_mul, Nat.one_mul]
    have e : (2 : Nat) ^ 53 = 2 ^ 52 + 2 ^ 52 := by decide
    omega
  · have e : lgQ N D = lgQ M D := Nat.le_antisymm hl h1
    rw [e]
    exact Nat.add_le_add_left (rhe_mono _ h) _

theorem RQ_mono {N D M E : Nat} (hD : 0 < D) (hE : 0 < E) (h : N * E ≤ M * D) : RQ N D ≤ RQ M E := by
  rw [← RQ_mul N D E hE, ← RQ_mul M E D hD, Nat.mul_comm E D]
  exact RQ_mono1 _ (Nat.mul_pos hD hE) h

theorem RQ_eq {N D M E : Nat} (hD : 0 < D) (hE : 0 < E) (h : N * E = M * D) : RQ N D = RQ M E :=
  Nat.le_antisymm (RQ_mono hD hE (Nat.le_of_eq h)) (RQ_mono hE hD (Nat.le_of_eq h.symm))

def val (r : Nat) : Nat := if r < 2 ^ 52 then r else (2 ^ 52 + r % 2 ^ 52) * 2 ^ (r / 2 ^ 52 - 1)

theorem RQ_val (r : Nat) : RQ (val r) 1 = r := by
  unfold val
  split
  · rename_i h
    have l : lgQ r 1 = 0 := by
      unfold lgQ
      rw [Nat.div_one]
      have := log2_le_of r 51 h
      omega
    unfold RQ
    rw [l]
    simp [rhe_one]
  · rename_i h
    have l : lgQ ((2 ^ 52 + r % 2 ^ 52) * 2 ^ (r / 2 ^ 52 - 1)) 1 = r / 2 ^ 52 - 1 := by
      unfold lgQ
      rw [Nat.div_one]
      have m : r % 2 ^ 52 < 2 ^ 52 := Nat.mod_lt _ (Nat.two_pow_pos _)
      have up : ((2 ^ 52 + r % 2 ^ 52) * 2 ^ (r / 2 ^ 52 - 1)).log2 ≤ 52 + (r / 2 ^ 52 - 1) := by
        refine log2_le_of _ _ ?_
        rw [show 52 + (r / 2 ^ 52 - 1) + 1 = 53 + (r / 2 ^ 52 - 1) by omega, Nat.pow_add]
        exact Nat.mul_lt_mul_of_pos_right (by have e : (2 : Nat) ^ 53 = 2 ^ 52 + 2 ^ 52 := by decide
                                              omega) (Nat.two_pow_pos _)
      have lo : 52 + (r / 2 ^ 52 - 1) ≤ ((2 ^ 52 + r % 2 ^ 52) * 2 ^ (r / 2 ^ 52 - 1)).log2 := by
        refine (Nat.le_log2 ?_).2 ?_
        · have : 0 < (2 ^ 52 + r % 2 ^ 52) * 2 ^ (r / 2 ^ 52 - 1) := Nat.mul_pos (by omega) (Nat.two_pow_pos _)
          omega
        · rw [Nat.pow_add]
          exact Nat.mul_le_mul_right _ (by omega)
      omega
    unfold RQ
    rw [l, Nat.one_mul, rhe_exact _ _ (Nat.two_pow_pos _)]
    have q : 1 ≤ r / 2 ^ 52 := (Nat.le_div_iff_mul_le (Nat.two_pow_pos _)).2 (by omega)
    have x := Nat.div_add_mod r (2 ^ 52)
    have y : (r / 2 ^ 52 - 1) * 2 ^ 52 + 2 ^ 52 = r / 2 ^ 52 * 2 ^ 52 := by
      rw [← Nat.succ_mul]; congr 1; omega
    rw [Nat.mul_comm] at x
    have z : (r / 2 ^ 52 - 1) * 2 ^ 52 + (2 ^ 52 + r % 2 ^ 52) = (r / 2 ^ 52 - 1) * 2 ^ 52 + 2 ^ 52 + r % 2 ^ 52 := by rw [Nat.add_assoc]
    rw [z, y, x]

theorem RQ_exact (r D : Nat) (hD : 0 < D) : RQ (val r * D) D = r := by
  have := RQ_mul (val r) 1 D hD
  rw [Nat.one_mul] at this
  rw [this, RQ_val]

theorem val_mono_iff (r s : Nat) : val r ≤ val s ↔ r ≤ s := by
  have back : ∀ a b, val a ≤ val b → a ≤ b := by
    intro a b h
    have := RQ_mono1 1 (by decide) h
    rwa [RQ_val, RQ_val] at this
  refine ⟨back r s, fun h => ?_⟩
  rcases Nat.lt_or_ge (val s) (val r) with g | g
  · have e := back s r (Nat.le_of_lt g)
    have : r = s := Nat.le_antisymm h e
    rw [this]; exact Nat.le_refl _
  · exact g

theorem val_lt_iff (r s : Nat) : val r < val s ↔ r < s := by
  have := val_mono_iff s r
  omega

theorem val_zero : val 0 = 0 := by decide

theorem RQ_le {N D r : Nat} (hD : 0 < D) (h : N ≤ val r * D) : RQ N D ≤ r := by
  have := RQ_mono1 D hD h
  rwa [RQ_exact r D hD] at this
theorem le_RQ {N D r : Nat} (hD : 0 < D) (h : val r * D ≤ N) : r ≤ RQ N D := by
  have := RQ_mono1 D hD h
  rwa [RQ_exact r D hD] at this

theorem rhe_sticky (D n h : Nat) (hn : 0 < n) (hh : 0 < h) :
    rhe (2 * (D / n) + (D % n != 0).toNat) (4 * h) = rhe D (n * (2 * h)) := by
  generalize hs : (D % n != 0).toNat = s
  have s1 : s ≤ 1 := by rw [← hs]; exact Bool.toNat_le _
  have s0 : s = 0 ↔ D % n = 0 := by
    rw [← hs]
    by_cases z : D % n = 0 <;> simp [z]
  have hD := Nat.div_add_mod D n
  have hr : D % n < n := Nat.mod_lt _ hn
  generalize D / n = Q at *
  generalize D % n = e at *
  subst hD
  have hQ := Nat.div_add_mod Q (2 * h)
  have hu : Q % (2 * h) < 2 * h := Nat.mod_lt _ (by omega)
  generalize Q / (2 * h) = k at *
  generalize Q % (2 * h) = u at *
  subst hQ
  have d1 : (2 * (2 * h * k + u) + s) = 4 * h * k + (2 * u + s) := by
    rw [Nat.mul_add, ← Nat.mul_assoc, ← Nat.mul_assoc, Nat.add_assoc]
  have lt1 : 2 * u + s < 4 * h := by omega
  have d2 : n * (2 * h * k + u) + e = n * (2 * h) * k + (n * u + e) := by
    rw [Nat.mul_add, ← Nat.mul_assoc, Nat.add_assoc]
  have lt2 : n * u + e < n * (2 * h) := by
    have : n * (u + 1) ≤ n * (2 * h) := Nat.mul_le_mul_left _ hu
    rw [Nat.mul_add, Nat.mul_one] at this
    omega
  have q1 : (4 * h * k + (2 * u + s)) / (4 * h) = k := by
    rw [Nat.mul_add_div (by omega), Nat.div_eq_of_lt lt1, Nat.add_zero]
  have m1 : (4 * h * k + (2 * u + s)) % (4 * h) = 2 * u + s := by
    rw [Nat.mul_add_mod, Nat.mod_eq_of_lt lt1]
  have q2 : (n * (2 * h) * k + (n * u + e)) / (n * (2 * h)) = k := by
    rw [Nat.mul_add_div (Nat.mul_pos hn (by omega)), Nat.div_eq_of_lt lt2, Nat.add_zero]
  have m2 : (n * (2 * h) * k + (n * u + e)) % (n * (2 * h)) = n * u + e := by
    rw [Nat.mul_add_mod, Nat.mod_eq_of_lt lt2]
  rw [d1, d2]
  unfold rhe
  rw [q1, m1, q2, m2]
  have c : n * (2 * h) = 2 * (n * h) := by rw [← Nat.mul_assoc, Nat.mul_comm n 2, Nat.mul_assoc]
  have below : u < h → n * u + n ≤ n * h := fun z => by
    have : n * (u + 1) ≤ n * h := Nat.mul_le_mul_left _ z
    rwa [Nat.mul_add, Nat.mul_one] at this
  have above : h < u → n * h + n ≤ n * u := fun z => by
    have : n * (h + 1) ≤ n * u := Nat.mul_le_mul_left _ z
    rwa [Nat.mul_add, Nat.mul_one] at this
  have A : decide (4 * h < 2 * (2 * u + s)) = decide (n * (2 * h) < 2 * (n * u + e)) := by
    refine decide_eq_decide.2 ?_
    rw [c]
    rcases Nat.lt_trichotomy u h with z | z | z
    · have := below z; omega
    · subst z; omega
    · have := above z; omega
  have B : decide (4 * h = 2 * (2 * u + s)) = decide (n * (2 * h) = 2 * (n * u + e)) := by
    refine decide_eq_decide.2 ?_
    rw [c]
    rcases Nat.lt_trichotomy u h with z | z | z
    · have := below z; omega
    · subst z; omega
    · have := above z; omega
  rw [A, B]

end Go.Proofs.YtncnkpnfmbgifaaGreat

/- Ieee's operations on doubles, said by rungs: what each gives is the rung nearest to the exact answer. -/
namespace Go.Proofs.YtncnkpnfmbgifaaGreat
open Ieee
set_option linter.unusedVariables false
set_option maxRecDepth 4000

abbrev IR : Nat := 9218868437227405312

theorem d_inf : double.infRung = IR := by decide
theorem d_bin : double.binade = 2 ^ 52 := rfl
theorem d_sw : double.signWeight = 2 ^ 63 := rfl
theorem d_fr : double.fractionBits = 52 := rfl
theorem d_lp : double.leastPlace = -1074 := by decide

theorem cut_even (neg : Bool) (n drop : Nat) : Toward.even.cut neg n drop = rhe n (2 ^ drop) := by
  have plain : ∀ g, (n / g + (decide (g < 2 * (n % g)) || (g == 2 * (n % g) && n / g % 2 == 1)).toNat) = rhe n g := by
    intro g
    unfold rhe
    congr 2
  unfold Toward.cut
  simp only [Nat.one_shiftLeft]
  rcases Nat.lt_or_ge (n.log2 + 2) drop with h | h
  · rw [Nat.min_eq_right (Nat.le_of_lt h)]
    rw [plain]
    have small : ∀ k, n.log2 + 2 ≤ k → rhe n (2 ^ k) = 0 := by
      intro k hk
      have a : n < 2 ^ (n.log2 + 1) := lt_of_log2 n _ (Nat.le_refl _)
      have b : 2 ^ (n.log2 + 1) * 2 ≤ 2 ^ k := by
        rw [← Nat.pow_succ]; exact Nat.pow_le_pow_right (by decide) hk
      unfold rhe
      rw [Nat.div_eq_of_lt (by omega), Nat.mod_eq_of_lt (by omega), decide_eq_false (by omega), decide_eq_false (by omega)]
      rfl
    rw [small _ (Nat.le_refl _), small _ (Nat.le_of_lt h)]
  · rw [Nat.min_eq_left h]
    exact plain _

theorem log2_mul_pow (m k : Nat) (hm : m ≠ 0) : (m * 2 ^ k).log2 = m.log2 + k := by
  have nz : m * 2 ^ k ≠ 0 := by
    have := Nat.mul_pos (Nat.pos_of_ne_zero hm) (Nat.two_pow_pos k)
    omega
  refine Nat.le_antisymm (log2_le_of _ _ ?_) ((Nat.le_log2 nz).2 ?_)
  · rw [show m.log2 + k + 1 = m.log2 + 1 + k by omega, Nat.pow_add]
    exact Nat.mul_lt_mul_of_pos_right (lt_of_log2 m _ (Nat.le_refl _)) (Nat.two_pow_pos _)
  · rw [Nat.pow_add]
    exact Nat.mul_le_mul_right _ (le_of_log2 hm)

theorem log2_div_pow (m k : Nat) : (m / 2 ^ k).log2 = m.log2 - k := by
  by_cases hm : m = 0
  · subst hm; simp
  rcases Nat.lt_or_ge m.log2 k with h | h
  · have : m < 2 ^ k := Nat.lt_of_lt_of_le (lt_of_log2 m _ (Nat.le_refl _)) (Nat.pow_le_pow_right (by decide) h)
    rw [Nat.div_eq_of_lt this]
    simp
    omega
  · have lo : 2 ^ (m.log2 - k) ≤ m / 2 ^ k := by
      refine (Nat.le_div_iff_mul_le (Nat.two_pow_pos _)).2 ?_
      rw [← Nat.pow_add, Nat.sub_add_cancel h]
      exact le_of_log2 hm
    have nz : m / 2 ^ k ≠ 0 := by
      have := Nat.two_pow_pos (m.log2 - k)
      omega
    refine Nat.le_antisymm (log2_le_of _ _ ?_) ((Nat.le_log2 nz).2 lo)
    refine Nat.div_lt_of_lt_mul ?_
    rw [← Nat.pow_add, show k + (m.log2 - k + 1) = m.log2 + 1 by omega]
    exact lt_of_log2 m _ (Nat.le_refl _)

theorem RQ_zero (D : Nat) : RQ 0 D = 0 := by
  simp [RQ, lgQ, rhe]

theorem nearest_RQ (neg : Bool) (mag : Nat) (place : Int) :
    double.nearest neg mag place = double.word neg (min (RQ (mag * 2 ^ (place + 1074).toNat) (2 ^ (-(place + 1074)).toNat)) IR) := by
  by_cases hm : mag = 0
  · subst hm
    unfold Format.nearest
    simp [RQ_zero]
  unfold Format.nearest
  rw [if_neg hm]
  simp only [d_fr, d_lp, d_bin, d_inf, cut_even, Nat.shiftLeft_eq]
  generalize he : place + 1074 = e
  have hp : place = e - 1074 := by omega
  subst hp
  -- the last place kept, counted from the least one
  obtain ⟨L, hL, hLe⟩ : ∃ L : Nat, max (e - 1074 + (mag.log2 : Int) - ((52 : Nat) : Int)) (-1074) = (L : Int) - 1074 ∧ (L = (e + mag.log2 - 52).toNat) :=
    ⟨(e + mag.log2 - 52).toNat, by omega, rfl⟩
  rw [hL]
  have l1 : ((L : Int) - 1074 - -1074).toNat = L := by omega
  have l2 : (e - 1074 - ((L : Int) - 1074)).toNat = (e - L).toNat := by congr 1; omega
  have l3 : ((L : Int) - 1074 - (e - 1074)).toNat = ((L : Int) - e).toNat := by congr 1; omega
  rw [l1, l2, l3]
  have lg : lgQ (mag * 2 ^ e.toNat) (2 ^ (-e).toNat) = L := by
    unfold lgQ
    rw [log2_div_pow, log2_mul_pow _ _ hm]
    omega
  have kept : rhe (mag * 2 ^ (e - (L : Int)).toNat) (2 ^ ((L : Int) - e).toNat) = rhe (mag * 2 ^ e.toNat) (2 ^ (-e).toNat * 2 ^ L) := by
    rw [← Nat.pow_add]
    rcases Int.le_total 0 e with h0 | h0
    · obtain ⟨c, hc⟩ : ∃ c, c = min e.toNat L := ⟨_, rfl⟩
      have p := rhe_mul (mag * 2 ^ (e - (L : Int)).toNat) (2 ^ ((L : Int) - e).toNat) (2 ^ c) (Nat.two_pow_pos _)
      have p1 : (e - (L : Int)).toNat + c = e.toNat := by omega
      have p2 : ((L : Int) - e).toNat + c = (-e).toNat + L := by omega
      rw [← p, Nat.mul_assoc, ← Nat.pow_add, ← Nat.pow_add, p1, p2]
    · rw [show (e - (L : Int)).toNat = e.toNat by omega, show ((L : Int) - e).toNat = (-e).toNat + L by omega]
  unfold RQ
  rw [lg, kept]

def sg (s : Bool) (n : Nat) : Int := if s then -(n : Int) else n

def sgn (x : Nat) : Bool := x / 2 ^ 63 % 2 == 1
def rung (x : Nat) : Nat := x % 2 ^ 63
def Nan (x : Nat) : Prop := IR < rung x
instance (x : Nat) : Decidable (Nan x) := inferInstanceAs (Decidable (_ < _))
def key (x : Nat) : Int := sg (sgn x) (val (rung x))

theorem read_fin (x : Nat) (h : rung x < IR) : ∃ m p, double.read x = .number (sgn x) m p ∧ 0 ≤ p + 1074 ∧ m * 2 ^ (p + 1074).toNat = val (rung x) := by
  unfold Format.read
  simp only [d_sw, d_bin, d_inf, d_lp]
  change rung x < IR at h
  by_cases a : rung x < 2 ^ 52
  · have a' : x % 2 ^ 63 < 2 ^ 52 := a
    rw [if_pos a']
    refine ⟨_, _, rfl, by omega, ?_⟩
    unfold val
    rw [if_pos a]
    simp [rung]
  · have a' : ¬ x % 2 ^ 63 < 2 ^ 52 := a
    have h' : x % 2 ^ 63 < IR := h
    rw [if_neg a', if_pos h']
    refine ⟨_, _, rfl, by omega, ?_⟩
    unfold val
    rw [if_neg a]
    unfold rung
    congr 2
    omega

theorem read_inf (x : Nat) (h : rung x = IR) : double.read x = .infinity (sgn x) := by
  unfold Format.read
  simp only [d_sw, d_bin, d_inf, d_lp]
  have h' : x % 2 ^ 63 = IR := h
  rw [if_neg (by rw [h']; decide), if_neg (by rw [h']; decide), if_pos h']
  rfl

theorem read_nan (x : Nat) (h : Nan x) : ∃ fr, double.read x = .nan (sgn x) fr := by
  unfold Format.read
  simp only [d_sw, d_bin, d_inf, d_lp]
  have h' : IR < x % 2 ^ 63 := h
  rw [if_neg (by have : 2 ^ 52 < IR := by decide
                 omega), if_neg (by omega), if_neg (by omega)]
  exact ⟨_, rfl⟩

theorem nan_parts (x : Nat) : Nan x ∨ rung x = IR ∨ rung x < IR := by
  unfold Nan; omega

theorem order_nan_left (x y : Nat) (h : Nan x) : double.order x y = none := by
  obtain ⟨f, e⟩ := read_nan x h
  unfold Format.order
  rw [e]
  cases double.read y <;> rfl
theorem compare_scale (a b : Int) (c : Int) (hc : 0 < c) : compare (a * c) (b * c) = compare a b := by
  simp only [compare, compareOfLessAndEq]
  have l : a * c < b * c ↔ a < b := ⟨fun h => Int.lt_of_mul_lt_mul_right h (Int.le_of_lt hc), fun h => Int.mul_lt_mul_of_pos_right h hc⟩
  have e : a * c = b * c ↔ a = b := ⟨fun h => Int.eq_of_mul_eq_mul_right (by omega) h, fun h => by rw [h]⟩
  simp only [l, e]

theorem compare_lt {a b : Int} : compare a b = .lt ↔ a < b := by
  simp only [compare, compareOfLessAndEq]
  split
  · simp [*]
  · split <;> simp <;> omega
theorem compare_gt {a b : Int} : compare a b = .gt ↔ b < a := by
  simp only [compare, compareOfLessAndEq]
  split
  · simp; omega
  · split <;> simp <;> omega
theorem compare_eq {a b : Int} : compare a b = .eq ↔ a = b := by
  simp only [compare, compareOfLessAndEq]
  split
  · simp; omega
  · split <;> simp [*]

theorem sg_shift (s : Bool) (m k c : Nat) : signed s m k * (2 ^ c : Nat) = sg s (m * 2 ^ (k + c)) := by
  unfold signed sg
  cases s
  · simp only [Nat.shiftLeft_eq, Bool.false_eq_true, if_false]
    rw [← Int.natCast_mul, Nat.mul_assoc, ← Nat.pow_add]
  · simp only [Nat.shiftLeft_eq, if_true]
    rw [Int.neg_mul, ← Int.natCast_mul, Nat.mul_assoc, ← Nat.pow_add]

theorem order_key (x y : Nat) (hx : ¬ Nan x) (hy : ¬ Nan y) : double.order x y = some (compare (key x) (key y)) := by
  have big : ∀ z, rung z < IR → val (rung z) < val IR := fun z h => (val_lt_iff _ _).2 h
  have fin : ∀ z, rung z < IR → -(val IR : Int) < key z ∧ key z < val IR := by
    intro z h
    have := big z h
    unfold key sg
    split <;> omega
  have pos : (0 : Int) < val IR := by
    have := (val_lt_iff 0 IR).2 (by decide)
    rw [val_zero] at this
    omega
  have infk : ∀ z, rung z = IR → key z = if sgn z then -(val IR : Int) else val IR := by
    intro z h; unfold key sg; rw [h]
  unfold Format.order
  rcases nan_parts x with n | a | a
  · exact absurd n hx
  · rw [read_inf x a]
    rcases nan_parts y with n | b | b
    · exact absurd n hy
    · rw [read_inf y b]
      unfold Datum.order
      rw [infk x a, infk y b]
      cases sgn x <;> cases sgn y
      · simp only [Bool.false_eq_true, if_false]; rw [compare_eq.2 rfl]; rfl
      · simp only [Bool.false_eq_true, if_false, if_true]; rw [compare_gt.2 (by omega)]; rfl
      · simp only [Bool.false_eq_true, if_false, if_true]; rw [compare_lt.2 (by omega)]; rfl
      · simp only [if_true]; rw [compare_eq.2 rfl]; rfl
    · obtain ⟨m, p, e, _, _⟩ := read_fin y b
      rw [e]
      unfold Datum.order
      rw [infk x a]
      have := fin y b
      cases sgn x
      · simp only [Bool.false_eq_true, if_false]; rw [compare_gt.2 (by omega)]
      · simp only [if_true]; rw [compare_lt.2 (by omega)]
  · obtain ⟨m, p, e, hp, hv⟩ := read_fin x a
    rw [e]
    rcases nan_parts y with n | b | b
    · exact absurd n hy
    · rw [read_inf y b]
      unfold Datum.order
      rw [infk y b]
      have := fin x a
      cases sgn y
      · simp only [Bool.false_eq_true, if_false]; rw [compare_lt.2 (by omega)]
      · simp only [if_true]; rw [compare_gt.2 (by omega)]
    · obtain ⟨n, q, e2, hq, hv2⟩ := read_fin y b
      rw [e2]
      unfold Datum.order
      simp only
      have c : (0 : Int) < ((2 ^ (min p q + 1074).toNat : Nat) : Int) := by
        have := Nat.two_pow_pos (min p q + 1074).toNat
        omega
      rw [← compare_scale _ _ _ c, sg_shift, sg_shift]
      unfold key
      rw [← hv, ← hv2]
      congr 6 <;> (congr 1; omega)

theorem order_self (x : Nat) (hx : ¬ Nan x) : double.order x x = some .eq := by
  rw [order_key x x hx hx, compare_eq.2 rfl]

theorem dsum (s t : Bool) (m n : Nat) (i j : Int) (hi : 0 ≤ i + 1074) (hj : 0 ≤ j + 1074) (T : Int)
    (hT : T = sg s (m * 2 ^ (i + 1074).toNat) + sg t (n * 2 ^ (j + 1074).toNat)) :
    ((Datum.sum (.number s m i) (.number t n j)).map double.write) = some (double.word (if T = 0 then s && t else decide (T < 0)) (min (RQ T.natAbs 1) IR)) := by
  unfold Datum.sum
  simp only [Option.map_some]
  generalize hb : min i j = base
  generalize ht : signed s m (i - base).toNat + signed t n (j - base).toNat = total
  have c : (0 : Int) < ((2 ^ (base + 1074).toNat : Nat) : Int) := by
    have := Nat.two_pow_pos (base + 1074).toNat
    omega
  have e : T = total * ((2 ^ (base + 1074).toNat : Nat) : Int) := by
    rw [← ht, Int.add_mul, sg_shift, sg_shift, hT]
    congr 3 <;> (congr 1; omega)
  have z : T = 0 ↔ total = 0 := by
    rw [e]
    constructor
    · intro h
      rcases Int.mul_eq_zero.1 h with h | h <;> omega
    · intro h; rw [h, Int.zero_mul]
  have l : T < 0 ↔ total < 0 := by
    rw [e]
    constructor
    · intro h
      rcases Int.lt_or_le total 0 with g | g
      · exact g
      · have := Int.mul_nonneg g (Int.le_of_lt c)
        omega
    · intro h; exact Int.mul_neg_of_neg_of_pos h c
  have ab : T.natAbs = total.natAbs * 2 ^ (base + 1074).toNat := by
    rw [e, Int.natAbs_mul, Int.natAbs_natCast]
  dsimp only [Format.write]
  rw [nearest_RQ, ab]
  have q0 : (-(base + 1074)).toNat = 0 := by omega
  rw [q0, Nat.pow_zero]
  simp only [z, l]

end Go.Proofs.YtncnkpnfmbgifaaGreat

/- What the four operations give on doubles, by rungs; what a whole number gives; that no operation of two numbers gives bits of no number. -/
namespace Go.Proofs.YtncnkpnfmbgifaaGreat
open Ieee
set_option linter.unusedVariables false
set_option maxRecDepth 4000

def EE : Nat := 1074
theorem ee : EE = 1074 := by unfold EE; rfl

theorem word_lt64 (s : Bool) (r : Nat) (h : r < 2 ^ 63) : double.word s r < 2 ^ 64 := by
  unfold Format.word; rw [d_sw]; cases s <;> simp <;> omega
theorem rung_word (s : Bool) (r : Nat) (h : r < 2 ^ 63) : rung (double.word s r) = r := by
  unfold rung Format.word; rw [d_sw]; cases s <;> simp <;> omega
theorem ir_lt : IR < 2 ^ 63 := by decide
theorem min_lt (a : Nat) : min a IR < 2 ^ 63 := Nat.lt_of_le_of_lt (Nat.min_le_right _ _) ir_lt
theorem word_not_nan (s : Bool) (r : Nat) (h : r ≤ IR) : ¬ Nan (double.word s r) := by
  unfold Nan; rw [rung_word s r (Nat.lt_of_le_of_lt h ir_lt)]; omega

theorem val_pos {r : Nat} (h : r ≠ 0) : 0 < val r := by
  have := (val_lt_iff 0 r).2 (by omega)
  rwa [val_zero] at this

theorem sticky_RQ (D n : Nat) (P : Int) (hn : 0 < n) (hQ : 2 ^ 53 ≤ D / n) :
    RQ ((2 * (D / n) + (D % n != 0).toNat) * 2 ^ P.toNat) (2 ^ (-P).toNat) = RQ (D * 2 ^ (P + 1).toNat) (n * 2 ^ (-(P + 1)).toNat) := by
  have s1 : (D % n != 0).toNat ≤ 1 := Bool.toNat_le _
  have st := rhe_sticky D n
  generalize (D % n != 0).toNat = s at *
  have hQ0 : D / n ≠ 0 := by
    have := Nat.two_pow_pos 53
    omega
  -- the logarithm of the quotient
  have lQ : 53 ≤ (D / n).log2 := (Nat.le_log2 hQ0).2 hQ
  have lA : (2 * (D / n) + s).log2 = (D / n).log2 + 1 := by
    have nz : 2 * (D / n) + s ≠ 0 := by omega
    have lo := le_of_log2 hQ0
    have hi := lt_of_log2 (D / n) _ (Nat.le_refl _)
    refine Nat.le_antisymm (log2_le_of _ _ ?_) ((Nat.le_log2 nz).2 ?_)
    · rw [Nat.pow_succ]; omega
    · rw [Nat.pow_succ]; omega
  have A0 : 2 * (D / n) + s ≠ 0 := by omega
  obtain ⟨L, hL⟩ : ∃ L : Nat, L = ((D / n).log2 + 1 + P - 52).toNat := ⟨_, rfl⟩
  have l1 : lgQ ((2 * (D / n) + s) * 2 ^ P.toNat) (2 ^ (-P).toNat) = L := by
    unfold lgQ
    rw [log2_div_pow, log2_mul_pow _ _ A0, lA]
    omega
  have l2 : lgQ (D * 2 ^ (P + 1).toNat) (n * 2 ^ (-(P + 1)).toNat) = L := by
    unfold lgQ
    rw [← Nat.div_div_eq_div_mul, log2_div_pow]
    have : (D * 2 ^ (P + 1).toNat / n).log2 = (D / n).log2 + (P + 1).toNat := by
      have hi := lt_of_log2 (D / n) _ (Nat.le_refl _)
      have lo := le_of_log2 hQ0
      have up : D < 2 ^ ((D / n).log2 + 1) * n := by
        have := Nat.div_lt_iff_lt_mul hn (x := D) (y := 2 ^ ((D / n).log2 + 1))
        exact this.1 hi
      have dn : 2 ^ (D / n).log2 * n ≤ D := (Nat.le_div_iff_mul_le hn).1 lo
      have up2 : D * 2 ^ (P + 1).toNat / n < 2 ^ ((D / n).log2 + (P + 1).toNat + 1) := by
        refine (Nat.div_lt_iff_lt_mul hn).2 ?_
        rw [show (D / n).log2 + (P + 1).toNat + 1 = (D / n).log2 + 1 + (P + 1).toNat by omega, Nat.pow_add, Nat.mul_assoc, Nat.mul_comm (2 ^ (P + 1).toNat) n, ← Nat.mul_assoc]
        exact Nat.mul_lt_mul_of_pos_right up (Nat.two_pow_pos _)
      have dn2 : 2 ^ ((D / n).log2 + (P + 1).toNat) ≤ D * 2 ^ (P + 1).toNat / n := by
        refine (Nat.le_div_iff_mul_le hn).2 ?_
        rw [Nat.pow_add, Nat.mul_assoc, Nat.mul_comm (2 ^ (P + 1).toNat) n, ← Nat.mul_assoc]
        exact Nat.mul_le_mul_right _ dn
      have nz : D * 2 ^ (P + 1).toNat / n ≠ 0 := by
        have := Nat.two_pow_pos ((D / n).log2 + (P + 1).toNat)
        omega
      exact Nat.le_antisymm (log2_le_of _ _ up2) ((Nat.le_log2 nz).2 dn2)
    rw [this]
    omega
  unfold RQ
  rw [l1, l2]
  congr 1
  obtain ⟨h, hh⟩ : ∃ h : Nat, h = ((L : Int) - P - 2).toNat := ⟨_, rfl⟩
  have e1 : 2 ^ (-P).toNat * 2 ^ L = 4 * 2 ^ h * 2 ^ P.toNat := by
    rw [show (4 : Nat) = 2 ^ 2 by rfl, ← Nat.pow_add, ← Nat.pow_add, ← Nat.pow_add]
    congr 1
    omega
  have e2 : n * 2 ^ (-(P + 1)).toNat * 2 ^ L = n * (2 * 2 ^ h) * 2 ^ (P + 1).toNat := by
    rw [Nat.mul_assoc, Nat.mul_assoc]
    congr 1
    rw [show (2 : Nat) * 2 ^ h = 2 ^ (1 + h) by rw [Nat.pow_add, Nat.pow_one], ← Nat.pow_add, ← Nat.pow_add]
    congr 1
    omega
  rw [e1, e2, rhe_mul _ _ _ (Nat.two_pow_pos _), rhe_mul _ _ _ (Nat.two_pow_pos _)]
  exact st (2 ^ h) hn (Nat.two_pow_pos _)

theorem div_fin (x y : Nat) (hx : rung x < IR) (hy : rung y < IR) (h0 : rung y ≠ 0) :
    double.div x y = some (double.word (sgn x ^^ sgn y) (min (RQ (val (rung x) * 2 ^ EE) (val (rung y))) IR)) := by
  obtain ⟨m, i, e, hi, hv⟩ := read_fin x hx
  obtain ⟨n, j, e2, hj, hv2⟩ := read_fin y hy
  have vy := val_pos h0
  have n0 : n ≠ 0 := by
    intro z
    rw [z, Nat.zero_mul] at hv2
    omega
  unfold Format.div
  rw [e, e2]
  unfold Datum.quotient
  simp only [if_neg n0, d_fr, Option.map_some]
  by_cases m0 : m = 0
  · subst m0
    rw [Nat.zero_mul] at hv
    dsimp only [Format.write]
    rw [nearest_RQ, ← hv]
    simp [RQ_zero]
  obtain ⟨more, hmore⟩ : ∃ more, more = 52 + 2 + n.log2 - m.log2 := ⟨_, rfl⟩
  rw [← hmore]
  dsimp only [Format.write]
  rw [nearest_RQ]
  refine congrArg (fun r => some (double.word (sgn x ^^ sgn y) (min r IR))) ?_
  rw [Nat.shiftLeft_eq]
  have big : 2 ^ 53 ≤ m * 2 ^ more / n := by
    have a := le_of_log2 m0
    have b := lt_of_log2 n _ (Nat.le_refl _)
    refine (Nat.le_div_iff_mul_le (Nat.pos_of_ne_zero n0)).2 ?_
    have c : 2 ^ (m.log2 + more) ≤ m * 2 ^ more := by
      rw [Nat.pow_add]; exact Nat.mul_le_mul_right _ a
    have d : 2 ^ 53 * n ≤ 2 ^ (53 + (n.log2 + 1)) := by
      rw [Nat.pow_add]; exact Nat.mul_le_mul_left _ (Nat.le_of_lt b)
    have f : 2 ^ (53 + (n.log2 + 1)) ≤ 2 ^ (m.log2 + more) := Nat.pow_le_pow_right (by decide) (by omega)
    omega
  have st := sticky_RQ (m * 2 ^ more) n (i - j - (more : Int) - 1 + 1074) (Nat.pos_of_ne_zero n0) big
  rw [st]
  refine RQ_eq (Nat.mul_pos (Nat.pos_of_ne_zero n0) (Nat.two_pow_pos _)) vy ?_
  rw [← hv, ← hv2]
  have g : ∀ a b c d : Nat, a + b + c = d → m * 2 ^ a * 2 ^ b * (n * 2 ^ c) = m * n * 2 ^ d := by
    intro a b c d h
    rw [← h, Nat.pow_add, Nat.pow_add]
    ac_rfl
  have g2 : ∀ a b c d : Nat, a + b + c = d → m * 2 ^ a * 2 ^ b * (n * 2 ^ c) = m * n * 2 ^ d := g
  rw [g _ _ _ _ rfl, g2 _ _ _ _ rfl]
  have hE := ee
  refine congrArg (fun k => m * n * 2 ^ k) ?_
  omega

theorem mul_fin (x y : Nat) (hx : rung x < IR) (hy : rung y < IR) :
    double.mul x y = some (double.word (sgn x ^^ sgn y) (min (RQ (val (rung x) * val (rung y)) (2 ^ EE)) IR)) := by
  obtain ⟨m, i, e, hi, hv⟩ := read_fin x hx
  obtain ⟨n, j, e2, hj, hv2⟩ := read_fin y hy
  unfold Format.mul
  rw [e, e2]
  unfold Datum.product
  simp only [Option.map_some]
  dsimp only [Format.write]
  rw [nearest_RQ]
  refine congrArg (fun r => some (double.word (sgn x ^^ sgn y) (min r IR))) ?_
  refine RQ_eq (Nat.two_pow_pos _) (Nat.two_pow_pos _) ?_
  rw [← hv, ← hv2]
  have g : ∀ a b d : Nat, a + b = d → m * n * 2 ^ a * 2 ^ b = m * n * 2 ^ d := by
    intro a b d h
    rw [← h, Nat.pow_add, Nat.mul_assoc]
  have g2 : ∀ a b c d : Nat, a + b + c = d → m * 2 ^ a * (n * 2 ^ b) * 2 ^ c = m * n * 2 ^ d := by
    intro a b c d h
    rw [← h, Nat.pow_add, Nat.pow_add]
    ac_rfl
  rw [g _ _ _ rfl, g2 _ _ _ _ rfl]
  have hE := ee
  refine congrArg (fun k => m * n * 2 ^ k) ?_
  omega

theorem add_fin (x y : Nat) (hx : rung x < IR) (hy : rung y < IR) :
    double.add x y = some (double.word (if key x + key y = 0 then sgn x && sgn y else decide (key x + key y < 0)) (min (RQ (key x + key y).natAbs 1) IR)) := by
  obtain ⟨m, i, e, hi, hv⟩ := read_fin x hx
  obtain ⟨n, j, e2, hj, hv2⟩ := read_fin y hy
  unfold Format.add
  rw [e, e2]
  refine dsum _ _ _ _ _ _ hi hj _ ?_
  unfold key
  rw [← hv, ← hv2]
theorem sub_fin (x y : Nat) (hx : rung x < IR) (hy : rung y < IR) :
    double.sub x y = some (double.word (if key x - key y = 0 then sgn x && !sgn y else decide (key x - key y < 0)) (min (RQ (key x - key y).natAbs 1) IR)) := by
  obtain ⟨m, i, e, hi, hv⟩ := read_fin x hx
  obtain ⟨n, j, e2, hj, hv2⟩ := read_fin y hy
  unfold Format.sub
  rw [e, e2]
  refine dsum _ _ _ _ _ _ hi hj _ ?_
  unfold key
  rw [← hv, ← hv2]
  unfold sg
  cases sgn y <;> simp <;> omega

def cv (n : Nat) : Nat := min (RQ (n * 2 ^ EE) 1) IR
theorem ofInt_cv (n : Nat) : floatOfInt .f64 (n : Int) = cv n := by
  unfold floatOfInt FloatKind.nearest FloatKind.encode FloatKind.format
  dsimp only [Format.write]
  rw [nearest_RQ]
  have : decide ((n : Int) < 0) = false := decide_eq_false (by omega)
  rw [this]
  have e1 : ((0 : Int) + 1074).toNat = EE := by rw [ee]; rfl
  have e2 : (-((0 : Int) + 1074)).toNat = 0 := by rfl
  rw [e1, e2]
  simp [Format.word, cv]

def Num (d : Datum) : Prop := match d with | .nan .. => False | _ => True
theorem write_num (d : Datum) (h : Num d) : ¬ Nan (double.write d) ∧ double.write d < 2 ^ 64 := by
  cases d with
  | number s m p =>
    dsimp only [Format.write]
    rw [nearest_RQ]
    exact ⟨word_not_nan _ _ (Nat.min_le_right _ _), word_lt64 _ _ (min_lt _)⟩
  | infinity s =>
    dsimp only [Format.write]
    rw [d_inf]
    exact ⟨word_not_nan _ _ (Nat.le_refl _), word_lt64 _ _ ir_lt⟩
  | nan s f => exact absurd h (by simp [Num])
theorem sum_num (a b c : Datum) (h : Datum.sum a b = some c) : Num c := by
  cases a <;> cases b <;> simp only [Datum.sum] at h
  all_goals first
    | (cases h; done)
    | (split at h <;> first | (cases h; done) | (cases h; trivial))
    | (cases h; trivial)
theorem product_num (a b c : Datum) (h : Datum.product a b = some c) : Num c := by
  cases a <;> cases b <;> simp only [Datum.product] at h
  all_goals first
    | (cases h; done)
    | (split at h <;> first | (cases h; done) | (cases h; trivial))
    | (cases h; trivial)
theorem quotient_num (k : Nat) (a b c : Datum) (h : Datum.quotient k a b = some c) : Num c := by
  cases a <;> cases b <;> simp only [Datum.quotient] at h
  all_goals first
    | (cases h; done)
    | (cases h; trivial)
    | (split at h
       · split at h <;> first | (cases h; done) | (cases h; trivial)
       · cases h; trivial)
theorem map_num {d : Option Datum} {r : Nat} (hd : ∀ c, d = some c → Num c) (h : d.map double.write = some r) : ¬ Nan r ∧ r < 2 ^ 64 := by
  cases d with
  | none => cases h
  | some c => cases h; exact write_num c (hd c rfl)

def op4 (o : BinOp) (x y : Nat) : Option Nat := floatBits o .f64 x y
theorem op4_num {o : BinOp} {x y r : Nat} (h : op4 o x y = some r) : ¬ Nan r ∧ r < 2 ^ 64 := by
  unfold op4 floatBits at h
  cases o <;> simp only [FloatKind.format] at h <;> first
    | (cases h; done)
    | exact map_num (fun c e => sum_num _ _ _ e) h
    | exact map_num (fun c e => product_num _ _ _ e) h
    | exact map_num (fun c e => quotient_num _ _ _ _ e) h
theorem op4_left {o : BinOp} {x y : Nat} (h : Nan x) : op4 o x y = none := by
  obtain ⟨f, e⟩ := read_nan x h
  unfold op4 floatBits
  cases o <;> simp only [FloatKind.format, Format.add, Format.sub, Format.mul, Format.div, e] <;> cases double.read y <;> rfl
theorem op4_right {o : BinOp} {x y : Nat} (h : Nan y) : op4 o x y = none := by
  obtain ⟨f, e⟩ := read_nan y h
  unfold op4 floatBits
  cases o <;> simp only [FloatKind.format, Format.add, Format.sub, Format.mul, Format.div, e] <;> cases double.read x <;> rfl

def Cls (c : Option Nat) (x : Nat) : Prop := x < 2 ^ 64 ∧ match c with | some r => x = r ∧ ¬ Nan r | none => Nan x
def bop (o : BinOp) (c d : Option Nat) : Option Nat := c.bind fun x => d.bind fun y => op4 o x y
theorem bop_cls {o : BinOp} {c d : Option Nat} {x y : Nat} (hx : Cls c x) (hy : Cls d y) : op4 o x y = bop o c d := by
  unfold bop
  cases c with
  | none => exact op4_left hx.2
  | some a => cases d with
    | none => exact op4_right hy.2
    | some b => obtain ⟨_, rfl, _⟩ := hx; obtain ⟨_, rfl, _⟩ := hy; rfl

end Go.Proofs.YtncnkpnfmbgifaaGreat
