/- Kind and Order, the program's and the document's; a zone's worth. -/
import Derived.Test.YtilhhgkplonipaaFKind
namespace Go.Proofs.Ytilhhgkplonipaa
open Go.RowKit Ieee
set_option linter.unusedVariables false
set_option maxRecDepth 4000

theorem infB_iff (s : Bool) (x : Nat) : infB s x = true ↔ rung x = IR ∧ sgn x = s := by
  unfold infB; exact decide_eq_true_iff

set_option maxHeartbeats 1000000 in
theorem kind_of (x : Nat) (hx : x < 2 ^ 64) (w : World) : Calls Try.prog 10 #[.float .f64 x] w fun e w' => e = .returned (.int .u8 (kindI x)) ∧ w' = w := by
  obtain ⟨K, hK⟩ : ∃ K, K = kindI x := ⟨_, rfl⟩
  rw [← hK]
  have HK : Hid (K = kindI x) := hK
  clear hK
  by_cases hn : Nan x
  · have d : decide (Nan x) = true := decide_eq_true hn
    go_enter Try.func10, Try.ntmps10
    go_wp2_with fail
    refine (isNaN_of x w).mono ?_
    rintro e w ⟨rfl, rfl⟩
    go_wp2
    go_ret
    exact ⟨by rw [HK.out]; unfold kindI; rw [if_pos hn]; rfl, rfl⟩
  have d : decide (Nan x) = false := decide_eq_false hn
  have oz : Hid (FloatKind.f64.format.order x 0 = some (if rung x = 0 then .eq else if sgn x then .lt else .gt)) := order_zero x hn
  have HN : Hid (¬ Nan x ∧ x < 2 ^ 64) := ⟨hn, hx⟩
  clear hn hx
  go_enter Try.func10, Try.ntmps10
  go_wp2_with fail
  refine (isNaN_of x w).mono ?_
  rintro e w ⟨rfl, rfl⟩
  go_wp2_with fail
  refine (isInfM_of x HN.out.2 HN.out.1 w).mono ?_
  rintro e w ⟨rfl, rfl⟩
  cases i1 : infB true x
  case true =>
    go_wp2
    go_ret
    obtain ⟨p, q⟩ := (infB_iff true x).1 i1
    exact ⟨by rw [HK.out]; unfold kindI; rw [if_neg HN.out.1, if_pos p, q]; rfl, rfl⟩
  go_wp2_with fail
  refine (isInfP_of x HN.out.1 w).mono ?_
  rintro e w ⟨rfl, rfl⟩
  cases i2 : infB false x
  case true =>
    go_wp2
    go_ret
    obtain ⟨p, q⟩ := (infB_iff false x).1 i2
    exact ⟨by rw [HK.out]; unfold kindI; rw [if_neg HN.out.1, if_pos p, q]; rfl, rfl⟩
  have HI : Hid (rung x ≠ IR) := fun h => by
    cases hs : sgn x
    · rw [(infB_iff false x).2 ⟨h, hs⟩] at i2; cases i2
    · rw [(infB_iff true x).2 ⟨h, hs⟩] at i1; cases i1
  clear i1 i2
  by_cases hz : rung x = 0
  · have o : FloatKind.f64.format.order x 0 = some .eq := by rw [oz.out, if_pos hz]
    have HZ : Hid (rung x = 0) := hz
    clear hz
    go_wp2_with fail
    refine (signbit_of x HN.out.2 w).mono ?_
    rintro e w ⟨rfl, rfl⟩
    cases hs : sgn x
    · go_wp2
      go_ret
      exact ⟨by rw [HK.out]; unfold kindI; rw [if_neg HN.out.1, if_neg HI.out, if_pos HZ.out, hs]; rfl, rfl⟩
    · go_wp2
      go_ret
      exact ⟨by rw [HK.out]; unfold kindI; rw [if_neg HN.out.1, if_neg HI.out, if_pos HZ.out, hs]; rfl, rfl⟩
  · have HZ : Hid (rung x ≠ 0) := hz
    cases hs : sgn x
    · have o : FloatKind.f64.format.order x 0 = some .gt := by rw [oz.out, if_neg hz, hs]; rfl
      clear hz
      go_wp2
      go_ret
      exact ⟨by rw [HK.out]; unfold kindI; rw [if_neg HN.out.1, if_neg HI.out, if_neg HZ.out, hs]; rfl, rfl⟩
    · have o : FloatKind.f64.format.order x 0 = some .lt := by rw [oz.out, if_neg hz, hs]; rfl
      clear hz
      go_wp2
      go_ret
      exact ⟨by rw [HK.out]; unfold kindI; rw [if_neg HN.out.1, if_neg HI.out, if_neg HZ.out, hs]; rfl, rfl⟩

theorem order_vals (x y : Nat) (hx : ¬ Nan x) (hy : ¬ Nan y) : FloatKind.f64.format.order x y = some (if key x < key y then .lt else if key y < key x then .gt else .eq) := by
  rw [fmt64, order_key x y hx hy]
  by_cases a : key x < key y
  · rw [if_pos a, compare_lt.2 a]
  · by_cases b : key y < key x
    · rw [if_neg a, if_pos b, compare_gt.2 b]
    · rw [if_neg a, if_neg b, compare_eq.2 (by omega)]

set_option maxHeartbeats 1000000 in
theorem compare_of (x y : Nat) (w : World) : Calls Try.prog 28 #[.float .f64 x, .float .f64 y] w fun e w' => e = .returned (.int .i64 (ordI x y)) ∧ w' = w := by
  obtain ⟨K, hK⟩ : ∃ K, K = ordI x y := ⟨_, rfl⟩
  rw [← hK]
  have HK : Hid (K = ordI x y) := hK
  clear hK
  go_enter Try.func28, Try.ntmps28
  go_wp2_with fail
  refine (cNaN_of x w).mono ?_
  rintro e w ⟨rfl, rfl⟩
  go_wp2_with fail
  refine (cNaN_of y w).mono ?_
  rintro e w ⟨rfl, rfl⟩
  by_cases hx : Nan x
  · have dx : decide (Nan x) = true := decide_eq_true hx
    by_cases hy : Nan y
    · have dy : decide (Nan y) = true := decide_eq_true hy
      go_wp2
      go_ret
      exact ⟨by rw [HK.out]; unfold ordI; rw [if_pos hx, if_pos hy]; rfl, rfl⟩
    · have dy : decide (Nan y) = false := decide_eq_false hy
      go_wp2
      go_ret
      exact ⟨by rw [HK.out]; unfold ordI; rw [if_pos hx, if_neg hy]; rfl, rfl⟩
  have dx : decide (Nan x) = false := decide_eq_false hx
  by_cases hy : Nan y
  · have dy : decide (Nan y) = true := decide_eq_true hy
    go_wp2
    go_ret
    exact ⟨by rw [HK.out]; unfold ordI; rw [if_neg hx, if_pos hy]; rfl, rfl⟩
  have dy : decide (Nan y) = false := decide_eq_false hy
  have ov := order_vals x y hx hy
  have HN : Hid (¬ Nan x ∧ ¬ Nan y) := ⟨hx, hy⟩
  clear hx hy
  by_cases a : key x < key y
  · rw [if_pos a] at ov
    have HA : Hid (key x < key y) := a
    clear a
    go_wp2
    go_ret
    exact ⟨by rw [HK.out]; unfold ordI; rw [if_neg HN.out.1, if_neg HN.out.2, if_pos HA.out]; rfl, rfl⟩
  rw [if_neg a] at ov
  have HA : Hid (key y ≤ key x) := Int.not_lt.1 a
  clear a
  by_cases b : key y < key x
  · rw [if_pos b] at ov
    have HB : Hid (key y < key x) := b
    clear b
    go_wp2
    go_ret
    exact ⟨by rw [HK.out]; unfold ordI; rw [if_neg HN.out.1, if_neg HN.out.2, if_neg (Int.not_lt.2 HA.out), if_pos HB.out]; rfl, rfl⟩
  · rw [if_neg b] at ov
    have HB : Hid (key x ≤ key y) := Int.not_lt.1 b
    clear b
    go_wp2
    go_ret
    exact ⟨by rw [HK.out]; unfold ordI; rw [if_neg HN.out.1, if_neg HN.out.2, if_neg (Int.not_lt.2 HA.out), if_neg (Int.not_lt.2 HB.out)]; rfl, rfl⟩

theorem order_of (x y : Nat) (w : World) : Calls Try.prog 12 #[.float .f64 x, .float .f64 y] w fun e w' => e = .returned (.int .i64 (ordI x y)) ∧ w' = w := by
  go_enter Try.func12, Try.ntmps12
  go_wp2_with fail
  refine (compare_of x y w).mono ?_
  rintro e w ⟨rfl, rfl⟩
  go_wp2
  go_ret
  exact ⟨rfl, rfl⟩

/-- A zone's worth, step by step. -/
def worC (a b c : Nat) : Option Nat := bop .quo (bop .mul (bop .sub (some 4607182418800017408) (ratC a b)) (some (cv c))) (bop .add (some 4607182418800017408) (ratC a b))
theorem cls_num (r : Nat) (h : ¬ Nan r) (hr : r < 2 ^ 64) : Cls (some r) r := ⟨hr, rfl, h⟩
theorem cv_le (n : Nat) : cv n ≤ IR := Nat.min_le_right _ _
theorem cls_cv (n : Nat) : Cls (some (cv n)) (cv n) := cls_num _ (nan_pos _ (cv_le n)) (by have := cv_le n; have := ir_lt; omega)
theorem cls_one : Cls (some 4607182418800017408) 4607182418800017408 := cls_num _ (by decide) (by decide)
theorem fres_bop (o : BinOp) {c d : Option Nat} {x y : Nat} (hx : Cls c x) (hy : Cls d y) (w : World) : Cls (bop o c d) (fres o x y w) := by
  rw [← bop_cls hx hy]; exact fres_cls o x y w

set_option maxHeartbeats 1000000 in
theorem worth_of (a b c : Nat) (w : World) : Calls Try.prog 17 #[.int .u64 a, .int .u64 b, .int .u64 c] w fun e w' => ∃ x, e = .returned (.float .f64 x) ∧ Cls (worC a b c) x ∧ Drawn w w' := by
  have fq := fun (x y : Nat) (W : World) => run_float (P := Try.prog) .quo (by simp) 22 x y W
  have fs := fun (x y : Nat) (W : World) => run_float (P := Try.prog) .sub (by simp) 22 x y W
  have fm := fun (x y : Nat) (W : World) => run_float (P := Try.prog) .mul (by simp) 22 x y W
  have fa := fun (x y : Nat) (W : World) => run_float (P := Try.prog) .add (by simp) 22 x y W
  have cc := ofInt_cv c
  go_enter Try.func17, Try.ntmps17
  go_wp2_with fail
  refine (ratio_of a b w).mono ?_
  rintro e w1 ⟨u, rfl, hu, dr⟩
  have HU : Hid (Cls (ratC a b) u ∧ Drawn w w1) := ⟨hu, dr⟩
  clear hu dr
  go_wp2
  go_ret
  refine ⟨_, rfl, fres_bop .quo (fres_bop .mul (fres_bop .sub cls_one HU.out.1 _) (cls_cv c) _) (fres_bop .add cls_one HU.out.1 _) _, ?_⟩
  exact (((HU.out.2.trans (fwld_drawn _ _ _ _)).trans (fwld_drawn _ _ _ _)).trans (fwld_drawn _ _ _ _)).trans (fwld_drawn _ _ _ _)

end Go.Proofs.Ytilhhgkplonipaa
