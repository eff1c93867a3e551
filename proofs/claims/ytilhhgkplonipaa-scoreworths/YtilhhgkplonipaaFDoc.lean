/- The document's own Order, Ratio, Worth, Best and Mean. -/
import Derived.Test.YtilhhgkplonipaaFRef
import Derived.Test.YtilhhgkplonipaaFKnown
import Derived.BigQuiet
namespace Go.Proofs.Ytilhhgkplonipaa
open Go.RowKit Ieee
set_option linter.unusedVariables false
set_option maxRecDepth 4000

set_option maxHeartbeats 1000000 in
theorem refOrder_of (x y : Nat) (w : World) : Calls Try.prog 13 #[.float .f64 x, .float .f64 y] w fun e w' => e = .returned (.int .i64 (ordI x y)) ∧ w' = w := by
  obtain ⟨K, hK⟩ : ∃ K, K = ordI x y := ⟨_, rfl⟩
  rw [← hK]
  have HK : Hid (K = ordI x y) := hK
  clear hK
  go_enter Try.func13, Try.ntmps13
  go_wp2_with fail
  refine (none_of x w).mono ?_
  rintro e w ⟨rfl, rfl⟩
  go_wp2_with fail
  refine (none_of y w).mono ?_
  rintro e w ⟨rfl, rfl⟩
  by_cases hx : Nan x
  · have dx : decide (Nan x) = true := decide_eq_true hx
    by_cases hy : Nan y
    · have dy : decide (Nan y) = true := decide_eq_true hy
      go_wp2
      go_ret
      exact ⟨by rw [HK.out]; unfold ordI; rw [if_pos hx, if_pos hy]; rfl, rfl⟩
    · have dy : decide (Nan y) = false := decide_eq_false hy
      go_wp2
      go_ret
      exact ⟨by rw [HK.out]; unfold ordI; rw [if_pos hx, if_neg hy]; rfl, rfl⟩
  have dx : decide (Nan x) = false := decide_eq_false hx
  by_cases hy : Nan y
  · have dy : decide (Nan y) = true := decide_eq_true hy
    go_wp2
    go_ret
    exact ⟨by rw [HK.out]; unfold ordI; rw [if_neg hx, if_pos hy]; rfl, rfl⟩
  have dy : decide (Nan y) = false := decide_eq_false hy
  have ov := order_vals x y hx hy
  have HN : Hid (¬ Nan x ∧ ¬ Nan y) := ⟨hx, hy⟩
  clear hx hy
  by_cases a : key x < key y
  · rw [if_pos a] at ov
    have HA : Hid (key x < key y) := a
    clear a
    go_wp2
    go_ret
    exact ⟨by rw [HK.out]; unfold ordI; rw [if_neg HN.out.1, if_neg HN.out.2, if_pos HA.out]; rfl, rfl⟩
  rw [if_neg a] at ov
  have HA : Hid (key y ≤ key x) := Int.not_lt.1 a
  clear a
  by_cases b : key y < key x
  · rw [if_pos b] at ov
    have HB : Hid (key y < key x) := b
    clear b
    go_wp2
    go_ret
    exact ⟨by rw [HK.out]; unfold ordI; rw [if_neg HN.out.1, if_neg HN.out.2, if_neg (Int.not_lt.2 HA.out), if_pos HB.out]; rfl, rfl⟩
  · rw [if_neg b] at ov
    have HB : Hid (key x ≤ key y) := Int.not_lt.1 b
    clear b
    go_wp2
    go_ret
    exact ⟨by rw [HK.out]; unfold ordI; rw [if_neg HN.out.1, if_neg HN.out.2, if_neg (Int.not_lt.2 HA.out), if_neg (Int.not_lt.2 HB.out)]; rfl, rfl⟩

theorem refRatio_of (a b : Nat) (w : World) : Calls Try.prog 16 #[.int .u64 a, .int .u64 b] w fun e w' => ∃ x, e = .returned (.float .f64 x) ∧ Cls (ratC a b) x ∧ Drawn w w' := by
  have fq := fun (x y : Nat) (W : World) => run_float (P := Try.prog) .quo (by simp) 22 x y W
  have ca := ofInt_cv a
  have cb := ofInt_cv b
  go_enter Try.func16, Try.ntmps16
  go_wp2
  go_ret
  exact ⟨_, rfl, fres_cls _ _ _ _, fwld_drawn _ _ _ _⟩

set_option maxHeartbeats 1000000 in
theorem refWorth_of (a b c : Nat) (w : World) : Calls Try.prog 18 #[.int .u64 a, .int .u64 b, .int .u64 c] w fun e w' => ∃ x, e = .returned (.float .f64 x) ∧ Cls (worC a b c) x ∧ Drawn w w' := by
  have fq := fun (x y : Nat) (W : World) => run_float (P := Try.prog) .quo (by simp) 22 x y W
  have fs := fun (x y : Nat) (W : World) => run_float (P := Try.prog) .sub (by simp) 22 x y W
  have fm := fun (x y : Nat) (W : World) => run_float (P := Try.prog) .mul (by simp) 22 x y W
  have fa := fun (x y : Nat) (W : World) => run_float (P := Try.prog) .add (by simp) 22 x y W
  have cc := ofInt_cv c
  go_enter Try.func18, Try.ntmps18
  go_wp2_with fail
  refine (refRatio_of a b w).mono ?_
  rintro e w1 ⟨u, rfl, hu, dr⟩
  have HU : Hid (Cls (ratC a b) u ∧ Drawn w w1) := ⟨hu, dr⟩
  clear hu dr
  go_wp2
  go_ret
  refine ⟨_, rfl, fres_bop .quo (fres_bop .mul (fres_bop .sub cls_one HU.out.1 _) (cls_cv c) _) (fres_bop .add cls_one HU.out.1 _) _, ?_⟩
  exact (((HU.out.2.trans (fwld_drawn _ _ _ _)).trans (fwld_drawn _ _ _ _)).trans (fwld_drawn _ _ _ _)).trans (fwld_drawn _ _ _ _)

set_option maxHeartbeats 1000000 in
theorem refBest_of (a : Option Addr) (n c : Nat) (zs : List Nat) (w : World) (hin : FIn w a n zs) (hn : n ≤ 1000000) :
    Calls Try.prog 20 #[.slice a n c] w fun e w' => ∃ B, e = .returned (.int .i64 B) ∧ BestTo zs n B ∧ Drawn w w' := by
  have H : Hid (FIn w a n zs) := hin
  clear hin
  go_enter Try.func20, Try.ntmps20
  go_wp2
  go_loopw [3, 4] (fun b i wr => ∃ (j : Nat) (B : Int), j ≤ n ∧ i = .int .i64 j ∧ b = .int .i64 B ∧ BestTo zs j B ∧ Drawn w wr)
    (fun _ i _ => n - (intOf i).toNat)
  case atStart => exact ⟨0, -1, by omega, rfl, rfl, .inl ⟨rfl, fun i hi => by omega⟩, Drawn.refl w⟩
  case round =>
    obtain ⟨j, B, hj, rfl, rfl, st, dr⟩ := hrel
    have HS : Hid (BestTo zs j B ∧ j ≤ n ∧ Drawn w wr) := ⟨st, hj, dr⟩
    clear st hj dr
    by_cases hlt : j < n
    · have hlt' : (j : Int) < n := by omega
      obtain ⟨b, off, rfl, hc⟩ := (H.out.drawn HS.out.2.2).2.2.2.resolve_left (by omega)
      have cz := hc j hlt
      have HC : Hid (∀ i, i < n → wr.cell? ⟨b, off + i, none⟩ = some (.float .f64 (zs.getD i 0))) := hc
      clear hc
      obtain ⟨z, hz⟩ : ∃ z, z = zs.getD j 0 := ⟨_, rfl⟩
      rw [← hz] at cz
      have HZ : Hid (z = zs.getD j 0 ∧ j < n) := ⟨hz, hlt⟩
      clear hz hlt
      go_wp2_with fail
      refine (none_of z wr).mono ?_
      rintro e wr ⟨rfl, rfl⟩
      by_cases hnan : Nan z
      · have d : decide (Nan z) = true := decide_eq_true hnan
        have HN : Hid (Nan z) := hnan
        clear hnan
        go_wp2
        go_roundw
        case rel => exact ⟨j + 1, B, by have := HZ.out.2; omega, by go_num, rfl, HS.out.1.stay (.inl (by rw [← HZ.out.1]; exact HN.out)), HS.out.2.2⟩
        case measure => have := HZ.out.2; simp [intOf]; omega
      have d : decide (Nan z) = false := decide_eq_false hnan
      have HN : Hid (¬ Nan z) := hnan
      clear hnan
      rcases HS.out.1 with ⟨rfl, hall⟩ | ⟨k, rfl, hk, hkn, _, _⟩
      · clear hall
        go_wp2
        go_quiet (fail)
        go_wp2
        go_roundw
        case rel => exact ⟨j + 1, j, by have := HZ.out.2; omega, by go_num, rfl, HS.out.1.up (by rw [← HZ.out.1]; exact HN.out) (fun k e => by omega), HS.out.2.2.trans ⟨_, rfl⟩⟩
        case measure => have := HZ.out.2; simp [intOf]; omega
      · have ck := HC.out k (by have := HZ.out.2; omega)
        have hkn' : (k : Int) < n := by have := HZ.out.2; omega
        obtain ⟨y, hy⟩ : ∃ y, y = zs.getD k 0 := ⟨_, rfl⟩
        rw [← hy] at ck hkn
        have HY : Hid (y = zs.getD k 0) := hy
        clear hy
        have ov := order_vals z y HN.out hkn
        have k0 : decide ((k : Int) < 0) = false := decide_eq_false (by omega)
        clear hkn hk
        by_cases hp : key y < key z
        · rw [if_neg (by omega), if_pos hp] at ov
          have HP : Hid (key y < key z) := hp
          clear hp
          go_wp2
          go_quiet (fail)
          go_wp2
          go_roundw
          case rel => exact ⟨j + 1, j, by have := HZ.out.2; omega, by go_num, rfl, HS.out.1.up (by rw [← HZ.out.1]; exact HN.out) (fun k' e => by rw [← HZ.out.1, show k' = k by omega, ← HY.out]; exact HP.out), HS.out.2.2.trans ⟨_, rfl⟩⟩
          case measure => have := HZ.out.2; simp [intOf]; omega
        · have ov2 : ((FloatKind.f64.format.order z y) == some Ordering.gt) = false := by
            rw [ov]
            by_cases c : key z < key y
            · rw [if_pos c]; rfl
            · rw [if_neg c, if_neg hp]; rfl
          have HP : Hid (key z ≤ key y) := Int.not_lt.1 hp
          clear hp ov
          go_wp2
          go_quiet (fail)
          go_wp2
          go_roundw
          case rel => exact ⟨j + 1, k, by have := HZ.out.2; omega, by go_num, rfl, HS.out.1.stay (.inr ⟨k, rfl, by rw [← HZ.out.1, ← HY.out]; exact HP.out⟩), HS.out.2.2.trans ⟨_, rfl⟩⟩
          case measure => have := HZ.out.2; simp [intOf]; omega
    · have hge : (n : Int) ≤ j := by omega
      have HE : Hid (j = n) := by have := HS.out.2.1; show j = n; omega
      clear hlt
      go_wp2
      go_ret
      exact ⟨B, rfl, by rw [← HE.out]; exact HS.out.1, HS.out.2.2⟩

theorem cv_all : (List.range 1000).all (fun j => op4 .add (cv j) 4607182418800017408 == some (cv (j + 1))) = true := by decide +kernel
theorem cv_step (j : Nat) (h : j < 1000) : op4 .add (cv j) 4607182418800017408 = some (cv (j + 1)) := by
  have := List.all_eq_true.1 cv_all j (List.mem_range.2 h)
  simpa using this
theorem cv_zero : cv 0 = 0 := by decide +kernel

set_option maxHeartbeats 1000000 in
theorem refMean_of (a : Option Addr) (n c : Nat) (zs : List Nat) (w : World) (hin : FIn w a n zs) (hn : n ≤ 1000) :
    Calls Try.prog 22 #[.slice a n c] w fun e w' => ∃ x, e = .returned (.float .f64 x) ∧ Cls (meanC zs) x ∧ Drawn w w' := by
  have fq := fun (x y : Nat) (W : World) => run_float (P := Try.prog) .quo (by simp) 22 x y W
  have H : Hid (FIn w a n zs) := hin
  clear hin
  go_enter Try.func22, Try.ntmps22
  go_wp2
  go_loopw [3, 4, 5] (fun s k i wr => ∃ (j S : Nat), j ≤ n ∧ i = .int .i64 j ∧ s = .float .f64 S ∧ k = .float .f64 (cv (numsL (zs.take j)).length) ∧ Cls (sumL (numsL (zs.take j))) S ∧ Drawn w wr)
    (fun _ _ i _ => n - (intOf i).toNat)
  case atStart => exact ⟨0, 0, by omega, rfl, rfl, by rw [show (numsL (zs.take 0)).length = 0 from rfl, cv_zero], cls_num 0 (by decide) (by decide), Drawn.refl w⟩
  case round =>
    obtain ⟨j, S, hj, rfl, rfl, rfl, hS, dr⟩ := hrel
    obtain ⟨C, hC⟩ : ∃ C, C = (numsL (zs.take j)).length := ⟨_, rfl⟩
    rw [← hC]
    have hCj : C ≤ j := by
      have := nums_len (zs.take j)
      rw [List.length_take] at this
      omega
    have HS : Hid (Cls (sumL (numsL (zs.take j))) S ∧ Drawn w wr ∧ j ≤ n ∧ C = (numsL (zs.take j)).length ∧ C ≤ j) := ⟨hS, dr, hj, hC, hCj⟩
    clear hS dr hj hC hCj
    by_cases hlt : j < n
    · have hlt' : (j : Int) < n := by omega
      obtain ⟨b, off, rfl, hc⟩ := (H.out.drawn HS.out.2.1).2.2.2.resolve_left (by omega)
      have cz := hc j hlt
      clear hc
      obtain ⟨z, hz⟩ : ∃ z, z = zs.getD j 0 := ⟨_, rfl⟩
      rw [← hz] at cz
      have HZ : Hid (z = zs.getD j 0 ∧ j < n ∧ z < 2 ^ 64) := ⟨hz, hlt, by rw [hz]; exact fits_at H.out.2.2.1 j⟩
      have cs := cv_step C (by have := HS.out.2.2.2.2; omega)
      clear hz hlt
      go_wp2_with fail
      refine (none_of z wr).mono ?_
      rintro e wr ⟨rfl, rfl⟩
      have nx := nums_next (zs := zs) (j := j) (by rw [H.out.1]; exact HZ.out.2.1)
      rw [← HZ.out.1] at nx
      by_cases hn : Nan z
      · have hk : decide (Nan z) = true := decide_eq_true hn
        rw [if_pos hn, List.append_nil] at nx
        have HX : Hid (numsL (zs.take (j + 1)) = numsL (zs.take j)) := nx
        clear nx hn cs
        go_wp2
        go_roundw
        case rel => exact ⟨j + 1, S, by have := HZ.out.2.1; omega, by go_num, rfl, by rw [HX.out, HS.out.2.2.2.1], by rw [HX.out]; exact HS.out.1, HS.out.2.1⟩
        case measure => have := HZ.out.2.1; simp [intOf]; omega
      · have hk : decide (Nan z) = false := decide_eq_false hn
        rw [if_neg hn] at nx
        have HX : Hid (numsL (zs.take (j + 1)) = numsL (zs.take j) ++ [z]) := nx
        have HN : Hid (¬ Nan z) := hn
        clear nx hn
        have fa := fun (W : World) => run_float (P := Try.prog) .add (by simp) 22 S z W
        have fc := fun (W : World) => run_some (P := Try.prog) 22 cs W
        clear cs
        go_wp2
        go_roundw
        case rel =>
          refine ⟨j + 1, _, by have := HZ.out.2.1; omega, by go_num, rfl, ?_, ?_, HS.out.2.1.trans (fwld_drawn _ _ _ _)⟩
          · rw [HX.out, List.length_append, ← HS.out.2.2.2.1]; rfl
          · rw [HX.out, sum_snoc]
            exact fres_bop .add HS.out.1 (cls_num z HN.out HZ.out.2.2) _
        case measure => have := HZ.out.2.1; simp [intOf]; omega
    · have hge : (n : Int) ≤ j := by omega
      have HE : Hid (zs.take j = zs) := by
        show zs.take j = zs
        exact List.take_of_length_le (by rw [H.out.1]; omega)
      clear hlt
      go_wp2
      go_ret
      refine ⟨_, rfl, ?_, HS.out.2.1.trans (fwld_drawn _ _ _ _)⟩
      have h1 := HS.out.1
      have h2 := HS.out.2.2.2.1
      rw [HE.out] at h1 h2
      unfold meanC
      rw [← h2]
      exact fres_bop .quo h1 (cls_cv C) _

end Go.Proofs.Ytilhhgkplonipaa
