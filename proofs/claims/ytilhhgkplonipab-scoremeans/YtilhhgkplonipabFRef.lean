/- The document's own Kind, and what the laws ask two numbers for. -/
import Derived.Test.YtilhhgkplonipabFOrd
namespace Go.Proofs.Ytilhhgkplonipab
open Go.RowKit Ieee
set_option linter.unusedVariables false
set_option maxRecDepth 4000

/-- Two doubled so many times. -/
def pw (j : Nat) : Nat := if j < 1024 then (1023 + j) * 4503599627370496 else IR
theorem pw_all : (List.range 2000).all (fun j => op4 .mul 4611686018427387904 (pw j) == some (pw (j + 1))) = true := by decide +kernel
theorem pw_step (j : Nat) (h : j < 2000) : op4 .mul 4611686018427387904 (pw j) = some (pw (j + 1)) := by
  have := List.all_eq_true.1 pw_all j (List.mem_range.2 h)
  simpa using this
theorem run_some {P : Program} {o : BinOp} (t : TypeId) {x y r : Nat} (h : op4 o x y = some r) (w : World) : (binOp o t (.float .f64 x) (.float .f64 y)).run P w = .ok (.float .f64 r) w :=
  run_float_arith w o t .f64 x y r h

set_option maxHeartbeats 1000000 in
theorem inf_of (w : World) : Calls Try.prog 18 #[] w fun e w' => e = .returned (.float .f64 9218868437227405312) ∧ w' = w := by
  go_enter Try.func18, Try.ntmps18
  go_wp2
  go_loopw [1, 2] (fun x i wr => ∃ j : Nat, j ≤ 2000 ∧ i = .int .i64 j ∧ x = .float .f64 (pw j) ∧ wr = w) (fun _ i _ => 2000 - (intOf i).toNat)
  case atStart => exact ⟨0, by omega, rfl, rfl, rfl⟩
  case round =>
    obtain ⟨j, hj, rfl, rfl, rfl⟩ := hrel
    have HJ : Hid (j ≤ 2000) := hj
    clear hj
    by_cases hlt : j < 2000
    · have hi : (j : Int) < 2000 := by omega
      have st : ∀ W, (binOp .mul 23 (.float .f64 4611686018427387904) (.float .f64 (pw j))).run Try.prog W = .ok (.float .f64 (pw (j + 1))) W := fun W => run_some 23 (pw_step j hlt) W
      have HL : Hid (j < 2000) := hlt
      clear hlt
      go_wp2
      go_roundw
      case rel => exact ⟨j + 1, by have := HL.out; omega, by go_num, rfl, trivial⟩
      case measure => have := HL.out; simp [intOf]; omega
    · have he : j = 2000 := by have := HJ.out; omega
      have hi : ¬ (j : Int) < 2000 := by omega
      have HP : Hid (pw j = 9218868437227405312) := by rw [he]; rfl
      clear hlt he
      go_wp2
      go_ret
      exact ⟨by rw [← HP.out]; rfl, rfl⟩

theorem order_pinf (x : Nat) (hx : ¬ Nan x) : FloatKind.f64.format.order x 9218868437227405312 = some (if infB false x then .eq else .lt) := by
  rw [fmt64, order_key x _ hx (nan_pos _ (by decide)), key_word_pos 9218868437227405312 (by decide)]
  have n : ¬ IR < rung x := hx
  change some (compare (key x) (val IR : Int)) = _
  have p : 0 < val IR := val_pos (by decide)
  congr 1
  cases h : infB false x
  · refine compare_lt.2 ?_
    have hne : ¬ (rung x = IR ∧ sgn x = false) := fun g => by rw [(infB_iff false x).2 g] at h; cases h
    unfold key sg
    cases hs : sgn x
    · have : rung x < IR := by
        have : rung x ≠ IR := fun g => hne ⟨g, hs⟩
        omega
      have := (val_lt_iff (rung x) IR).2 this
      simp only [Bool.false_eq_true, if_false]
      omega
    · simp only [if_true]
      omega
  · obtain ⟨a, b⟩ := (infB_iff false x).1 h
    refine compare_eq.2 ?_
    unfold key sg
    rw [a, b]; rfl
theorem order_minf (x : Nat) (hx : ¬ Nan x) : FloatKind.f64.format.order x 18442240474082181120 = some (if infB true x then .eq else .gt) := by
  have k : key 18442240474082181120 = -(val IR : Int) := by
    unfold key sg
    rw [show sgn 18442240474082181120 = true by decide, show rung 18442240474082181120 = IR by decide]; rfl
  rw [fmt64, order_key x _ hx (by decide), k]
  have n : ¬ IR < rung x := hx
  have p : 0 < val IR := val_pos (by decide)
  congr 1
  cases h : infB true x
  · refine compare_gt.2 ?_
    have hne : ¬ (rung x = IR ∧ sgn x = true) := fun g => by rw [(infB_iff true x).2 g] at h; cases h
    unfold key sg
    cases hs : sgn x
    · simp only [Bool.false_eq_true, if_false]
      omega
    · have : rung x < IR := by
        have : rung x ≠ IR := fun g => hne ⟨g, hs⟩
        omega
      have := (val_lt_iff (rung x) IR).2 this
      simp only [if_true]
      omega
  · obtain ⟨a, b⟩ := (infB_iff true x).1 h
    refine compare_eq.2 ?_
    unfold key sg
    rw [a, b]; rfl

set_option maxHeartbeats 1000000 in
theorem refKind_of (x : Nat) (hx : x < 2 ^ 64) (w : World) : Calls Try.prog 12 #[.float .f64 x] w fun e w' => e = .returned (.int .u8 (kindI x)) ∧ w' = w := by
  have hneg : ∀ W, (Op.unary .neg (.float .f64 9218868437227405312)).run Try.prog W = .ok (.float .f64 18442240474082181120) W := fun W => rfl
  by_cases z : x = 0
  · subst z
    have o0 : FloatKind.f64.format.order 0 0 = some .eq := by decide +kernel
    have o1 : FloatKind.f64.format.order 0 18442240474082181120 = some .gt := by decide +kernel
    have o3 : FloatKind.f64.format.order 0 9218868437227405312 = some .lt := by decide +kernel
    have o2 : FloatKind.f64.format.order 9218868437227405312 0 = some .gt := by decide +kernel
    have st : ∀ W, (binOp .quo 23 (.float .f64 4607182418800017408) (.float .f64 0)).run Try.prog W = .ok (.float .f64 9218868437227405312) W := fun W => run_some 23 (by decide +kernel) W
    have d : decide (Nan 0) = false := by decide
    have k : kindI 0 = 5 := by decide
    rw [k]
    clear k hx
    go_enter Try.func12, Try.ntmps12
    go_wp2_with fail
    refine (inf_of w).mono ?_
    rintro e w ⟨rfl, rfl⟩
    go_wp2_with fail
    refine (none_of 0 w).mono ?_
    rintro e w ⟨rfl, rfl⟩
    go_wp2
    go_ret
    exact ⟨rfl, rfl⟩
  by_cases z2 : x = 9223372036854775808
  · subst z2
    have o0 : FloatKind.f64.format.order 9223372036854775808 0 = some .eq := by decide +kernel
    have o1 : FloatKind.f64.format.order 9223372036854775808 18442240474082181120 = some .gt := by decide +kernel
    have o2 : FloatKind.f64.format.order 18442240474082181120 0 = some .lt := by decide +kernel
    have st : ∀ W, (binOp .quo 23 (.float .f64 4607182418800017408) (.float .f64 9223372036854775808)).run Try.prog W = .ok (.float .f64 18442240474082181120) W := fun W => run_some 23 (by decide +kernel) W
    have d : decide (Nan 9223372036854775808) = false := by decide
    have k : kindI 9223372036854775808 = 4 := by decide
    rw [k]
    clear k hx
    go_enter Try.func12, Try.ntmps12
    go_wp2_with fail
    refine (inf_of w).mono ?_
    rintro e w ⟨rfl, rfl⟩
    go_wp2_with fail
    refine (none_of 9223372036854775808 w).mono ?_
    rintro e w ⟨rfl, rfl⟩
    go_wp2
    go_ret
    exact ⟨rfl, rfl⟩
  have hz : rung x ≠ 0 := by unfold rung; omega
  clear z z2
  obtain ⟨K, hK⟩ : ∃ K, K = kindI x := ⟨_, rfl⟩
  rw [← hK]
  have HK : Hid (K = kindI x) := hK
  clear hK
  by_cases hn : Nan x
  · have d : decide (Nan x) = true := decide_eq_true hn
    go_enter Try.func12, Try.ntmps12
    go_wp2_with fail
    refine (inf_of w).mono ?_
    rintro e w ⟨rfl, rfl⟩
    go_wp2_with fail
    refine (none_of x w).mono ?_
    rintro e w ⟨rfl, rfl⟩
    go_wp2
    go_ret
    exact ⟨by rw [HK.out]; unfold kindI; rw [if_pos hn]; rfl, rfl⟩
  have d : decide (Nan x) = false := decide_eq_false hn
  have o0 := order_zero x hn
  rw [if_neg hz] at o0
  have o1 := order_minf x hn
  have o2 := order_pinf x hn
  have HN : Hid (¬ Nan x ∧ rung x ≠ 0) := ⟨hn, hz⟩
  clear hn hz hx
  go_enter Try.func12, Try.ntmps12
  go_wp2_with fail
  refine (inf_of w).mono ?_
  rintro e w ⟨rfl, rfl⟩
  go_wp2_with fail
  refine (none_of x w).mono ?_
  rintro e w ⟨rfl, rfl⟩
  cases i1 : infB true x
  case true =>
    rw [i1, if_pos rfl] at o1
    clear o0 o2
    go_wp2
    go_ret
    obtain ⟨p, q⟩ := (infB_iff true x).1 i1
    exact ⟨by rw [HK.out]; unfold kindI; rw [if_neg HN.out.1, if_pos p, q]; rfl, rfl⟩
  rw [i1] at o1
  simp only [Bool.false_eq_true, if_false] at o1
  cases i2 : infB false x
  case true =>
    rw [i2, if_pos rfl] at o2
    obtain ⟨p, q⟩ := (infB_iff false x).1 i2
    rw [q] at o0
    simp only [Bool.false_eq_true, if_false] at o0
    go_wp2
    go_ret
    exact ⟨by rw [HK.out]; unfold kindI; rw [if_neg HN.out.1, if_pos p, q]; rfl, rfl⟩
  rw [i2] at o2
  simp only [Bool.false_eq_true, if_false] at o2
  have HI : Hid (rung x ≠ IR) := fun h => by
    cases hs : sgn x
    · rw [(infB_iff false x).2 ⟨h, hs⟩] at i2; cases i2
    · rw [(infB_iff true x).2 ⟨h, hs⟩] at i1; cases i1
  clear i1 i2
  cases hs : sgn x
  · rw [hs] at o0
    simp only [Bool.false_eq_true, if_false] at o0
    go_wp2
    go_ret
    exact ⟨by rw [HK.out]; unfold kindI; rw [if_neg HN.out.1, if_neg HI.out, if_neg HN.out.2, hs]; rfl, rfl⟩
  · rw [hs, if_pos rfl] at o0
    go_wp2
    go_ret
    exact ⟨by rw [HK.out]; unfold kindI; rw [if_neg HN.out.1, if_neg HI.out, if_neg HN.out.2, hs]; rfl, rfl⟩

set_option maxHeartbeats 1000000 in
/-- What is the same number, or no number both, the laws take for the same. -/
theorem same_of (c : Option Nat) (a b : Nat) (ha : Cls c a) (hb : Cls c b) (w : World) : Calls Try.prog 8 #[.float .f64 a, .float .f64 b] w fun e w' => e = .returned (.bool true) ∧ w' = w := by
  cases c with
  | some r =>
    obtain ⟨hr, e1, hn⟩ := ha
    obtain ⟨_, e2, _⟩ := hb
    obtain rfl : a = b := by rw [e1, e2]
    rw [← e1] at hn
    clear e1 e2
    have o : FloatKind.f64.format.order a a = some .eq := order_self a hn
    have H : Hid (a < 2 ^ 64) := hr
    clear hn hr
    go_enter Try.func8, Try.ntmps8
    go_wp2_with fail
    refine (refKind_of a H.out w).mono ?_
    rintro e w ⟨rfl, rfl⟩
    go_wp2_with fail
    refine (refKind_of a H.out w).mono ?_
    rintro e w ⟨rfl, rfl⟩
    go_wp2
    go_ret
    exact ⟨rfl, rfl⟩
  | none =>
    have o : FloatKind.f64.format.order a b = none := order_nan_left a b ha.2
    have o1 : FloatKind.f64.format.order a a = none := order_nan_left a a ha.2
    have o2 : FloatKind.f64.format.order b b = none := order_nan_left b b hb.2
    clear ha hb
    go_enter Try.func8, Try.ntmps8
    go_wp2
    go_ret
    exact ⟨rfl, rfl⟩

end Go.Proofs.Ytilhhgkplonipab
