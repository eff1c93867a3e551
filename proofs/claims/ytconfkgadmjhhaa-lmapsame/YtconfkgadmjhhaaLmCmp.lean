/- What one call of name's and spot's compare does. -/
import Derived.Test.YtconfkgadmjhhaaLmP
import Derived.Test.YtconfkgadmjhhaaLmLay
import Derived.Deep.RegionHeld3
namespace Go.Proofs.Ytconfkgadmjhhaa
open Go.RowKit Go.Sort Go.Lib Go.Shelf
set_option linter.unusedVariables false
set_option maxRecDepth 4000

def cmpZ (x y : Int) : Int := if x < y then -1 else if y < x then 1 else 0
def orZ (a b : Int) : Int := if a ≠ 0 then a else b
def cfP (x y : Pr) : Int := orZ (cmpZ x.1 y.1) (cmpZ x.2 y.2)
theorem cfP_lt (x y : Pr) : ltOf cfP x y = ltP x y := by
  unfold ltOf cfP orZ cmpZ ltP
  by_cases h1 : x.1 < y.1
  · simp [h1]
  · by_cases h2 : y.1 < x.1
    · have : ¬ x.1 = y.1 := by omega
      simp [h1, h2, this]
    · have : x.1 = y.1 := by omega
      by_cases h3 : x.2 < y.2
      · simp [this, h3]
      · by_cases h4 : y.2 < x.2 <;> simp [this, h3, h4]
theorem swoP : SWO (ltOf cfP) where
  irrefl x := by rw [cfP_lt]; exact ltP_irrefl x
  trans x y z h1 h2 := by rw [cfP_lt] at *; exact ltP_trans h1 h2
  ntrans x y z h1 h2 := by rw [cfP_lt, ltP_not] at *; omega

theorem nanI_of (x : Int) (w : World) : Calls Try.prog 51 #[.int .i64 x] w fun e w' => e = .returned (.bool false) ∧ w' = w := by
  go_enter Try.func51, Try.ntmps51
  go_wp2
  go_ret
  exact ⟨by simp, rfl⟩
theorem cmpI_of (x y : Int) (w : World) : Calls Try.prog 37 #[.int .i64 x, .int .i64 y] w fun e w' => e = .returned (.int .i64 (cmpZ x y)) ∧ w' = w := by
  have C := fun z => nanI_of z w
  by_cases h1 : x < y
  · have hz : cmpZ x y = -1 := by unfold cmpZ; simp [h1]
    rw [hz]
    go_enter Try.func37, Try.ntmps37
    go_wp2_with (go_at_call 51; refine (C _).mono ?_; rintro e w' ⟨rfl, rfl⟩)
    go_ret
    exact ⟨rfl, rfl⟩
  · by_cases h2 : y < x
    · have hz : cmpZ x y = 1 := by unfold cmpZ; simp [h1, h2]
      rw [hz]
      go_enter Try.func37, Try.ntmps37
      go_wp2_with (go_at_call 51; refine (C _).mono ?_; rintro e w' ⟨rfl, rfl⟩)
      go_ret
      exact ⟨rfl, rfl⟩
    · have hz : cmpZ x y = 0 := by unfold cmpZ; simp [h1, h2]
      rw [hz]
      go_enter Try.func37, Try.ntmps37
      go_wp2_with (go_at_call 51; refine (C _).mono ?_; rintro e w' ⟨rfl, rfl⟩)
      go_ret
      exact ⟨rfl, rfl⟩
theorem nan32_of (x : Int) (w : World) : Calls Try.prog 60 #[.int .u32 x] w fun e w' => e = .returned (.bool false) ∧ w' = w := by
  go_enter Try.func60, Try.ntmps60
  go_wp2
  go_ret
  exact ⟨by simp, rfl⟩
theorem cmp32_of (x y : Int) (w : World) : Calls Try.prog 39 #[.int .u32 x, .int .u32 y] w fun e w' => e = .returned (.int .i64 (cmpZ x y)) ∧ w' = w := by
  have C := fun z => nan32_of z w
  by_cases h1 : x < y
  · have hz : cmpZ x y = -1 := by unfold cmpZ; simp [h1]
    rw [hz]
    go_enter Try.func39, Try.ntmps39
    go_wp2_with (go_at_call 60; refine (C _).mono ?_; rintro e w' ⟨rfl, rfl⟩)
    go_ret
    exact ⟨rfl, rfl⟩
  · by_cases h2 : y < x
    · have hz : cmpZ x y = 1 := by unfold cmpZ; simp [h1, h2]
      rw [hz]
      go_enter Try.func39, Try.ntmps39
      go_wp2_with (go_at_call 60; refine (C _).mono ?_; rintro e w' ⟨rfl, rfl⟩)
      go_ret
      exact ⟨rfl, rfl⟩
    · have hz : cmpZ x y = 0 := by unfold cmpZ; simp [h1, h2]
      rw [hz]
      go_enter Try.func39, Try.ntmps39
      go_wp2_with (go_at_call 60; refine (C _).mono ?_; rintro e w' ⟨rfl, rfl⟩)
      go_ret
      exact ⟨rfl, rfl⟩
theorem nan64_of (x : Int) (w : World) : Calls Try.prog 61 #[.int .u64 x] w fun e w' => e = .returned (.bool false) ∧ w' = w := by
  go_enter Try.func61, Try.ntmps61
  go_wp2
  go_ret
  exact ⟨by simp, rfl⟩
theorem cmp64_of (x y : Int) (w : World) : Calls Try.prog 40 #[.int .u64 x, .int .u64 y] w fun e w' => e = .returned (.int .i64 (cmpZ x y)) ∧ w' = w := by
  have C := fun z => nan64_of z w
  by_cases h1 : x < y
  · have hz : cmpZ x y = -1 := by unfold cmpZ; simp [h1]
    rw [hz]
    go_enter Try.func40, Try.ntmps40
    go_wp2_with (go_at_call 61; refine (C _).mono ?_; rintro e w' ⟨rfl, rfl⟩)
    go_ret
    exact ⟨rfl, rfl⟩
  · by_cases h2 : y < x
    · have hz : cmpZ x y = 1 := by unfold cmpZ; simp [h1, h2]
      rw [hz]
      go_enter Try.func40, Try.ntmps40
      go_wp2_with (go_at_call 61; refine (C _).mono ?_; rintro e w' ⟨rfl, rfl⟩)
      go_ret
      exact ⟨rfl, rfl⟩
    · have hz : cmpZ x y = 0 := by unfold cmpZ; simp [h1, h2]
      rw [hz]
      go_enter Try.func40, Try.ntmps40
      go_wp2_with (go_at_call 61; refine (C _).mono ?_; rintro e w' ⟨rfl, rfl⟩)
      go_ret
      exact ⟨rfl, rfl⟩
theorem or_of (a b : Int) (g : Nat) (w : World) (h0 : w.cell? ⟨g, 0, none⟩ = some (.int .i64 a)) (h1 : w.cell? ⟨g, 1, none⟩ = some (.int .i64 b)) : Calls Try.prog 36 #[.slice (some ⟨g, 0, none⟩) 2 2] w fun e w' => e = .returned (.int .i64 (if a ≠ 0 then a else b)) ∧ w' = w := by
  by_cases ha : a = 0
  · subst ha
    by_cases hb : b = 0
    · subst hb
      go_enter Try.func36, Try.ntmps36
      go_wp2
      refine wp_loop_rounds 3 ?_
      rw [rounds_succ]; go_wp2
      rw [rounds_succ]; go_wp2
      rw [rounds_succ]; go_wp2
      go_ret
      exact ⟨rfl, rfl⟩
    · go_enter Try.func36, Try.ntmps36
      go_wp2
      refine wp_loop_rounds 3 ?_
      rw [rounds_succ]; go_wp2
      rw [rounds_succ]; go_wp2
      go_ret
      exact ⟨by simp, rfl⟩
  · rw [if_pos ha]
    go_enter Try.func36, Try.ntmps36
    go_wp2
    refine wp_loop_rounds 3 ?_
    rw [rounds_succ]; go_wp2
    go_ret
    exact ⟨rfl, rfl⟩
theorem nComp_of (x y : Pr) (W : World) : Calls Try.prog 31 #[.agg #[.int .u32 x.1, .int .u64 x.2], .agg #[.int .u32 y.1, .int .u64 y.2]] W fun e w' => e = .returned (.int .i64 (cfP x y)) ∧ ∃ q os', w' = grow (W.drewN q) os' := by
  have C0 := fun a b X => cmp32_of a b X
  have C1 := fun a b X => cmp64_of a b X
  have C2 : ∀ a b g X, X.cell? ⟨g, 0, none⟩ = some (.int .i64 a) → X.cell? ⟨g, 1, none⟩ = some (.int .i64 b) → Calls Try.prog 36 #[.slice (some ⟨g, 0, none⟩) 2 2] X fun e w' => e = .returned (.int .i64 (orZ a b)) ∧ w' = X := fun a b g X h0 h1 => or_of a b g X h0 h1
  have c0 : ((W.alloc (.cells #[.int .u32 x.1, .int .u64 x.2] 63)).alloc (.cells #[.int .u32 y.1, .int .u64 y.2] 63)).cell? ⟨W.heap.size, 0, none⟩ = some (.int .u32 x.1) := by go_simp
  have c1 : ((W.alloc (.cells #[.int .u32 x.1, .int .u64 x.2] 63)).alloc (.cells #[.int .u32 y.1, .int .u64 y.2] 63)).cell? ⟨W.heap.size, 1, none⟩ = some (.int .u64 x.2) := by go_simp
  have d0 : ((W.alloc (.cells #[.int .u32 x.1, .int .u64 x.2] 63)).alloc (.cells #[.int .u32 y.1, .int .u64 y.2] 63)).cell? ⟨W.heap.size + 1, 0, none⟩ = some (.int .u32 y.1) := by go_simp
  have d1 : ((W.alloc (.cells #[.int .u32 x.1, .int .u64 x.2] 63)).alloc (.cells #[.int .u32 y.1, .int .u64 y.2] 63)).cell? ⟨W.heap.size + 1, 1, none⟩ = some (.int .u64 y.2) := by go_simp
  go_enter Try.func31, Try.ntmps31
  go_wp2
  go_region_held3 (fun V => V.cell? ⟨W.heap.size, 0, none⟩ = some (.int .u32 x.1) ∧ V.cell? ⟨W.heap.size, 1, none⟩ = some (.int .u64 x.2) ∧ V.cell? ⟨W.heap.size + 1, 0, none⟩ = some (.int .u32 y.1) ∧ V.cell? ⟨W.heap.size + 1, 1, none⟩ = some (.int .u64 y.2)) (first | exact ⟨c0, c1, d0, d1⟩ | (refine ⟨?_, ?_, ?_, ?_⟩ <;> go_simp))
    (first
    | (go_simp; go_at_call 39; refine (C0 _ _ _).mono ?_; rintro e w2 ⟨rfl, hw2⟩; replace hw2 := hw2.symm; subst hw2)
    | (go_simp; go_at_call 40; refine (C1 _ _ _).mono ?_; rintro e w2 ⟨rfl, hw2⟩; replace hw2 := hw2.symm; subst hw2)
    | (go_simp; go_at_call 36; refine (C2 (cmpZ x.1 y.1) (cmpZ x.2 y.2) _ _ (by go_simp) (by go_simp)).mono ?_; rintro e w2 ⟨rfl, hw2⟩; replace hw2 := hw2.symm; subst hw2))
  all_goals go_wp2
  all_goals go_ret
  all_goals exact ⟨rfl, 1, _, by rw [alloc_eq_grow, alloc_eq_grow, alloc_eq_grow, grow_grow, grow_grow]; rfl⟩
theorem sComp_of (x y : Pr) (W : World) : Calls Try.prog 29 #[.agg #[.int .i64 x.1, .int .i64 x.2], .agg #[.int .i64 y.1, .int .i64 y.2]] W fun e w' => e = .returned (.int .i64 (cfP x y)) ∧ ∃ q os', w' = grow (W.drewN q) os' := by
  have C0 := fun a b X => cmpI_of a b X
  have C1 := fun a b X => cmpI_of a b X
  have C2 : ∀ a b g X, X.cell? ⟨g, 0, none⟩ = some (.int .i64 a) → X.cell? ⟨g, 1, none⟩ = some (.int .i64 b) → Calls Try.prog 36 #[.slice (some ⟨g, 0, none⟩) 2 2] X fun e w' => e = .returned (.int .i64 (orZ a b)) ∧ w' = X := fun a b g X h0 h1 => or_of a b g X h0 h1
  have c0 : ((W.alloc (.cells #[.int .i64 x.1, .int .i64 x.2] 60)).alloc (.cells #[.int .i64 y.1, .int .i64 y.2] 60)).cell? ⟨W.heap.size, 0, none⟩ = some (.int .i64 x.1) := by go_simp
  have c1 : ((W.alloc (.cells #[.int .i64 x.1, .int .i64 x.2] 60)).alloc (.cells #[.int .i64 y.1, .int .i64 y.2] 60)).cell? ⟨W.heap.size, 1, none⟩ = some (.int .i64 x.2) := by go_simp
  have d0 : ((W.alloc (.cells #[.int .i64 x.1, .int .i64 x.2] 60)).alloc (.cells #[.int .i64 y.1, .int .i64 y.2] 60)).cell? ⟨W.heap.size + 1, 0, none⟩ = some (.int .i64 y.1) := by go_simp
  have d1 : ((W.alloc (.cells #[.int .i64 x.1, .int .i64 x.2] 60)).alloc (.cells #[.int .i64 y.1, .int .i64 y.2] 60)).cell? ⟨W.heap.size + 1, 1, none⟩ = some (.int .i64 y.2) := by go_simp
  go_enter Try.func29, Try.ntmps29
  go_wp2
  go_region_held3 (fun V => V.cell? ⟨W.heap.size, 0, none⟩ = some (.int .i64 x.1) ∧ V.cell? ⟨W.heap.size, 1, none⟩ = some (.int .i64 x.2) ∧ V.cell? ⟨W.heap.size + 1, 0, none⟩ = some (.int .i64 y.1) ∧ V.cell? ⟨W.heap.size + 1, 1, none⟩ = some (.int .i64 y.2)) (first | exact ⟨c0, c1, d0, d1⟩ | (refine ⟨?_, ?_, ?_, ?_⟩ <;> go_simp))
    (first
    | (go_simp; go_at_call 37; refine (C0 _ _ _).mono ?_; rintro e w2 ⟨rfl, hw2⟩; replace hw2 := hw2.symm; subst hw2)
    | (go_simp; go_at_call 37; refine (C1 _ _ _).mono ?_; rintro e w2 ⟨rfl, hw2⟩; replace hw2 := hw2.symm; subst hw2)
    | (go_simp; go_at_call 36; refine (C2 (cmpZ x.1 y.1) (cmpZ x.2 y.2) _ _ (by go_simp) (by go_simp)).mono ?_; rintro e w2 ⟨rfl, hw2⟩; replace hw2 := hw2.symm; subst hw2))
  all_goals go_wp2
  all_goals go_ret
  all_goals exact ⟨rfl, 1, _, by rw [alloc_eq_grow, alloc_eq_grow, alloc_eq_grow, grow_grow, grow_grow]; rfl⟩
theorem cmpN_lays (blk off size : Nat) (w : World) : CmpLays Try.prog 31 #[] (prL .u32 .u64) 2 cfP blk off size w := fun _ _ _ _ x y => nComp_of x y _
theorem cmpS_lays (blk off size : Nat) (w : World) : CmpLays Try.prog 29 #[] (prL .i64 .i64) 2 cfP blk off size w := fun _ _ _ _ x y => sComp_of x y _
theorem sortN_of (blk cap : Nat) (d : Array Pr) (w : World) (hH : HoldsK (prL .u32 .u64) 2 w blk 0 d) (hb : blk < w.heap.size) (hs : d.size < 1000000) :
    Calls Try.prog 30 #[.slice (some ⟨blk, 0, none⟩) d.size cap, .func (.func 31) #[] #[]] w fun e w' => e = .returned (.tuple #[]) ∧ ∃ d' n os, PermIn 0 d.size d d' ∧ SortedIn (ltOf cfP) 0 d.size d' ∧ w' = sortWorldK (prL .u32 .u64) 2 w blk 0 n d' os :=
  AnyQ.slices_SortFunc Try.sortN 2 Try.isAgg63 Try.sizeOf63 (prL .u32 .u64) (fun _ => rfl) (fun x v hv => by simp [prL] at hv; rcases hv with rfl | rfl <;> rfl) cfP swoP 31 #[] blk 0 cap d w (enters_of Try.func31 (by kernel_rfl) rfl) (cmpN_lays blk 0 d.size w) hH hb (by omega)
theorem sortS_of (blk cap : Nat) (d : Array Pr) (w : World) (hH : HoldsK (prL .i64 .i64) 2 w blk 0 d) (hb : blk < w.heap.size) (hs : d.size < 1000000) :
    Calls Try.prog 28 #[.slice (some ⟨blk, 0, none⟩) d.size cap, .func (.func 29) #[] #[]] w fun e w' => e = .returned (.tuple #[]) ∧ ∃ d' n os, PermIn 0 d.size d d' ∧ SortedIn (ltOf cfP) 0 d.size d' ∧ w' = sortWorldK (prL .i64 .i64) 2 w blk 0 n d' os :=
  AnyQ.slices_SortFunc Try.sortS 2 Try.isAgg60 Try.sizeOf60 (prL .i64 .i64) (fun _ => rfl) (fun x v hv => by simp [prL] at hv; rcases hv with rfl | rfl <;> rfl) cfP swoP 29 #[] blk 0 cap d w (enters_of Try.func29 (by kernel_rfl) rfl) (cmpS_lays blk 0 d.size w) hH hb (by omega)
end Go.Proofs.Ytconfkgadmjhhaa
