/- P33 -/
import Derived.Test.YtcdnjeiamihhbabGreatP32
set_option linter.unusedVariables false
set_option maxRecDepth 4000
namespace Go.Proofs.YtcdnjeiamihhbabGreat
open Go.RowKit Go.Sort Go.Lib Go.Shelf
def cmpZ (x y : Int) : Int := if x < y then -1 else if y < x then 1 else 0
def orZ (a b : Int) : Int := if a ≠ 0 then a else b
def cfP (x y : Pr) : Int := orZ (cmpZ x.1 y.1) (cmpZ x.2 y.2)
theorem cfP_lt (x y : Pr) : ltOf cfP x y = ltP x y := by
 unfold ltOf cfP orZ cmpZ ltP
 by_cases h1 : x.1 < y.1
 ·simp [h1]
 ·by_cases h2 : y.1 < x.1
  ·have : ¬ x.1 = y.1 := by omega
   simp [h1, h2, this]
  ·have : x.1 = y.1 := by omega
   by_cases h3 : x.2 < y.2
   ·simp [this, h3]
   ·by_cases h4 : y.2 < x.2 <;> simp [this, h3, h4]
theorem swoP : SWO (ltOf cfP) where
 irrefl x := by rw [cfP_lt]; exact ltP_irrefl x
 trans x y z h1 h2 := by rw [cfP_lt] at *; exact ltP_trans h1 h2
 ntrans x y z h1 h2 := by rw [cfP_lt, ltP_not] at *; omega
theorem nanI_of (x : Int) (w : World) : Calls Tryz.prog 206 #[.int .i64 x] w fun e w' => e = .returned (.bool false) ∧ w' = w := by
 go_enter Tryz.func206, Tryz.ntmps206
 go_wp2
 go_ret
 exact ⟨by simp, rfl⟩
theorem cmpI_of (x y : Int) (w : World) : Calls Tryz.prog 153 #[.int .i64 x, .int .i64 y] w fun e w' => e = .returned (.int .i64 (cmpZ x y)) ∧ w' = w := by
 have C := fun z => nanI_of z w
 by_cases h1 : x < y
 ·have hz : cmpZ x y = -1 := by unfold cmpZ; simp [h1]
  rw [hz]
  go_enter Tryz.func153, Tryz.ntmps153
  go_wp2_with (go_at_call 206; refine (C _).mono ?_; rintro e w' ⟨rfl, rfl⟩)
  go_ret
  exact ⟨rfl, rfl⟩
 ·by_cases h2 : y < x
  ·have hz : cmpZ x y = 1 := by unfold cmpZ; simp [h1, h2]
   rw [hz]
   go_enter Tryz.func153, Tryz.ntmps153
   go_wp2_with (go_at_call 206; refine (C _).mono ?_; rintro e w' ⟨rfl, rfl⟩)
   go_ret
   exact ⟨rfl, rfl⟩
  ·have hz : cmpZ x y = 0 := by unfold cmpZ; simp [h1, h2]
   rw [hz]
   go_enter Tryz.func153, Tryz.ntmps153
   go_wp2_with (go_at_call 206; refine (C _).mono ?_; rintro e w' ⟨rfl, rfl⟩)
   go_ret
   exact ⟨rfl, rfl⟩
theorem nan32_of (x : Int) (w : World) : Calls Tryz.prog 215 #[.int .u32 x] w fun e w' => e = .returned (.bool false) ∧ w' = w := by
 go_enter Tryz.func215, Tryz.ntmps215
 go_wp2
 go_ret
 exact ⟨by simp, rfl⟩
theorem cmp32_of (x y : Int) (w : World) : Calls Tryz.prog 155 #[.int .u32 x, .int .u32 y] w fun e w' => e = .returned (.int .i64 (cmpZ x y)) ∧ w' = w := by
 have C := fun z => nan32_of z w
 by_cases h1 : x < y
 ·have hz : cmpZ x y = -1 := by unfold cmpZ; simp [h1]
  rw [hz]
  go_enter Tryz.func155, Tryz.ntmps155
  go_wp2_with (go_at_call 215; refine (C _).mono ?_; rintro e w' ⟨rfl, rfl⟩)
  go_ret
  exact ⟨rfl, rfl⟩
 ·by_cases h2 : y < x
  ·have hz : cmpZ x y = 1 := by unfold cmpZ; simp [h1, h2]
   rw [hz]
   go_enter Tryz.func155, Tryz.ntmps155
   go_wp2_with (go_at_call 215; refine (C _).mono ?_; rintro e w' ⟨rfl, rfl⟩)
   go_ret
   exact ⟨rfl, rfl⟩
  ·have hz : cmpZ x y = 0 := by unfold cmpZ; simp [h1, h2]
   rw [hz]
   go_enter Tryz.func155, Tryz.ntmps155
   go_wp2_with (go_at_call 215; refine (C _).mono ?_; rintro e w' ⟨rfl, rfl⟩)
   go_ret
   exact ⟨rfl, rfl⟩
theorem nan64_of (x : Int) (w : World) : Calls Tryz.prog 205 #[.int .u64 x] w fun e w' => e = .returned (.bool false) ∧ w' = w := by
 go_enter Tryz.func205, Tryz.ntmps205
 go_wp2
 go_ret
 exact ⟨by simp, rfl⟩
theorem cmp64_of (x y : Int) (w : World) : Calls Tryz.prog 152 #[.int .u64 x, .int .u64 y] w fun e w' => e = .returned (.int .i64 (cmpZ x y)) ∧ w' = w := by
 have C := fun z => nan64_of z w
 by_cases h1 : x < y
 ·have hz : cmpZ x y = -1 := by unfold cmpZ; simp [h1]
  rw [hz]
  go_enter Tryz.func152, Tryz.ntmps152
  go_wp2_with (go_at_call 205; refine (C _).mono ?_; rintro e w' ⟨rfl, rfl⟩)
  go_ret
  exact ⟨rfl, rfl⟩
 ·by_cases h2 : y < x
  ·have hz : cmpZ x y = 1 := by unfold cmpZ; simp [h1, h2]
   rw [hz]
   go_enter Tryz.func152, Tryz.ntmps152
   go_wp2_with (go_at_call 205; refine (C _).mono ?_; rintro e w' ⟨rfl, rfl⟩)
   go_ret
   exact ⟨rfl, rfl⟩
  ·have hz : cmpZ x y = 0 := by unfold cmpZ; simp [h1, h2]
   rw [hz]
   go_enter Tryz.func152, Tryz.ntmps152
   go_wp2_with (go_at_call 205; refine (C _).mono ?_; rintro e w' ⟨rfl, rfl⟩)
   go_ret
   exact ⟨rfl, rfl⟩
theorem or_of (a b : Int) (g : Nat) (w : World) (h0 : w.cell? ⟨g, 0, none⟩ = some (.int .i64 a)) (h1 : w.cell? ⟨g, 1, none⟩ = some (.int .i64 b)) : Calls Tryz.prog 151 #[.slice (some ⟨g, 0, none⟩) 2 2] w fun e w' => e = .returned (.int .i64 (if a ≠ 0 then a else b)) ∧ w' = w := by
 by_cases ha : a = 0
 ·subst ha
  by_cases hb : b = 0
  ·subst hb
   go_enter Tryz.func151, Tryz.ntmps151
   go_wp2
   refine wp_loop_rounds 3 ?_
   rw [rounds_succ]; go_wp2
   rw [rounds_succ]; go_wp2
   rw [rounds_succ]; go_wp2
   go_ret
   exact ⟨rfl, rfl⟩
  ·go_enter Tryz.func151, Tryz.ntmps151
   go_wp2
   refine wp_loop_rounds 3 ?_
   rw [rounds_succ]; go_wp2
   rw [rounds_succ]; go_wp2
   go_ret
   exact ⟨by simp, rfl⟩
 ·rw [if_pos ha]
  go_enter Tryz.func151, Tryz.ntmps151
  go_wp2
  refine wp_loop_rounds 3 ?_
  rw [rounds_succ]; go_wp2
  go_ret
  exact ⟨rfl, rfl⟩
theorem nComp_of (x y : Pr) (W : World) : Calls Tryz.prog 97 #[.agg #[.int .u32 x.1, .int .u64 x.2], .agg #[.int .u32 y.1, .int .u64 y.2]] W fun e w' => e = .returned (.int .i64 (cfP x y)) ∧ ∃ q os', w' = grow (W.drewN q) os' := by
 have C0 := fun a b X => cmp32_of a b X
 have C1 := fun a b X => cmp64_of a b X
 have C2 : ∀ a b g X, X.cell? ⟨g, 0, none⟩ = some (.int .i64 a) → X.cell? ⟨g, 1, none⟩ = some (.int .i64 b) → Calls Tryz.prog 151 #[.slice (some ⟨g, 0, none⟩) 2 2] X fun e w' => e = .returned (.int .i64 (orZ a b)) ∧ w' = X := fun a b g X h0 h1 => or_of a b g X h0 h1
 have c0 : ((W.alloc (.cells #[.int .u32 x.1, .int .u64 x.2] 180)).alloc (.cells #[.int .u32 y.1, .int .u64 y.2] 180)).cell? ⟨W.heap.size, 0, none⟩ = some (.int .u32 x.1) := by go_simp
 have c1 : ((W.alloc (.cells #[.int .u32 x.1, .int .u64 x.2] 180)).alloc (.cells #[.int .u32 y.1, .int .u64 y.2] 180)).cell? ⟨W.heap.size, 1, none⟩ = some (.int .u64 x.2) := by go_simp
 have d0 : ((W.alloc (.cells #[.int .u32 x.1, .int .u64 x.2] 180)).alloc (.cells #[.int .u32 y.1, .int .u64 y.2] 180)).cell? ⟨W.heap.size + 1, 0, none⟩ = some (.int .u32 y.1) := by go_simp
 have d1 : ((W.alloc (.cells #[.int .u32 x.1, .int .u64 x.2] 180)).alloc (.cells #[.int .u32 y.1, .int .u64 y.2] 180)).cell? ⟨W.heap.size + 1, 1, none⟩ = some (.int .u64 y.2) := by go_simp
 go_enter Tryz.func97, Tryz.ntmps97
 go_wp2
 go_region_held3 (fun V => V.cell? ⟨W.heap.size, 0, none⟩ = some (.int .u32 x.1) ∧ V.cell? ⟨W.heap.size, 1, none⟩ = some (.int .u64 x.2) ∧ V.cell? ⟨W.heap.size + 1, 0, none⟩ = some (.int .u32 y.1) ∧ V.cell? ⟨W.heap.size + 1, 1, none⟩ = some (.int .u64 y.2)) (first | exact ⟨c0, c1, d0, d1⟩ | (refine ⟨?_, ?_, ?_, ?_⟩ <;> go_simp))
  (first
  | (go_simp; go_at_call 155; refine (C0 _ _ _).mono ?_; rintro e w2 ⟨rfl, hw2⟩; replace hw2 := hw2.symm; subst hw2)
  | (go_simp; go_at_call 152; refine (C1 _ _ _).mono ?_; rintro e w2 ⟨rfl, hw2⟩; replace hw2 := hw2.symm; subst hw2)
  | (go_simp; go_at_call 151; refine (C2 (cmpZ x.1 y.1) (cmpZ x.2 y.2) _ _ (by go_simp) (by go_simp)).mono ?_; rintro e w2 ⟨rfl, hw2⟩; replace hw2 := hw2.symm; subst hw2))
 all_goals go_wp2
 all_goals go_ret
 all_goals exact ⟨rfl, 1, _, by rw [alloc_eq_grow, alloc_eq_grow, alloc_eq_grow, grow_grow, grow_grow]; rfl⟩
theorem cmpN_lays (blk off size : Nat) (w : World) : CmpLays Tryz.prog 97 #[] (prL .u32 .u64) 2 cfP blk off size w := fun _ _ _ _ x y => nComp_of x y _
theorem sortN_of (blk cap : Nat) (d : Array Pr) (w : World) (hH : HoldsK (prL .u32 .u64) 2 w blk 0 d) (hb : blk < w.heap.size) (hs : d.size < 1000000) :
  Calls Tryz.prog 96 #[.slice (some ⟨blk, 0, none⟩) d.size cap, .func (.func 97) #[] #[]] w fun e w' => e = .returned (.tuple #[]) ∧ ∃ d' n os, PermIn 0 d.size d d' ∧ SortedIn (ltOf cfP) 0 d.size d' ∧ w' = sortWorldK (prL .u32 .u64) 2 w blk 0 n d' os :=
 AnyQ.slices_SortFunc Tryz.sortN 2 Tryz.isAgg180 Tryz.sizeOf180 (prL .u32 .u64) (fun _ => rfl) (fun x v hv => by simp [prL] at hv; rcases hv with rfl | rfl <;> rfl) cfP swoP 97 #[] blk 0 cap d w (enters_of Tryz.func97 (by kernel_rfl) rfl) (cmpN_lays blk 0 d.size w) hH hb (by omega)
section
def prC (q0 q1 : IntKind) (xs : List Pr) : List Value := xs.flatMap (prL q0 q1)
section
variable {q0 q1 : IntKind}
theorem prC_length (xs : List Pr) : (prC q0 q1 xs).length = xs.length * 2 := by
 unfold prC
 induction xs with
 | nil => rfl
 | cons x r ih => rw [List.flatMap_cons, List.length_append, ih, List.length_cons]; simp [prL]; omega
theorem prC_snoc (xs : List Pr) (x : Pr) : prC q0 q1 xs ++ prL q0 q1 x = prC q0 q1 (xs ++ [x]) := by simp [prC]
theorem prC_at : ∀ (xs : List Pr) (i : Nat) (x : Pr) (j : Nat), xs[i]? = some x → j < 2 → (prC q0 q1 xs)[i * 2 + j]? = (prL q0 q1 x)[j]?
 | [], i, x, j, h, _ => by simp at h
 | y :: r, 0, x, j, h, hj => by
  have : y = x := by simpa using h
  subst this
  rw [prC, List.flatMap_cons, Nat.zero_mul, Nat.zero_add, List.getElem?_append_left (by simp [prL]; omega)]
 | y :: r, i + 1, x, j, h, hj => by
  have h' : r[i]? = some x := by simpa using h
  rw [prC, List.flatMap_cons, List.getElem?_append_right (by simp [prL]; omega)]
  have : (i + 1) * 2 + j - (prL q0 q1 y).length = i * 2 + j := by simp [prL]; omega
  rw [this]
  exact prC_at r i x j h' hj
theorem prL_one (x : Pr) : ∀ v ∈ prL q0 q1 x, v.oneCell' = true := by
 intro v hv; simp only [prL, List.mem_cons, List.not_mem_nil, or_false] at hv; rcases hv with rfl | rfl <;> rfl
theorem prC_bang (xs : List Pr) (j : Nat) (h : j < xs.length * 2) : (prC q0 q1 xs)[j]? = some ((prL q0 q1 xs.toArray[j / 2]!)[j % 2]!) := by
 have hi : j / 2 < xs.length := by omega
 have hx : xs[j / 2]? = some xs[j / 2] := List.getElem?_eq_getElem hi
 have := prC_at (q0 := q0) (q1 := q1) xs (j / 2) _ (j % 2) hx (by omega)
 have e : j / 2 * 2 + j % 2 = j := by omega
 rw [e] at this
 rw [this]
 have e2 : xs.toArray[j / 2]! = xs[j / 2] := by simp [hi]
 rw [e2]
 have h2 : j % 2 = 0 ∨ j % 2 = 1 := by omega
 rcases h2 with h2 | h2 <;> rw [h2] <;> rfl
theorem holdsK_of {w : World} {g : Nat} {cur : Array Value} {e : TypeId} {xs : List Pr} (hb : w.heap[g]? = some (.cells cur e (0, 0))) (ht : cur.toList.take (xs.length * 2) = prC q0 q1 xs) : HoldsK (prL q0 q1) 2 w g 0 xs.toArray := by
 intro j hj
 have hj' : j < xs.length * 2 := by simpa using hj
 refine ⟨?_, by simp [World.frozen?, hb]⟩
 have h1 : (cur.toList.take (xs.length * 2))[j]? = (prC q0 q1 xs)[j]? := by rw [ht]
 rw [List.getElem?_take_of_lt hj', prC_bang xs j hj'] at h1
 rw [get_flatK _ _ _ _ (by simpa using hj')]
 simp only [World.cell?, hb, Nat.zero_add]
 simp only [Option.isSome_none, Bool.false_eq_true, if_false]
 rw [← Array.getElem?_toList, h1]
 rfl
theorem heap_sortedK {w : World} {g n : Nat} {os : Array Obj} {cur : Array Value} {e : TypeId} {fr : Nat × Nat} (d : Array Pr) (hb : w.heap[g]? = some (.cells cur e fr)) :
  (sortWorldK (prL q0 q1) 2 w g 0 n d os).heap[g]? = some (.cells (putCells id 0 (flatK (prL q0 q1) 2 d) cur) e fr) := by
 have hg : g < w.heap.size := (Array.getElem?_eq_some_iff.1 hb).1
 unfold sortWorldK putRowK
 rw [heap_grow_old _ _ (by simpa using hg)]
 simp [putRow, mapBlock, Sort.ahead, Array.getElem?_modify, hb, onCells]
theorem grownBy_sortedK {w : World} {g n : Nat} {os : Array Obj} (d : Array Pr) : w.grownBy (sortWorldK (prL q0 q1) 2 w g 0 n d os) (some g) := by
 unfold sortWorldK putRowK
 refine ⟨rfl, rfl, rfl, by simp, fun k hk hne => ?_⟩
 rw [heap_grow_old _ _ (by simpa using hk)]
 have : g ≠ k := fun e => hne (by rw [e])
 simp [putRow, mapBlock, Sort.ahead, Array.getElem?_modify, this]
theorem take_putCellsK (cur : Array Value) (ts : List Pr) (h : ts.length * 2 ≤ cur.size) : (putCells id 0 (flatK (prL q0 q1) 2 ts.toArray) cur).toList.take (ts.length * 2) = prC q0 q1 ts := by
 apply List.ext_getElem?
 intro j
 by_cases hj : j < ts.length * 2
 ·rw [List.getElem?_take_of_lt hj, Array.getElem?_toList, prC_bang ts j hj]
  have hf := get_flatK (prL q0 q1) 2 ts.toArray j (by simpa using hj)
  have hc : j < cur.size := by omega
  unfold putCells
  rw [Array.getElem?_mapIdx, Array.getElem?_eq_getElem hc]
  simp only [Option.map_some, Nat.zero_le, true_and, Nat.zero_add, Nat.sub_zero, id]
  rw [if_pos (by simpa using hj), hf]
 ·rw [List.getElem?_take_eq_none (by omega), List.getElem?_eq_none (by rw [prC_length]; omega)]
theorem sort_own {w : World} {base g cap n : Nat} {e : TypeId} {os : Array Obj} {xs ts : List Pr} (h : w.ownsRow base e 2 (.slice (some ⟨g, 0, none⟩) xs.length cap) xs.length (prC q0 q1 xs)) (hl : ts.length = xs.length) :
  (sortWorldK (prL q0 q1) 2 w g 0 n ts.toArray os).ownsRow base e 2 (.slice (some ⟨g, 0, none⟩) xs.length cap) xs.length (prC q0 q1 ts) := by
 rcases h.2 with ⟨hv, _⟩ | ⟨g', cap', cur, hv, h1, h2, h3, h4, h5, h6⟩
 ·cases hv
 ·cases hv
  refine ⟨by rw [prC_length, hl], .inr ⟨g, cap, _, rfl, h1, heap_sortedK _ h2, h3, h4, by simp [putCells, h5], ?_⟩⟩
  rw [← hl]
  exact take_putCellsK cur ts (by rw [h5, hl]; omega)
theorem own_holds {w : World} {base g cap : Nat} {e : TypeId} {xs : List Pr} (h : w.ownsRow base e 2 (.slice (some ⟨g, 0, none⟩) xs.length cap) xs.length (prC q0 q1 xs)) : HoldsK (prL q0 q1) 2 w g 0 xs.toArray ∧ g < w.heap.size := by
 rcases h.2 with ⟨hv, _⟩ | ⟨g', cap', cur, hv, h1, h2, h3, h4, h5, h6⟩
 ·cases hv
 ·cases hv
  exact ⟨holdsK_of h2 h6, (Array.getElem?_eq_some_iff.1 h2).1⟩
end
/-- A sorted row is the one that rises. -/
theorem sorted_is {xs ys : List Pr} {d' : Array Pr} (hp : PermIn 0 xs.toArray.size xs.toArray d') (hs : SortedIn (ltOf cfP) 0 xs.toArray.size d') (hm : xs.Perm ys) (hu : ys.Pairwise (fun x y => ltP x y = true)) : d' = ys.toArray := by
 obtain ⟨h1, _, h3⟩ := hp
 have hsz : d'.size = xs.length := by simpa using h1
 have e1 : (d'.extract 0 xs.toArray.size).toList = d'.toList := by simp [← hsz]
 have e2 : (xs.toArray.extract 0 xs.toArray.size).toList = xs := by simp
 rw [e1, e2] at h3
 have hup : d'.toList.Pairwise (fun x y => ltP y x = false) := by
  rw [List.pairwise_iff_getElem]
  intro i j hi hj hij
  have := hs i j (Nat.zero_le _) hij (by simpa [hsz] using hj)
  rw [cfP_lt] at this
  have hi' : i < d'.size := by simpa using hi
  have hj' : j < d'.size := by simpa using hj
  rw [getElem!_pos d' i hi', getElem!_pos d' j hj'] at this
  simpa using this
 have : d'.toList = ys := by
  refine List.Perm.eq_of_pairwise (le := fun x y => ltP y x = false) (fun a b _ _ h k => ltP_anti k h) hup (hu.imp (fun h => ltP_asymm h)) (h3.trans hm)
 rw [← this]
/-! Places in a row. -/
theorem plC_set (xs : List Pl) (i : Nat) (x : Pl) (h : i < xs.length) : ((((plC xs).set (i * 4) (.int .u32 x.1.1)).set (i * 4 + 1) (.int .u64 x.1.2)).set (i * 4 + 2) (.int .i64 x.2.1)).set (i * 4 + 3) (.int .i64 x.2.2) = plC (xs.set i x) := by
 induction xs generalizing i with
 | nil => simp at h
 | cons y r ih =>
  cases i with
  | zero => simp [plC, plL]
  | succ i =>
   have h' : i < r.length := by simpa using h
   have e : plC (y :: r) = .int .u32 y.1.1 :: .int .u64 y.1.2 :: .int .i64 y.2.1 :: .int .i64 y.2.2 :: plC r := rfl
   have e2 : plC ((y :: r).set (i + 1) x) = .int .u32 y.1.1 :: .int .u64 y.1.2 :: .int .i64 y.2.1 :: .int .i64 y.2.2 :: plC (r.set i x) := rfl
   have a0 : (i + 1) * 4 = i * 4 + 1 + 1 + 1 + 1 := by omega
   rw [e, e2, ← ih i h', a0]
   simp only [List.set_cons_succ]
/-- Places that lie in the world. -/
def PlIn (w : World) (a : Option Addr) (n : Nat) (L : List Pl) : Prop :=
 L.length = n ∧ (n = 0 ∨ ∃ g, a = some ⟨g, 0, none⟩ ∧ ∀ i x, L[i]? = some x → w.cell? ⟨g, i * 4, none⟩ = some (.int .u32 x.1.1) ∧ w.cell? ⟨g, i * 4 + 1, none⟩ = some (.int .u64 x.1.2) ∧ w.cell? ⟨g, i * 4 + 2, none⟩ = some (.int .i64 x.2.1) ∧ w.cell? ⟨g, i * 4 + 3, none⟩ = some (.int .i64 x.2.2))
theorem own_pl {w : World} {base : Nat} {a : Option Addr} {n c : Nat} {L : List Pl} (h : w.ownsRow base 131 4 (.slice a n c) n (plC L)) : PlIn w a n L := by
 have hl : L.length = n := by have := h.1; rw [plC_length] at this; omega
 refine ⟨hl, ?_⟩
 rcases h.2 with ⟨hv, hn⟩ | ⟨g, cap, cur, hv, _⟩
 ·exact .inl hn
 ·cases hv
  refine .inr ⟨g, rfl, fun i x hx => ?_⟩
  have hc : ∀ j v, (plL x)[j]? = some v → w.cell? ⟨g, i * 4 + j, none⟩ = some v := fun j v hv => by
   have hj : j < 4 := by have := (List.getElem?_eq_some_iff.1 hv).1; simpa [plL] using this
   have := h.cells (g := g) rfl (i * 4 + j) v (by rw [plC_at L i x j hx hj]; exact hv)
   rw [Addr.add_mid, Nat.zero_add] at this
   exact this
  exact ⟨hc 0 _ rfl, hc 1 _ rfl, hc 2 _ rfl, hc 3 _ rfl⟩
end
end Go.Proofs.YtcdnjeiamihhbabGreat
