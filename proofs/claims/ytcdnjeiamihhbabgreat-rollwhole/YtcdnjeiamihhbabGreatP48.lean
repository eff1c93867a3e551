/- P48 -/
import Derived.Test.YtcdnjeiamihhbabGreatP47
set_option linter.unusedVariables false
set_option maxRecDepth 4000
namespace Go.Proofs.YtcdnjeiamihhbabGreat
open Go.Shelf Go.RowKit Go.Lib Go.Sort
def Tryz.sortO_ren : Go.Shelf.Ren := ⟨fun | 6 => 93 | 15 => 150 | 14 => 149 | 28 => 203 | 29 => 204 | 20 => 195 | 21 => 196 | 22 => 197 | 23 => 198 | 24 => 199 | 25 => 200 | 26 => 201 | 27 => 202 | 46 => 227 | 47 => 228 | 48 => 229 | 49 => 230 | 50 => 231 | 57 => 247 | n => n, fun | 22 => 119 | 24 => 94 | 25 => 171 | 3 => 3 | 39 => 226 | 0 => 0 | 53 => 48 | 55 => 36 | 4 => 4 | 46 => 274 | 45 => 273 | 50 => 86 | 5 => 5 | 9 => 9 | 66 => 297 | 70 => 300 | 76 => 311 | 77 => 43 | n => n, fun | n => n⟩
theorem Tryz.sortO : Go.Proofs.SlLaysF0.n6 Tryz.prog Tryz.sortO_ren := {
 mixed := by kernel_rfl,
 f6 := ⟨Tryz.f93.name, by decide, Tryz.func93.trans (congrArg some (by kernel_rfl))⟩,
 f14 := ⟨Tryz.f149.name, by decide, Tryz.func149.trans (congrArg some (by kernel_rfl))⟩,
 f15 := Tryz.func150.trans (congrArg some (by kernel_rfl)),
 f20 := ⟨Tryz.f195.name, by decide, Tryz.func195.trans (congrArg some (by kernel_rfl))⟩,
 f21 := ⟨Tryz.f196.name, by decide, Tryz.func196.trans (congrArg some (by kernel_rfl))⟩,
 f22 := ⟨Tryz.f197.name, by decide, Tryz.func197.trans (congrArg some (by kernel_rfl))⟩,
 f23 := ⟨Tryz.f198.name, by decide, Tryz.func198.trans (congrArg some (by kernel_rfl))⟩,
 f24 := ⟨Tryz.f199.name, by decide, Tryz.func199.trans (congrArg some (by kernel_rfl))⟩,
 f25 := ⟨Tryz.f200.name, by decide, Tryz.func200.trans (congrArg some (by kernel_rfl))⟩,
 f26 := ⟨Tryz.f201.name, by decide, Tryz.func201.trans (congrArg some (by kernel_rfl))⟩,
 f27 := ⟨Tryz.f202.name, by decide, Tryz.func202.trans (congrArg some (by kernel_rfl))⟩,
 f28 := Tryz.func203.trans (congrArg some (by kernel_rfl)),
 f29 := Tryz.func204.trans (congrArg some (by kernel_rfl)),
 f46 := ⟨Tryz.f227.name, by decide, Tryz.func227.trans (congrArg some (by kernel_rfl))⟩,
 f47 := Tryz.func228.trans (congrArg some (by kernel_rfl)),
 f48 := Tryz.func229.trans (congrArg some (by kernel_rfl)),
 f49 := ⟨Tryz.f230.name, by decide, Tryz.func230.trans (congrArg some (by kernel_rfl))⟩,
 f50 := ⟨Tryz.f231.name, by decide, Tryz.func231.trans (congrArg some (by kernel_rfl))⟩,
 f57 := ⟨Tryz.f247.name, by decide, Tryz.func247.trans (congrArg some (by kernel_rfl))⟩,
 t0 := Tryz.underlying0,
 a0 := Tryz.isAgg0,
 z0 := Tryz.sizeOf0,
 v0 := Tryz.zeroValue0,
 t3 := Tryz.underlying3,
 a3 := Tryz.isAgg3,
 z3 := Tryz.sizeOf3,
 v3 := Tryz.zeroValue3,
 t4 := Tryz.underlying4,
 a4 := Tryz.isAgg4,
 z4 := Tryz.sizeOf4,
 v4 := Tryz.zeroValue4,
 t5 := Tryz.underlying5,
 a5 := Tryz.isAgg5,
 z5 := Tryz.sizeOf5,
 v5 := Tryz.zeroValue5,
 t9 := Tryz.underlying9,
 a9 := Tryz.isAgg9,
 z9 := Tryz.sizeOf9,
 v9 := Tryz.zeroValue9,
 t22 := Tryz.underlying119,
 a22 := Tryz.isAgg119,
 z22 := Tryz.sizeOf119,
 v22 := Tryz.zeroValue119,
 t25 := Tryz.underlying171,
 a25 := Tryz.isAgg171,
 z25 := Tryz.sizeOf171,
 v25 := Tryz.zeroValue171,
 t39 := Tryz.underlying226,
 a39 := Tryz.isAgg226,
 z39 := Tryz.sizeOf226,
 v39 := Tryz.zeroValue226,
 t45 := Tryz.underlying273,
 a45 := Tryz.isAgg273,
 z45 := Tryz.sizeOf273,
 v45 := Tryz.zeroValue273,
 t46 := Tryz.underlying274,
 a46 := Tryz.isAgg274,
 z46 := Tryz.sizeOf274,
 v46 := Tryz.zeroValue274,
 t50 := Tryz.underlying86,
 a50 := Tryz.isAgg86,
 z50 := Tryz.sizeOf86,
 v50 := Tryz.zeroValue86,
 t53 := Tryz.underlying48,
 a53 := Tryz.isAgg48,
 z53 := Tryz.sizeOf48,
 v53 := Tryz.zeroValue48,
 t55 := Tryz.underlying36,
 a55 := Tryz.isAgg36,
 z55 := Tryz.sizeOf36,
 v55 := Tryz.zeroValue36,
 t66 := Tryz.underlying297,
 a66 := Tryz.isAgg297,
 z66 := Tryz.sizeOf297,
 v66 := Tryz.zeroValue297,
 t70 := Tryz.underlying300,
 a70 := Tryz.isAgg300,
 z70 := Tryz.sizeOf300,
 v70 := Tryz.zeroValue300,
 t76 := Tryz.underlying311,
 a76 := Tryz.isAgg311,
 z76 := Tryz.sizeOf311,
 v76 := Tryz.zeroValue311,
 t77 := Tryz.underlying43,
 a77 := Tryz.isAgg43,
 z77 := Tryz.sizeOf43,
 v77 := Tryz.zeroValue43 }
end Go.Proofs.YtcdnjeiamihhbabGreat
namespace Go.Proofs.YtcdnjeiamihhbabGreat
open Go.RowKit Go.Sort Go.Lib Go.Shelf
/-- A record that was found, as it lies in a row. -/
structure Fo where
 s : Int
 a : Option Addr
 m : Nat
 c : Nat
 z : Int
 b : Int
instance : Inhabited Fo := ⟨⟨0, none, 0, 0, 0, 0⟩⟩
def foL (f : Fo) : List Value := [.int .u64 f.s, .slice f.a f.m f.c, .int .i64 f.z, .int .i64 f.b]
def ltO (x y : Fo) : Bool := decide (x.s < y.s ∨ (x.s = y.s ∧ (x.z < y.z ∨ (x.z = y.z ∧ x.b < y.b))))
def cfO (x y : Fo) : Int := orZ (cmpZ x.s y.s) (orZ (cmpZ x.z y.z) (cmpZ x.b y.b))
theorem cmpZ_cases (x y : Int) : (x < y ∧ cmpZ x y = -1) ∨ (y < x ∧ cmpZ x y = 1) ∨ (x = y ∧ cmpZ x y = 0) := by
 unfold cmpZ
 by_cases h1 : x < y
 ·exact .inl ⟨h1, by simp [h1]⟩
 ·by_cases h2 : y < x
  ·exact .inr (.inl ⟨h2, by simp [h1, h2]⟩)
  ·exact .inr (.inr ⟨by omega, by simp [h1, h2]⟩)
theorem cfO_lt (x y : Fo) : ltOf cfO x y = ltO x y := by
 unfold ltOf cfO ltO
 rcases cmpZ_cases x.s y.s with ⟨h, e⟩ | ⟨h, e⟩ | ⟨h, e⟩
 ·rw [e]; unfold orZ; simp [h]
 ·rw [e]
  have h1 : ¬ x.s < y.s := by omega
  have h2 : ¬ x.s = y.s := by omega
  unfold orZ; simp [h1, h2]
 ·rw [e]
  rcases cmpZ_cases x.z y.z with ⟨h', e'⟩ | ⟨h', e'⟩ | ⟨h', e'⟩
  ·rw [e']; unfold orZ; simp [h, h']
  ·rw [e']
   have h1 : ¬ x.z < y.z := by omega
   have h2 : ¬ x.z = y.z := by omega
   unfold orZ; simp [h, h1, h2]
  ·rw [e']
   rcases cmpZ_cases x.b y.b with ⟨h2, e2⟩ | ⟨h2, e2⟩ | ⟨h2, e2⟩
   ·rw [e2]; unfold orZ; simp [h, h', h2]
   ·rw [e2]
    have h1 : ¬ x.b < y.b := by omega
    unfold orZ; simp [h, h', h1]
   ·rw [e2]
    have h1 : ¬ x.b < y.b := by omega
    unfold orZ; simp [h, h', h1]
theorem ltO_iff (x y : Fo) : ltO x y = true ↔ (x.s < y.s ∨ (x.s = y.s ∧ (x.z < y.z ∨ (x.z = y.z ∧ x.b < y.b)))) := by
 unfold ltO; exact decide_eq_true_iff
theorem ltO_not (x y : Fo) : ltO x y = false ↔ ¬ (x.s < y.s ∨ (x.s = y.s ∧ (x.z < y.z ∨ (x.z = y.z ∧ x.b < y.b)))) := by
 unfold ltO; exact decide_eq_false_iff_not
theorem swoO : SWO (ltOf cfO) where
 irrefl x := by rw [cfO_lt, ltO_not]; omega
 trans x y z h1 h2 := by rw [cfO_lt, ltO_iff] at *; omega
 ntrans x y z h1 h2 := by rw [cfO_lt, ltO_not] at *; omega
theorem or3_of (a b c : Int) (g : Nat) (w : World) (h0 : w.cell? ⟨g, 0, none⟩ = some (.int .i64 a)) (h1 : w.cell? ⟨g, 1, none⟩ = some (.int .i64 b)) (h2 : w.cell? ⟨g, 2, none⟩ = some (.int .i64 c)) : Calls Tryz.prog 151 #[.slice (some ⟨g, 0, none⟩) 3 3] w fun e w' => e = .returned (.int .i64 (orZ a (orZ b c))) ∧ w' = w := by
 by_cases ha : a = 0
 ·subst ha
  by_cases hb : b = 0
  ·subst hb
   by_cases hc : c = 0
   ·subst hc
    go_enter Tryz.func151, Tryz.ntmps151
    go_wp2
    refine wp_loop_rounds 4 ?_
    rw [rounds_succ]; go_wp2
    rw [rounds_succ]; go_wp2
    rw [rounds_succ]; go_wp2
    rw [rounds_succ]; go_wp2
    go_ret
    exact ⟨rfl, rfl⟩
   ·go_enter Tryz.func151, Tryz.ntmps151
    go_wp2
    refine wp_loop_rounds 4 ?_
    rw [rounds_succ]; go_wp2
    rw [rounds_succ]; go_wp2
    rw [rounds_succ]; go_wp2
    go_ret
    exact ⟨by simp [orZ], rfl⟩
  ·have e : orZ 0 (orZ b c) = b := by unfold orZ; simp [hb]
   rw [e]
   go_enter Tryz.func151, Tryz.ntmps151
   go_wp2
   refine wp_loop_rounds 4 ?_
   rw [rounds_succ]; go_wp2
   rw [rounds_succ]; go_wp2
   go_ret
   exact ⟨rfl, rfl⟩
 ·have e : orZ a (orZ b c) = a := by unfold orZ; simp [ha]
  rw [e]
  go_enter Tryz.func151, Tryz.ntmps151
  go_wp2
  refine wp_loop_rounds 4 ?_
  rw [rounds_succ]; go_wp2
  go_ret
  exact ⟨rfl, rfl⟩
set_option maxHeartbeats 2000000 in
theorem ocmp_of (x y : Fo) (W : World) : Calls Tryz.prog 94 #[.agg (foL x).toArray, .agg (foL y).toArray] W fun e w' => e = .returned (.int .i64 (cfO x y)) ∧ ∃ q os', w' = grow (W.drewN q) os' := by
 obtain ⟨xs, xa, xm, xc, xz, xb⟩ := x
 obtain ⟨ys, ya, ym, yc, yz, yb⟩ := y
 show Calls Tryz.prog 94 #[.agg #[.int .u64 xs, .slice xa xm xc, .int .i64 xz, .int .i64 xb], .agg #[.int .u64 ys, .slice ya ym yc, .int .i64 yz, .int .i64 yb]] W _
 have C0 := fun a b X => cmpI_of a b X
 have C1 := fun a b X => cmp64_of a b X
 have C2 : ∀ a b c g X, X.cell? ⟨g, 0, none⟩ = some (.int .i64 a) → X.cell? ⟨g, 1, none⟩ = some (.int .i64 b) → X.cell? ⟨g, 2, none⟩ = some (.int .i64 c) → Calls Tryz.prog 151 #[.slice (some ⟨g, 0, none⟩) 3 3] X fun e w' => e = .returned (.int .i64 (orZ a (orZ b c))) ∧ w' = X := fun a b c g X h0 h1 h2 => or3_of a b c g X h0 h1 h2
 have k1 : Blk ((W.alloc (.cells #[.int .u64 xs, .slice xa xm xc, .int .i64 xz, .int .i64 xb] 94)).alloc (.cells #[.int .u64 ys, .slice ya ym yc, .int .i64 yz, .int .i64 yb] 94)) W.heap.size [.int .u64 xs, .slice xa xm xc, .int .i64 xz, .int .i64 xb] 94 := (Blk.new' rfl rfl).alloc _
 have k2 : Blk ((W.alloc (.cells #[.int .u64 xs, .slice xa xm xc, .int .i64 xz, .int .i64 xb] 94)).alloc (.cells #[.int .u64 ys, .slice ya ym yc, .int .i64 yz, .int .i64 yb] 94)) (W.heap.size + 1) [.int .u64 ys, .slice ya ym yc, .int .i64 yz, .int .i64 yb] 94 := Blk.new' (by simp) rfl
 have c0 : ((W.alloc (.cells #[.int .u64 xs, .slice xa xm xc, .int .i64 xz, .int .i64 xb] 94)).alloc (.cells #[.int .u64 ys, .slice ya ym yc, .int .i64 yz, .int .i64 yb] 94)).cell? ⟨W.heap.size, 0, none⟩ = some (.int .u64 xs) := k1.cell 0
 have c2 : ((W.alloc (.cells #[.int .u64 xs, .slice xa xm xc, .int .i64 xz, .int .i64 xb] 94)).alloc (.cells #[.int .u64 ys, .slice ya ym yc, .int .i64 yz, .int .i64 yb] 94)).cell? ⟨W.heap.size, 2, none⟩ = some (.int .i64 xz) := k1.cell 2
 have c3 : ((W.alloc (.cells #[.int .u64 xs, .slice xa xm xc, .int .i64 xz, .int .i64 xb] 94)).alloc (.cells #[.int .u64 ys, .slice ya ym yc, .int .i64 yz, .int .i64 yb] 94)).cell? ⟨W.heap.size, 3, none⟩ = some (.int .i64 xb) := k1.cell 3
 have d0 : ((W.alloc (.cells #[.int .u64 xs, .slice xa xm xc, .int .i64 xz, .int .i64 xb] 94)).alloc (.cells #[.int .u64 ys, .slice ya ym yc, .int .i64 yz, .int .i64 yb] 94)).cell? ⟨W.heap.size + 1, 0, none⟩ = some (.int .u64 ys) := k2.cell 0
 have d2 : ((W.alloc (.cells #[.int .u64 xs, .slice xa xm xc, .int .i64 xz, .int .i64 xb] 94)).alloc (.cells #[.int .u64 ys, .slice ya ym yc, .int .i64 yz, .int .i64 yb] 94)).cell? ⟨W.heap.size + 1, 2, none⟩ = some (.int .i64 yz) := k2.cell 2
 have d3 : ((W.alloc (.cells #[.int .u64 xs, .slice xa xm xc, .int .i64 xz, .int .i64 xb] 94)).alloc (.cells #[.int .u64 ys, .slice ya ym yc, .int .i64 yz, .int .i64 yb] 94)).cell? ⟨W.heap.size + 1, 3, none⟩ = some (.int .i64 yb) := k2.cell 3
 clear k1 k2
 go_enter Tryz.func94, Tryz.ntmps94
 go_wp2
 go_region_held3 (fun V => V.cell? ⟨W.heap.size, 0, none⟩ = some (.int .u64 xs) ∧ V.cell? ⟨W.heap.size, 2, none⟩ = some (.int .i64 xz) ∧ V.cell? ⟨W.heap.size, 3, none⟩ = some (.int .i64 xb) ∧ V.cell? ⟨W.heap.size + 1, 0, none⟩ = some (.int .u64 ys) ∧ V.cell? ⟨W.heap.size + 1, 2, none⟩ = some (.int .i64 yz) ∧ V.cell? ⟨W.heap.size + 1, 3, none⟩ = some (.int .i64 yb)) (first | exact ⟨c0, c2, c3, d0, d2, d3⟩ | (refine ⟨?_, ?_, ?_, ?_, ?_, ?_⟩ <;> go_simp))
  (first
  | (go_simp; go_at_call 153; refine (C0 _ _ _).mono ?_; rintro e w2 ⟨rfl, hw2⟩; replace hw2 := hw2.symm; subst hw2)
  | (go_simp; go_at_call 152; refine (C1 _ _ _).mono ?_; rintro e w2 ⟨rfl, hw2⟩; replace hw2 := hw2.symm; subst hw2)
  | (go_simp; go_at_call 151; refine (C2 (cmpZ xs ys) (cmpZ xz yz) (cmpZ xb yb) _ _ (by go_simp) (by go_simp) (by go_simp)).mono ?_; rintro e w2 ⟨rfl, hw2⟩; replace hw2 := hw2.symm; subst hw2))
 all_goals go_wp2
 all_goals go_ret
 all_goals exact ⟨rfl, 1, _, by rw [alloc_eq_grow, alloc_eq_grow, alloc_eq_grow, grow_grow, grow_grow]; rfl⟩
theorem cmpO_lays (blk off size : Nat) (w : World) : CmpLays Tryz.prog 94 #[] foL 4 cfO blk off size w := fun _ _ _ _ x y => ocmp_of x y _
theorem sortO_of (blk cap : Nat) (d : Array Fo) (w : World) (hH : HoldsK foL 4 w blk 0 d) (hb : blk < w.heap.size) (hs : d.size < 1000000) :
  Calls Tryz.prog 93 #[.slice (some ⟨blk, 0, none⟩) d.size cap, .func (.func 94) #[] #[]] w fun e w' => e = .returned (.tuple #[]) ∧ ∃ d' n os, PermIn 0 d.size d d' ∧ SortedIn (ltOf cfO) 0 d.size d' ∧ w' = sortWorldK foL 4 w blk 0 n d' os :=
 AnyQ.slices_SortFunc Tryz.sortO 4 Tryz.isAgg94 Tryz.sizeOf94 foL (fun _ => rfl) (fun x v hv => by simp [foL] at hv; rcases hv with rfl | rfl | rfl | rfl <;> rfl) cfO swoO 94 #[] blk 0 cap d w (enters_of Tryz.func94 (by kernel_rfl) rfl) (cmpO_lays blk 0 d.size w) hH hb (by omega)
end Go.Proofs.YtcdnjeiamihhbabGreat
namespace Go.Proofs.YtcdnjeiamihhbabGreat
open Go.RowKit
section
/-- What a record says of its items, done to a map. -/
def entS (z : Int) : List Pl → Int → List It → List Pl
 | P, b, [] => P
 | P, b, x :: X => if x.k = 2 then entS z (dropS P (x.t, x.b)) b X else entS z (putS P ((x.t, x.b), (z, b + 1))) (b + 1) X
theorem entS_drop {z b : Int} {P : List Pl} {x : It} {X : List It} (h : x.k = 2) : entS z P b (x :: X) = entS z (dropS P (x.t, x.b)) b X := by
 show (if _ then _ else _) = _
 rw [if_pos h]
theorem entS_put {z b : Int} {P : List Pl} {x : It} {X : List It} (h : x.k ≠ 2) : entS z P b (x :: X) = entS z (putS P ((x.t, x.b), (z, b + 1))) (b + 1) X := by
 show (if _ then _ else _) = _
 rw [if_neg h]
section
variable {W : World}
set_option maxHeartbeats 4000000 in
theorem oenter_of (S : Int) (z b : Nat) (A : Option Addr) (n C : Nat) (X : List It) (m b1 b2 : Nat) (P : List Pl) (c : Nat) (hX : ItsIn W A n X) (hXb : n ≠ 0 → ∀ y, A.map (·.block) = some y → y ≠ b1 ∧ y ≠ b2) (hm : LmP W m b1 b2 P c) (hz : z ≤ 10000) (hb : b ≤ 10000) (hn : n ≤ 10000) (hc : c + n ≤ 90000) :
  Calls Tryz.prog 95 #[.agg #[.int .u64 S, .slice A n C, .int .i64 (z : Nat), .int .i64 (b : Nat)], .pointer (some ⟨m, 0, none⟩)] W fun e w' => e = .returned (.tuple #[]) ∧ LmP w' m b1 b2 (entS z P b X) (c + n) ∧ Out (Two b1 b2) W w' := by
 obtain ⟨q, hq⟩ : ∃ q, q = W.heap.size := ⟨_, rfl⟩
 have hlt := hm.lt
 have hV0 : Out (Two b1 b2) W ((W.alloc (.cells #[.int .u64 S, .slice A n C, .int .i64 (z : Nat), .int .i64 (b : Nat)] 94)).alloc (.cells #[.int .i64 (z : Nat), .int .i64 (b : Nat)] 55)) ∧ Blk ((W.alloc (.cells #[.int .u64 S, .slice A n C, .int .i64 (z : Nat), .int .i64 (b : Nat)] 94)).alloc (.cells #[.int .i64 (z : Nat), .int .i64 (b : Nat)] 55)) (q + 1) [.int .i64 (z : Nat), .int .i64 (b : Nat)] 55 ∧ LmP ((W.alloc (.cells #[.int .u64 S, .slice A n C, .int .i64 (z : Nat), .int .i64 (b : Nat)] 94)).alloc (.cells #[.int .i64 (z : Nat), .int .i64 (b : Nat)] 55)) m b1 b2 P c := ⟨((Out.refl _ _).alloc _).alloc _, Blk.new' (by simp [hq]) rfl, (hm.alloc _).alloc _⟩
 have HX : Hid (ItsIn W A n X ∧ (n ≠ 0 → ∀ y, A.map (·.block) = some y → y ≠ b1 ∧ y ≠ b2) ∧ X.length = n ∧ z ≤ 10000 ∧ b ≤ 10000 ∧ n ≤ 10000 ∧ c + n ≤ 90000 ∧ q = W.heap.size ∧ b1 < q ∧ b2 < q) := ⟨hX, hXb, hX.1, hz, hb, hn, hc, hq, by rw [hq]; exact hlt b1 (.inr (.inl rfl)), by rw [hq]; exact hlt b2 (.inr (.inr rfl))⟩
 clear hX hXb hm hz hb hn hc hlt
 go_enter Tryz.func95, Tryz.ntmps95
 go_wp2_with fail
 rw [← hq]
 clear hq
 generalize World.alloc (World.alloc W _) _ = V at hV0 ⊢
 have HV : Hid (Out (Two b1 b2) W V ∧ Blk V (q + 1) [.int .i64 (z : Nat), .int .i64 (b : Nat)] 55 ∧ LmP V m b1 b2 P c) := hV0
 clear hV0
 go_loopw [13] (fun x wr => ∃ (k j c' : Nat) (P' : List Pl), x = .int .i64 k ∧ k ≤ n ∧ j ≤ b + k ∧ c' ≤ c + k ∧ entS z P b X = entS z P' j (X.drop k) ∧ LmP wr m b1 b2 P' c' ∧ Out (Two b1 b2) W wr ∧ Blk wr (q + 1) [.int .i64 (z : Nat), .int .i64 (j : Nat)] 55) (fun x _ => n - (intOf x).toNat)
 case atStart => exact ⟨0, b, c, P, rfl, Nat.zero_le _, Nat.le_refl _, Nat.le_refl _, rfl, HV.out.2.2, HV.out.1, HV.out.2.1⟩
 case round =>
  obtain ⟨k, j, c', P', rfl, hk, hj, hc', he, hm, ho, hbk⟩ := hrel
  obtain ⟨-, -, hxl, hz5, hb5, hn5, hc5, -, hq1, hq2⟩ := HX.out
  rcases Nat.lt_or_ge k n with hlt | hge
  ·have hk' : (k : Int) < n := by omega
   have hwk : IntKind.i64.wrap ((k : Int) + 1) = (k : Int) + 1 := by rw [IntKind.wrap_i64]; omega
   have hwj : IntKind.i64.wrap ((j : Int) + 1) = (j : Int) + 1 := by rw [IntKind.wrap_i64]; omega
   obtain ⟨x, hx⟩ : ∃ x, X[k]? = some x := ⟨X[k]'(by omega), by simp⟩
   have hits := HX.out.1.outO ho (fun h0 y hy hT => by
    have := HX.out.2.1 h0 y hy
    rcases hT with h | h
    ·exact this.1 h
    ·exact this.2 h)
   have hfx := hits.2.2.1 x (List.mem_of_getElem? hx)
   obtain ⟨bb, off, hA, hc⟩ := hits.2.2.2.resolve_left (by omega)
   subst hA
   obtain ⟨t, u, kd, sm, en⟩ := x
   have y0 : wr.cell? ⟨bb, off + k * 5 + 0, none⟩ = some (.int .u32 t) := hc k _ hx 0 _ rfl
   have y1 : wr.cell? ⟨bb, off + k * 5 + 1, none⟩ = some (.int .u64 u) := hc k _ hx 1 _ rfl
   have y2 : wr.cell? ⟨bb, off + k * 5 + 2, none⟩ = some (.int .u8 kd) := hc k _ hx 2 _ rfl
   have y3 : wr.cell? ⟨bb, off + k * 5 + 3, none⟩ = some (.int .u32 sm) := hc k _ hx 3 _ rfl
   have y4 : wr.cell? ⟨bb, off + k * 5 + 4, none⟩ = some (.int .u16 en) := hc k _ hx 4 _ rfl
   simp only [Nat.add_zero] at y0
   have hdr : X.drop k = ⟨t, u, kd, sm, en⟩ :: X.drop (k + 1) := by
    obtain ⟨h, e⟩ := List.getElem?_eq_some_iff.1 hx
    rw [List.drop_eq_getElem_cons h, e]
   have a0 : ∀ o, (wr.alloc o).cell? ⟨q + 1, 0, none⟩ = some (.int .i64 (z : Nat)) := fun o => (hbk.alloc o).cell 0
   have a1 : ∀ o, (wr.alloc o).cell? ⟨q + 1, 1, none⟩ = some (.int .i64 (j : Nat)) := fun o => (hbk.alloc o).cell 1
   have z1 : ∀ o, (wr.alloc o).frozen? ⟨q + 1, 1, none⟩ = false := fun o => (hbk.alloc o).frozen 1
   have hfn : FitsN (t, u) := ⟨hfx.1, hfx.2.1⟩
   have HK : Hid (entS z P b X = entS z P' j (⟨t, u, kd, sm, en⟩ :: X.drop (k + 1)) ∧ LmP wr m b1 b2 P' c' ∧ Out (Two b1 b2) W wr ∧ Blk wr (q + 1) [.int .i64 (z : Nat), .int .i64 (j : Nat)] 55 ∧ FitsN (t, u) ∧ q + 1 < wr.heap.size) := ⟨by rw [he, hdr], hm, ho, hbk, hfn, hbk.lt⟩
   clear he hm ho hbk hits hfx hc hx hdr hfn
   by_cases hkd : kd = 2
   ·have HKd : Hid (kd = 2) := hkd
    have hne : (kd == 2) = true := by rw [hkd]; rfl
    clear hkd
    have HD : Hid (∀ o, Calls Tryz.prog 72 #[.pointer (some ⟨m, 0, none⟩), .int .u32 t, .int .u64 u] (wr.alloc o) fun e w' => ∃ bl, e = .returned (.bool bl) ∧ LmP w' m b1 b2 (dropS P' (t, u)) c' ∧ Out (Two b1 b2) W w' ∧ Blk w' (q + 1) [.int .i64 (z : Nat), .int .i64 (j : Nat)] 55) := fun o => by
     refine (mDrop_of m b1 b2 P' c' (t, u) (wr.alloc o) (HK.out.2.1.alloc o) HK.out.2.2.2.2.1).mono ?_
     rintro e w' ⟨rfl, h1, h2⟩
     refine ⟨_, rfl, h1, (HK.out.2.2.1.alloc o).trans h2 (fun j hj => .inl hj), h2.blk (HK.out.2.2.2.1.alloc o) (fun hT => ?_)⟩
     rcases hT with h | h <;> omega
    go_wp2_with (go_at_call 72; refine (HD.out _).mono ?_; rintro e w1 ⟨bl, rfl, hm1, ho1, hk1⟩)
    have HZ : Hid (entS z P b X = entS z (dropS P' (t, u)) j (X.drop (k + 1)) ∧ LmP w1 m b1 b2 (dropS P' (t, u)) c' ∧ Out (Two b1 b2) W w1 ∧ Blk w1 (q + 1) [.int .i64 (z : Nat), .int .i64 (j : Nat)] 55) := ⟨by rw [HK.out.1]; exact entS_drop HKd.out, hm1, ho1, hk1⟩
    clear hm1 ho1 hk1
    go_roundw
    case rel => exact ⟨k + 1, j, c', dropS P' (t, u), by simp, by omega, by omega, by omega, HZ.out.1, HZ.out.2⟩
    case measure => simp [intOf]; omega
   ·have HKd : Hid (kd ≠ 2) := hkd
    have hne : (kd == 2) = false := by simp [hkd]
    clear hkd
    have hg1 : ∀ o, ((wr.alloc o).setCell ⟨q + 1, 1, none⟩ (.int .i64 ((j : Int) + 1))).cell? ⟨q + 1, 0, none⟩ = some (.int .i64 (z : Nat)) := fun o => ((HK.out.2.2.2.1.alloc o).set 1 (.int .i64 ((j : Int) + 1))).cell 0
    have hg2 : ∀ o, ((wr.alloc o).setCell ⟨q + 1, 1, none⟩ (.int .i64 ((j : Int) + 1))).cell? ⟨q + 1, 1, none⟩ = some (.int .i64 ((j : Int) + 1)) := fun o => ((HK.out.2.2.2.1.alloc o).set 1 (.int .i64 ((j : Int) + 1))).cell 1
    have kx : Blk ((wr.alloc (.cells #[.int .u32 t, .int .u64 u, .int .u8 kd, .int .u32 sm, .int .u16 en] 50)).setCell ⟨q + 1, 1, none⟩ (.int .i64 ((j : Int) + 1))) wr.heap.size [.int .u32 t, .int .u64 u, .int .u8 kd, .int .u32 sm, .int .u16 en] 50 := (Blk.new' rfl rfl).set_other (a := ⟨q + 1, 1, none⟩) (by show wr.heap.size ≠ q + 1; have := HK.out.2.2.2.2.2; omega) _
    have x0 : ((wr.alloc (.cells #[.int .u32 t, .int .u64 u, .int .u8 kd, .int .u32 sm, .int .u16 en] 50)).setCell ⟨q + 1, 1, none⟩ (.int .i64 ((j : Int) + 1))).cell? ⟨wr.heap.size, 0, none⟩ = some (.int .u32 t) := kx.cell 0
    have x1 : ((wr.alloc (.cells #[.int .u32 t, .int .u64 u, .int .u8 kd, .int .u32 sm, .int .u16 en] 50)).setCell ⟨q + 1, 1, none⟩ (.int .i64 ((j : Int) + 1))).cell? ⟨wr.heap.size, 1, none⟩ = some (.int .u64 u) := kx.cell 1
    clear kx
    have HP : Hid (∀ o, Calls Tryz.prog 66 #[.pointer (some ⟨m, 0, none⟩), .agg #[.int .u32 t, .int .u64 u, .int .i64 (z : Nat), .int .i64 ((j : Int) + 1)]] ((wr.alloc o).setCell ⟨q + 1, 1, none⟩ (.int .i64 ((j : Int) + 1))) fun e w' => e = .returned (.tuple #[]) ∧ LmP w' m b1 b2 (putS P' ((t, u), ((z : Int), (j : Int) + 1))) (c' + 1) ∧ Out (Two b1 b2) W w' ∧ Blk w' (q + 1) [.int .i64 (z : Nat), .int .i64 ((j : Int) + 1)] 55) := fun o => by
     have hl := HK.out.2.1.lt
     have ow := out_one (wr.alloc o) (q + 1) 1 (.int .i64 ((j : Int) + 1))
     have hmm : LmP ((wr.alloc o).setCell ⟨q + 1, 1, none⟩ (.int .i64 ((j : Int) + 1))) m b1 b2 P' c' := (HK.out.2.1.alloc o).out ow (fun k hk e => by
      rcases hk with h | h | h
      ·subst h; subst e
       have h1 := HK.out.2.1.hp
       have h2 := HK.out.2.2.2.1
       exact absurd (h1.cell 0 ▸ h2.cell 0 : _) (by intro h; have h3 : wr.cell? ⟨q + 1, 0, none⟩ = some (.map (some b1)) := h1.cell 0; have h4 : wr.cell? ⟨q + 1, 0, none⟩ = some (.int .i64 (z : Nat)) := h2.cell 0; rw [h3] at h4; cases h4)
      ·omega
      ·omega)
     refine (mPut_of m b1 b2 P' c' ((t, u), ((z : Int), (j : Int) + 1)) _ hmm ⟨HK.out.2.2.2.2.1, by unfold FitsS; unfold I64; simp only; omega⟩ (by omega)).mono ?_
     rintro e w' ⟨rfl, h1, h2⟩
     refine ⟨rfl, h1, ?_, h2.blk ((HK.out.2.2.2.1.alloc o).set 1 _) (fun hT => ?_)⟩
     ·have hW := HK.out.2.2.1.size
      have hqW := HX.out.2.2.2.2.2.2.2.1
      exact ((HK.out.2.2.1.alloc o).trans ow (fun j hj => .inr (by omega))).trans h2 (fun j hj => .inl hj)
     ·rcases hT with h | h <;> omega
    go_wp2_with (go_at_call 66; refine (HP.out _).mono ?_; rintro e w1 ⟨rfl, hm1, ho1, hk1⟩)
    exact ⟨⟨k + 1, j + 1, c' + 1, putS P' ((t, u), ((z : Int), (j : Int) + 1)), by simp, by omega, by omega, by omega, by rw [HK.out.1]; exact entS_put HKd.out, hm1, ho1, hk1⟩, by simp [intOf]; omega⟩
  ·obtain rfl : k = n := by omega
   have HF : Hid (LmP wr m b1 b2 (entS z P b X) (c + k) ∧ Out (Two b1 b2) W wr) := ⟨by rw [he, List.drop_eq_nil_of_le (by omega)]; exact hm.mono (by omega), ho⟩
   clear he hm ho hbk
   go_wp2
   first | go_end0 | refine bodyPost_ret (results_none rfl _ _ _) rfl ?_
   exact ⟨rfl, HF.out⟩
end
end
end Go.Proofs.YtcdnjeiamihhbabGreat
