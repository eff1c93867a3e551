/- Texts of this seat, one behind the other: FRun, FKind, FOrd, FRef, FList, FKnown, FAge. -/
import Derived.Test.YtncnkpnfmbgifaaGreatChecked
import Derived.Test.YtncnkpnfmbgifaaGreatS1
import Derived.WalkKit
import Derived.WalkSmall
import Derived.Below
import Derived.Laws.Externs
import Derived.Test.YtncnkpnfmbgifaaGreatP1
import Derived.Deep.MidRow
import Derived.Laws.AppendOwnNone
import Derived.OpenShut
import Derived.OwnWalk
/- What a float's operation does in a run, whatever its operands; the small functions. -/
namespace Go.Proofs.YtncnkpnfmbgifaaGreat
open Go.RowKit
set_option linter.unusedVariables false
set_option maxRecDepth 4000

def fres (o : BinOp) (x y : Nat) (w : World) : Nat := match op4 o x y with
 | some r => r
 | none => (Question.nanBits .f64 x y).cut (w.tape w.drawn (.nanBits .f64 x y))
def fwld (o : BinOp) (x y : Nat) (w : World) : World := match op4 o x y with
 | some _ => w
 | none => w.drew

theorem run_float {P : Program} (o : BinOp) (ho : o = .add ∨ o = .sub ∨ o = .mul ∨ o = .quo) (t : TypeId) (x y : Nat) (w : World) :
  (binOp o t (.float .f64 x) (.float .f64 y)).run P w = .ok (.float .f64 (fres o x y w)) (fwld o x y w) := by
 unfold fres fwld
 cases h : op4 o x y with
 | some r => exact run_float_arith w o t .f64 x y r h
 | none =>
  unfold op4 floatBits at h
  rcases ho with rfl | rfl | rfl | rfl <;> simp only at h <;> simp [binOp, Op.floatArith, h, Question.forced]

theorem nan_cut (x y t : Nat) : Nan ((Question.nanBits .f64 x y).cut t) ∧ (Question.nanBits .f64 x y).cut t < 2 ^ 64 := by
 simp only [Question.cut, Nan, rung, IR]
 have a : t % 2 < 2 := Nat.mod_lt _ (by decide)
 have b : t / 2 % (2 ^ 52 - 1) < 2 ^ 52 - 1 := Nat.mod_lt _ (by decide)
 generalize t % 2 = p at *
 generalize t / 2 % (2 ^ 52 - 1) = q at *
 have : p = 0 ∨ p = 1 := by omega
 rcases this with rfl | rfl <;> constructor <;> omega

theorem fres_cls (o : BinOp) (x y : Nat) (w : World) : Cls (op4 o x y) (fres o x y w) := by
 unfold fres Cls
 cases h : op4 o x y with
 | some r => exact ⟨(op4_num h).2, rfl, (op4_num h).1⟩
 | none => exact ⟨(nan_cut x y _).2, (nan_cut x y _).1⟩

def Drawn (w w' : World) : Prop := ∃ n, w' = w.drewN n
theorem Drawn.refl (w : World) : Drawn w w := ⟨0, rfl⟩
theorem Drawn.trans {a b c : World} (h : Drawn a b) (g : Drawn b c) : Drawn a c := by
 obtain ⟨n, rfl⟩ := h
 obtain ⟨m, rfl⟩ := g
 exact ⟨n + m, by simp [World.drewN, Nat.add_assoc]⟩
theorem fwld_drawn (o : BinOp) (x y : Nat) (w : World) : Drawn w (fwld o x y w) := by
 unfold fwld
 cases op4 o x y with
 | some r => exact .refl w
 | none => exact ⟨1, rfl⟩
theorem Drawn.below {w w' : World} {B : Nat} {a : World} (h : Drawn w w') (b : Below B a w) : Below B a w' := by
 obtain ⟨n, rfl⟩ := h
 exact below_drewN b n

theorem cls_none {x : Nat} (h : Cls none x) : Nan x := h.2
theorem cls_some {r x : Nat} (h : Cls (some r) x) : x = r := h.2.1

def ratC (a b : Nat) : Option Nat := op4 .quo (cv a) (cv b)
theorem ratio_of (a b : Nat) (w : World) : Calls Tryz.prog 190 #[.int .u64 a, .int .u64 b] w fun e w' => ∃ x, e = .returned (.float .f64 x) ∧ Cls (ratC a b) x ∧ Drawn w w' := by
 have fq := fun (x y : Nat) (W : World) => run_float (P := Tryz.prog) .quo (by simp) 89 x y W
 have ca := ofInt_cv a
 have cb := ofInt_cv b
 go_enter Tryz.func190, Tryz.ntmps190
 go_wp2
 go_ret
 exact ⟨_, rfl, fres_cls _ _ _ _, fwld_drawn _ _ _ _⟩

end Go.Proofs.YtncnkpnfmbgifaaGreat

/- Kind, Order and what they call; the document's own; the worth of a zone. -/
namespace Go.Proofs.YtncnkpnfmbgifaaGreat
open Go.RowKit Ieee
set_option linter.unusedVariables false
set_option maxRecDepth 4000

theorem fmt64 : FloatKind.f64.format = double := rfl

def ordI (x y : Nat) : Int := if Nan x then (if Nan y then 0 else -1) else if Nan y then 1 else if key x < key y then -1 else if key y < key x then 1 else 0

theorem neq_nan (x : Nat) : (FloatKind.f64.format.order x x != some .eq) = decide (Nan x) := by
 rw [fmt64]
 by_cases h : Nan x
 ·rw [order_nan_left x x h, decide_eq_true h]; rfl
 ·rw [order_self x h, decide_eq_false h]; rfl

theorem none_of (x : Nat) (w : World) : Calls Tryz.prog 85 #[.float .f64 x] w fun e w' => e = .returned (.bool (decide (Nan x))) ∧ w' = w := by
 have h := neq_nan x
 go_enter Tryz.func85, Tryz.ntmps85
 go_wp2
 go_ret
 exact ⟨rfl, rfl⟩
theorem cNaN_of (x : Nat) (w : World) : Calls Tryz.prog 189 #[.float .f64 x] w fun e w' => e = .returned (.bool (decide (Nan x))) ∧ w' = w := by
 have h := neq_nan x
 go_enter Tryz.func189, Tryz.ntmps189
 go_wp2
 go_ret
 exact ⟨rfl, rfl⟩

theorem key_word_pos (r : Nat) (h : r < 2 ^ 63) : key r = val r := by
 have a : sgn r = false := by unfold sgn; rw [Nat.div_eq_of_lt h]; rfl
 have b : rung r = r := Nat.mod_eq_of_lt h
 unfold key sg
 rw [a, b]; rfl
theorem nan_pos (r : Nat) (h : r ≤ IR) : ¬ Nan r := by
 unfold Nan rung
 have := ir_lt
 rw [Nat.mod_eq_of_lt (by omega)]; omega

theorem run_frombits (x : Int) (w : World) : (callFunc 136 #[.int .u64 x]).run Tryz.prog w = .ok (.value (.float .f64 x.toNat)) w := by
 rw [run_callFunc_extern (e := Extern.MathFloatBits.float64frombits) Tryz.func136 (by kernel_rfl) (by kernel_rfl) (by kernel_rfl) (by kernel_rfl)]
 rfl

theorem nanv_of (w : World) : Calls Tryz.prog 81 #[] w fun e w' => e = .returned (.float .f64 9221120237041090561) ∧ w' = w := by
 have h := fun W => run_frombits 9221120237041090561 W
 go_enter Tryz.func81, Tryz.ntmps81
 go_wp2
 go_ret
 exact ⟨rfl, rfl⟩

end Go.Proofs.YtncnkpnfmbgifaaGreat

/- Kind and Order, the program's and the document's; a zone's worth. -/
namespace Go.Proofs.YtncnkpnfmbgifaaGreat
open Go.RowKit Ieee
set_option linter.unusedVariables false
set_option maxRecDepth 4000

theorem order_vals (x y : Nat) (hx : ¬ Nan x) (hy : ¬ Nan y) : FloatKind.f64.format.order x y = some (if key x < key y then .lt else if key y < key x then .gt else .eq) := by
 rw [fmt64, order_key x y hx hy]
 by_cases a : key x < key y
 ·rw [if_pos a, compare_lt.2 a]
 ·by_cases b : key y < key x
  ·rw [if_neg a, if_pos b, compare_gt.2 b]
  ·rw [if_neg a, if_neg b, compare_eq.2 (by omega)]

set_option maxHeartbeats 1000000 in
theorem compare_of (x y : Nat) (w : World) : Calls Tryz.prog 137 #[.float .f64 x, .float .f64 y] w fun e w' => e = .returned (.int .i64 (ordI x y)) ∧ w' = w := by
 obtain ⟨K, hK⟩ : ∃ K, K = ordI x y := ⟨_, rfl⟩
 rw [← hK]
 have HK : Hid (K = ordI x y) := hK
 clear hK
 go_enter Tryz.func137, Tryz.ntmps137
 go_wp2_with fail
 refine (cNaN_of x w).mono ?_
 rintro e w ⟨rfl, rfl⟩
 go_wp2_with fail
 refine (cNaN_of y w).mono ?_
 rintro e w ⟨rfl, rfl⟩
 by_cases hx : Nan x
 ·have dx : decide (Nan x) = true := decide_eq_true hx
  by_cases hy : Nan y
  ·have dy : decide (Nan y) = true := decide_eq_true hy
   go_wp2
   go_ret
   exact ⟨by rw [HK.out]; unfold ordI; rw [if_pos hx, if_pos hy]; rfl, rfl⟩
  ·have dy : decide (Nan y) = false := decide_eq_false hy
   go_wp2
   go_ret
   exact ⟨by rw [HK.out]; unfold ordI; rw [if_pos hx, if_neg hy]; rfl, rfl⟩
 have dx : decide (Nan x) = false := decide_eq_false hx
 by_cases hy : Nan y
 ·have dy : decide (Nan y) = true := decide_eq_true hy
  go_wp2
  go_ret
  exact ⟨by rw [HK.out]; unfold ordI; rw [if_neg hx, if_pos hy]; rfl, rfl⟩
 have dy : decide (Nan y) = false := decide_eq_false hy
 have ov := order_vals x y hx hy
 have HN : Hid (¬ Nan x ∧ ¬ Nan y) := ⟨hx, hy⟩
 clear hx hy
 by_cases a : key x < key y
 ·rw [if_pos a] at ov
  have HA : Hid (key x < key y) := a
  clear a
  go_wp2
  go_ret
  exact ⟨by rw [HK.out]; unfold ordI; rw [if_neg HN.out.1, if_neg HN.out.2, if_pos HA.out]; rfl, rfl⟩
 rw [if_neg a] at ov
 have HA : Hid (key y ≤ key x) := Int.not_lt.1 a
 clear a
 by_cases b : key y < key x
 ·rw [if_pos b] at ov
  have HB : Hid (key y < key x) := b
  clear b
  go_wp2
  go_ret
  exact ⟨by rw [HK.out]; unfold ordI; rw [if_neg HN.out.1, if_neg HN.out.2, if_neg (Int.not_lt.2 HA.out), if_pos HB.out]; rfl, rfl⟩
 ·rw [if_neg b] at ov
  have HB : Hid (key x ≤ key y) := Int.not_lt.1 b
  clear b
  go_wp2
  go_ret
  exact ⟨by rw [HK.out]; unfold ordI; rw [if_neg HN.out.1, if_neg HN.out.2, if_neg (Int.not_lt.2 HA.out), if_neg (Int.not_lt.2 HB.out)]; rfl, rfl⟩

theorem order_of (x y : Nat) (w : World) : Calls Tryz.prog 82 #[.float .f64 x, .float .f64 y] w fun e w' => e = .returned (.int .i64 (ordI x y)) ∧ w' = w := by
 go_enter Tryz.func82, Tryz.ntmps82
 go_wp2_with fail
 refine (compare_of x y w).mono ?_
 rintro e w ⟨rfl, rfl⟩
 go_wp2
 go_ret
 exact ⟨rfl, rfl⟩

def worC (a b c : Nat) : Option Nat := bop .quo (bop .mul (bop .sub (some 4607182418800017408) (ratC a b)) (some (cv c))) (bop .add (some 4607182418800017408) (ratC a b))
theorem cls_num (r : Nat) (h : ¬ Nan r) (hr : r < 2 ^ 64) : Cls (some r) r := ⟨hr, rfl, h⟩
theorem cv_le (n : Nat) : cv n ≤ IR := Nat.min_le_right _ _
theorem cls_cv (n : Nat) : Cls (some (cv n)) (cv n) := cls_num _ (nan_pos _ (cv_le n)) (by have := cv_le n; have := ir_lt; omega)
theorem cls_one : Cls (some 4607182418800017408) 4607182418800017408 := cls_num _ (by decide) (by decide)
theorem fres_bop (o : BinOp) {c d : Option Nat} {x y : Nat} (hx : Cls c x) (hy : Cls d y) (w : World) : Cls (bop o c d) (fres o x y w) := by
 rw [← bop_cls hx hy]; exact fres_cls o x y w

set_option maxHeartbeats 1000000 in
theorem worth_of (a b c : Nat) (w : World) : Calls Tryz.prog 139 #[.int .u64 a, .int .u64 b, .int .u64 c] w fun e w' => ∃ x, e = .returned (.float .f64 x) ∧ Cls (worC a b c) x ∧ Drawn w w' := by
 have fq := fun (x y : Nat) (W : World) => run_float (P := Tryz.prog) .quo (by simp) 89 x y W
 have fs := fun (x y : Nat) (W : World) => run_float (P := Tryz.prog) .sub (by simp) 89 x y W
 have fm := fun (x y : Nat) (W : World) => run_float (P := Tryz.prog) .mul (by simp) 89 x y W
 have fa := fun (x y : Nat) (W : World) => run_float (P := Tryz.prog) .add (by simp) 89 x y W
 have cc := ofInt_cv c
 go_enter Tryz.func139, Tryz.ntmps139
 go_wp2_with fail
 refine (ratio_of a b w).mono ?_
 rintro e w1 ⟨u, rfl, hu, dr⟩
 have HU : Hid (Cls (ratC a b) u ∧ Drawn w w1) := ⟨hu, dr⟩
 clear hu dr
 go_wp2
 go_ret
 refine ⟨_, rfl, fres_bop .quo (fres_bop .mul (fres_bop .sub cls_one HU.out.1 _) (cls_cv c) _) (fres_bop .add cls_one HU.out.1 _) _, ?_⟩
 exact (((HU.out.2.trans (fwld_drawn _ _ _ _)).trans (fwld_drawn _ _ _ _)).trans (fwld_drawn _ _ _ _)).trans (fwld_drawn _ _ _ _)

end Go.Proofs.YtncnkpnfmbgifaaGreat

/- The document's own Kind, and what the laws ask two numbers for. -/
namespace Go.Proofs.YtncnkpnfmbgifaaGreat
open Go.RowKit Ieee
set_option linter.unusedVariables false
set_option maxRecDepth 4000

end Go.Proofs.YtncnkpnfmbgifaaGreat

/- Lists of floats in the world; the best of a list, and its mean. -/
namespace Go.Proofs.YtncnkpnfmbgifaaGreat
open Go.RowKit Ieee
set_option linter.unusedVariables false
set_option maxRecDepth 4000

def fvs (S : List Nat) : List Value := S.map (Value.float .f64)
theorem Tryz.zero_f64 : (Tryz.prog.info? 89).map (fun i => (i.zero, i.size, i.bytes)) = some (some (.float .f64 0), 1, 8) := by kernel_rfl

def FIn (w : World) (a : Option Addr) (len : Nat) (zs : List Nat) : Prop :=
 zs.length = len ∧ len ≤ maxLen ∧ (∀ z ∈ zs, z < 2 ^ 64) ∧
 (len = 0 ∨ ∃ b off, a = some ⟨b, off, none⟩ ∧ ∀ i, i < len → w.cell? ⟨b, off + i, none⟩ = some (.float .f64 (zs.getD i 0)))
theorem FIn.below {w w' : World} {a : Option Addr} {len : Nat} {zs : List Nat} (h : FIn w a len zs) (hb : Below w.heap.size w w') : FIn w' a len zs := by
 obtain ⟨h1, h2, h3, h4⟩ := h
 refine ⟨h1, h2, h3, ?_⟩
 rcases h4 with h4 | ⟨b, off, ha, hc⟩
 ·exact .inl h4
 ·exact .inr ⟨b, off, ha, fun i hi => by rw [hb.cell (old_block (hc i hi))]; exact hc i hi⟩
theorem FIn.drawn {w w' : World} {a : Option Addr} {len : Nat} {zs : List Nat} (h : FIn w a len zs) (d : Drawn w w') : FIn w' a len zs := h.below (d.below (Below.refl _ _))
theorem own_fin {w : World} {base : Nat} {a : Option Addr} {n c : Nat} {zs : List Nat} (h : w.ownsRow base 89 1 (.slice a n c) n (fvs zs)) (hm : n ≤ maxLen) (hz : ∀ z ∈ zs, z < 2 ^ 64) :
  FIn w a n zs := by
 have hl : zs.length = n := by have := h.1; simp [fvs] at this; omega
 refine ⟨hl, hm, hz, ?_⟩
 rcases h.2 with ⟨hv, hn⟩ | ⟨g, cap, cur, hv, hb, hg, hc, hcm, hsz, htake⟩
 ·exact .inl hn
 ·cases hv
  refine .inr ⟨g, 0, rfl, fun i hi => ?_⟩
  have hcl := h.cells (g := g) rfl i (.float .f64 (zs.getD i 0)) (by simp [fvs, List.getD, hl, hi])
  rw [Addr.add_mid] at hcl
  exact hcl
def BestTo (zs : List Nat) (j : Nat) (B : Int) : Prop :=
 (B = -1 ∧ ∀ i, i < j → Nan (zs.getD i 0)) ∨
 ∃ k : Nat, B = k ∧ k < j ∧ ¬ Nan (zs.getD k 0) ∧ (∀ i, i < j → ¬ Nan (zs.getD i 0) → key (zs.getD i 0) ≤ key (zs.getD k 0)) ∧ (∀ i, i < k → ¬ Nan (zs.getD i 0) → key (zs.getD i 0) < key (zs.getD k 0))
theorem BestTo.one {zs : List Nat} {j : Nat} {B C : Int} (h : BestTo zs j B) (g : BestTo zs j C) : B = C := by
 rcases h with ⟨rfl, h⟩ | ⟨k, rfl, hk, hn, h1, h2⟩ <;> rcases g with ⟨rfl, g⟩ | ⟨l, rfl, hl, gn, g1, g2⟩
 ·rfl
 ·exact absurd (h l hl) gn
 ·exact absurd (g k hk) hn
 ·have a := h1 l hl gn
  have b := g1 k hk hn
  rcases Nat.lt_trichotomy k l with c | c | c
  ·have := g2 k c hn; omega
  ·rw [c]
  ·have := h2 l c gn; omega
theorem BestTo.up {zs : List Nat} {j : Nat} {B : Int} (h : BestTo zs j B) (hz : ¬ Nan (zs.getD j 0)) (hg : ∀ k : Nat, B = k → key (zs.getD k 0) < key (zs.getD j 0)) : BestTo zs (j + 1) j := by
 refine .inr ⟨j, rfl, by omega, hz, fun i hi hn => ?_, fun i hi hn => ?_⟩
 ·rcases Nat.lt_or_ge i j with hj | hj
  ·rcases h with ⟨rfl, h⟩ | ⟨k, rfl, hk, kn, h1, h2⟩
   ·exact absurd (h i hj) hn
   ·have := h1 i hj hn; have := hg k rfl; omega
  ·obtain rfl : i = j := by omega
   exact Int.le_refl _
 ·rcases h with ⟨rfl, h⟩ | ⟨k, rfl, hk, kn, h1, h2⟩
  ·exact absurd (h i hi) hn
  ·have := h1 i hi hn; have := hg k rfl; omega
theorem BestTo.stay {zs : List Nat} {j : Nat} {B : Int} (h : BestTo zs j B) (hg : Nan (zs.getD j 0) ∨ ∃ k : Nat, B = k ∧ key (zs.getD j 0) ≤ key (zs.getD k 0)) : BestTo zs (j + 1) B := by
 rcases h with ⟨rfl, h⟩ | ⟨k, rfl, hk, kn, h1, h2⟩
 ·refine .inl ⟨rfl, fun i hi => ?_⟩
  rcases Nat.lt_or_ge i j with hj | hj
  ·exact h i hj
  ·obtain rfl : i = j := by omega
   rcases hg with hg | ⟨k, e, _⟩
   ·exact hg
   ·omega
 ·refine .inr ⟨k, rfl, by omega, kn, fun i hi hn => ?_, h2⟩
  rcases Nat.lt_or_ge i j with hj | hj
  ·exact h1 i hj hn
  ·obtain rfl : i = j := by omega
   rcases hg with hg | ⟨k', e, hk'⟩
   ·exact absurd hg hn
   ·have : k' = k := by omega
    rw [← this]; exact hk'

def BSt (zs : List Nat) (j : Nat) (B : Int) (G : Nat) : Prop := BestTo zs j B ∧ ((B = -1 ∧ Nan G) ∨ ∃ k : Nat, B = k ∧ k < j ∧ G = zs.getD k 0 ∧ ¬ Nan G)
theorem ordI_pos (x y : Nat) : 0 < ordI x y ↔ ¬ Nan x ∧ (Nan y ∨ key y < key x) := by
 unfold ordI
 by_cases a : Nan x
 ·rw [if_pos a]
  by_cases b : Nan y
  ·rw [if_pos b]; simp [a]
  ·rw [if_neg b]; simp [a]
 ·rw [if_neg a]
  by_cases b : Nan y
  ·rw [if_pos b]; simp [a, b]
  ·rw [if_neg b]
   by_cases c : key x < key y
   ·rw [if_pos c]; simp [a, b]; omega
   ·rw [if_neg c]
    by_cases d : key y < key x
    ·rw [if_pos d]; simp [a, d]
    ·rw [if_neg d]; simp [b, d]
theorem BSt.up {zs : List Nat} {j : Nat} {B : Int} {G : Nat} (h : BSt zs j B G) (hp : 0 < ordI (zs.getD j 0) G) : BSt zs (j + 1) j (zs.getD j 0) := by
 obtain ⟨hn, hk⟩ := (ordI_pos _ _).1 hp
 refine ⟨h.1.up hn fun k e => ?_, .inr ⟨j, rfl, by omega, rfl, hn⟩⟩
 rcases h.2 with ⟨e2, hG⟩ | ⟨k', e2, _, e3, hG⟩
 ·omega
 ·have : k' = k := by omega
  rw [← this, ← e3]
  exact hk.resolve_left hG
theorem BSt.stay {zs : List Nat} {j : Nat} {B : Int} {G : Nat} (h : BSt zs j B G) (hp : ¬ 0 < ordI (zs.getD j 0) G) : BSt zs (j + 1) B G := by
 rw [ordI_pos] at hp
 refine ⟨h.1.stay ?_, ?_⟩
 ·by_cases hn : Nan (zs.getD j 0)
  ·exact .inl hn
  ·rcases h.2 with ⟨e2, hG⟩ | ⟨k', e2, _, e3, hG⟩
   ·exact absurd ⟨hn, .inl hG⟩ hp
   ·refine .inr ⟨k', e2, ?_⟩
    rw [← e3]
    rcases Int.lt_or_le (key G) (key (zs.getD j 0)) with c | c
    ·exact absurd ⟨hn, .inr c⟩ hp
    ·exact c
 ·rcases h.2 with h2 | ⟨k', e2, hk, e3, hG⟩
  ·exact .inl h2
  ·exact .inr ⟨k', e2, by omega, e3, hG⟩
set_option maxHeartbeats 1000000 in
theorem best_of (a : Option Addr) (n c : Nat) (zs : List Nat) (w : World) (hin : FIn w a n zs) (hn : n ≤ 1000000) :
  Calls Tryz.prog 37 #[.slice a n c] w fun e w' => ∃ B, e = .returned (.int .i64 B) ∧ BestTo zs n B ∧ w' = w := by
 have H : Hid (FIn w a n zs) := hin
 clear hin
 go_enter Tryz.func37, Tryz.ntmps37
 go_wp2_with fail
 refine (nanv_of w).mono ?_
 rintro e w ⟨rfl, rfl⟩
 go_wp2
 go_loopw [3, 4, 10] (fun b g i wr => ∃ (j : Nat) (B : Int) (G : Nat), j ≤ n ∧ i = .int .i64 j ∧ b = .int .i64 B ∧ g = .float .f64 G ∧ BSt zs j B G ∧ wr = w)
  (fun _ _ i _ => n - (intOf i).toNat)
 case atStart => exact ⟨0, -1, 9221120237041090561, by omega, rfl, rfl, rfl, ⟨.inl ⟨rfl, fun i hi => by omega⟩, .inl ⟨rfl, by decide⟩⟩, rfl⟩
 case round =>
  obtain ⟨j, B, G, hj, rfl, rfl, rfl, st, rfl⟩ := hrel
  have HS : Hid (BSt zs j B G ∧ j ≤ n) := ⟨st, hj⟩
  clear st hj
  by_cases hlt : j < n
  ·have hlt' : (j : Int) < n := by omega
   obtain ⟨b, off, rfl, hc⟩ := H.out.2.2.2.resolve_left (by omega)
   have cz := hc j hlt
   clear hc
   obtain ⟨z, hz⟩ : ∃ z, z = zs.getD j 0 := ⟨_, rfl⟩
   rw [← hz] at cz
   have HZ : Hid (z = zs.getD j 0 ∧ j < n) := ⟨hz, hlt⟩
   clear hz hlt
   go_wp2_with fail
   refine (order_of z G wr).mono ?_
   rintro e wr ⟨rfl, rfl⟩
   by_cases hp : 0 < ordI z G
   ·go_wp2
    go_roundw
    case rel => exact ⟨j + 1, j, z, by have := HZ.out.2; omega, by go_num, rfl, rfl, by rw [HZ.out.1]; exact HS.out.1.up (by rw [← HZ.out.1]; exact hp), trivial⟩
    case measure => have := HZ.out.2; simp [intOf]; omega
   ·have hp' : ordI z G ≤ 0 := by omega
    have HP : Hid (¬ 0 < ordI z G) := hp
    clear hp
    go_wp2
    go_roundw
    case rel => exact ⟨j + 1, B, G, by have := HZ.out.2; omega, by go_num, rfl, rfl, HS.out.1.stay (by rw [← HZ.out.1]; omega), trivial⟩
    case measure => have := HZ.out.2; simp [intOf]; omega
  ·have hge : (n : Int) ≤ j := by omega
   have HE : Hid (j = n) := by have := HS.out.2; show j = n; omega
   clear hlt
   go_wp2
   go_ret
   exact ⟨B, rfl, by rw [← HE.out]; exact HS.out.1.1, rfl⟩

end Go.Proofs.YtncnkpnfmbgifaaGreat

/- The chapter's examples hold. -/
namespace Go.Proofs.YtncnkpnfmbgifaaGreat
open Go.RowKit Ieee
set_option linter.unusedVariables false
set_option maxRecDepth 4000

end Go.Proofs.YtncnkpnfmbgifaaGreat

/- What grows with what: a part of a whole, a zone's worth. -/
namespace Go.Proofs.YtncnkpnfmbgifaaGreat
open Go.RowKit Ieee
set_option linter.unusedVariables false
set_option maxRecDepth 4000

abbrev one : Nat := 4607182418800017408
abbrev two : Nat := 4611686018427387904
abbrev r64 : Nat := 4895412794951729152
theorem val_one : val one = 2 ^ EE := by rw [ee]; decide +kernel
theorem val_two : val two = 2 * 2 ^ EE := by rw [ee]; decide +kernel
theorem val_r64 : val r64 = 18446744073709551616 * 2 ^ EE := by rw [ee]; decide +kernel
theorem pE : 0 < 2 ^ EE := Nat.two_pow_pos _

theorem rung_pos (r : Nat) (h : r ≤ IR) : rung r = r := Nat.mod_eq_of_lt (Nat.lt_of_le_of_lt h ir_lt)
theorem sgn_pos (r : Nat) (h : r ≤ IR) : sgn r = false := by unfold sgn; rw [Nat.div_eq_of_lt (Nat.lt_of_le_of_lt h ir_lt)]; rfl
theorem word_pos (r : Nat) : double.word false r = r := rfl
theorem bop_some (o : BinOp) (x y : Nat) : bop o (some x) (some y) = op4 o x y := rfl
theorem ff : (false ^^ false) = false := rfl
theorem op4_quo (x y : Nat) : op4 .quo x y = double.div x y := rfl
theorem op4_mul (x y : Nat) : op4 .mul x y = double.mul x y := rfl
theorem op4_add (x y : Nat) : op4 .add x y = double.add x y := rfl
theorem op4_sub (x y : Nat) : op4 .sub x y = double.sub x y := rfl
theorem key_pos (r : Nat) (h : r ≤ IR) : key r = val r := key_word_pos r (Nat.lt_of_le_of_lt h ir_lt)

theorem cv_mono {n m : Nat} (h : n ≤ m) : cv n ≤ cv m := by
  unfold cv
  have := RQ_mono1 1 (by decide) (Nat.mul_le_mul_right (2 ^ EE) h)
  omega
theorem cv_fin (n : Nat) (h : n < 18446744073709551616) : cv n < IR := by
  have : RQ (n * 2 ^ EE) 1 ≤ r64 := RQ_le (by decide) (by rw [val_r64, Nat.mul_one]; exact Nat.mul_le_mul_right _ (by omega))
  unfold cv
  have : r64 < IR := by decide
  omega
theorem cv_big (n : Nat) (h : 0 < n) : one ≤ cv n := by
  have : one ≤ RQ (n * 2 ^ EE) 1 := le_RQ (by decide) (by rw [val_one, Nat.mul_one]; exact Nat.le_mul_of_pos_left _ h)
  unfold cv
  have : one ≤ IR := by decide
  omega
def uR (a b : Nat) : Nat := min (RQ (val (cv a) * 2 ^ EE) (val (cv b))) IR
def pR (u : Nat) : Nat := min (RQ (val one - val u) 1) IR
def dR (u : Nat) : Nat := min (RQ (val one + val u) 1) IR
def gR (p c : Nat) : Nat := min (RQ (val p * val (cv c)) (2 ^ EE)) IR
def qR (g d : Nat) : Nat := min (RQ (val g * 2 ^ EE) (val d)) IR

theorem div_pos (x y : Nat) (hx : x < IR) (hy : y < IR) (h0 : y ≠ 0) : op4 .quo x y = some (qR x y) := by
  rw [op4_quo]
  unfold qR
  have ex := rung_pos x (Nat.le_of_lt hx)
  have ey := rung_pos y (Nat.le_of_lt hy)
  have := div_fin x y (by rw [ex]; exact hx) (by rw [ey]; exact hy) (by rw [ey]; exact h0)
  rw [ex, ey, sgn_pos x (Nat.le_of_lt hx), sgn_pos y (Nat.le_of_lt hy), ff, word_pos] at this
  exact this
theorem mul_pos' (x y : Nat) (hx : x < IR) (hy : y < IR) : op4 .mul x y = some (min (RQ (val x * val y) (2 ^ EE)) IR) := by
  rw [op4_mul]
  have ex := rung_pos x (Nat.le_of_lt hx)
  have ey := rung_pos y (Nat.le_of_lt hy)
  have := mul_fin x y (by rw [ex]; exact hx) (by rw [ey]; exact hy)
  rw [ex, ey, sgn_pos x (Nat.le_of_lt hx), sgn_pos y (Nat.le_of_lt hy), ff, word_pos] at this
  exact this
theorem mul_cv (p c : Nat) (hp : p < IR) (hc : cv c < IR) : op4 .mul p (cv c) = some (gR p c) := by
  unfold gR
  exact mul_pos' p (cv c) hp hc
theorem one_lt : one < IR := by decide
theorem add_one' (u : Nat) (hu : u < IR) : op4 .add one u = some (dR u) := by
  rw [op4_add]
  unfold dR
  have e1 := rung_pos one (by decide)
  have eu := rung_pos u (Nat.le_of_lt hu)
  have := add_fin one u (by rw [e1]; exact one_lt) (by rw [eu]; exact hu)
  rw [key_pos one (by decide), key_pos u (Nat.le_of_lt hu), sgn_pos one (by decide)] at this
  have hp : 0 < val one := by rw [val_one]; exact pE
  rw [if_neg (by omega), decide_eq_false (by omega)] at this
  have ab : ((val one : Int) + (val u : Int)).natAbs = val one + val u := by omega
  rw [ab, word_pos] at this
  exact this
theorem sub_one' (u : Nat) (hu : u ≤ one) : op4 .sub one u = some (pR u) := by
  rw [op4_sub]
  unfold pR
  have hi : u < IR := Nat.lt_of_le_of_lt hu one_lt
  have e1 := rung_pos one (by decide)
  have eu := rung_pos u (Nat.le_of_lt hi)
  have := sub_fin one u (by rw [e1]; exact one_lt) (by rw [eu]; exact hi)
  rw [key_pos one (by decide), key_pos u (Nat.le_of_lt hi), sgn_pos one (by decide)] at this
  have hv := (val_mono_iff u one).2 hu
  have sg0 : (if (val one : Int) - (val u : Int) = 0 then false && !sgn u else decide ((val one : Int) - (val u : Int) < 0)) = false := by
    split
    · rfl
    · exact decide_eq_false (by omega)
  rw [sg0] at this
  have ab : ((val one : Int) - (val u : Int)).natAbs = val one - val u := by omega
  rw [ab, word_pos] at this
  exact this

theorem rat_some (a b : Nat) (ha : a < 18446744073709551616) (hb : b < 18446744073709551616) (h0 : 0 < b) : ratC a b = some (uR a b) := by
  have := cv_big b h0
  exact div_pos _ _ (cv_fin a ha) (cv_fin b hb) (by have : 0 < one := by decide
                                                    omega)
theorem uR_one {a b : Nat} (h : a ≤ b) : uR a b ≤ one := by
  by_cases h0 : 0 < val (cv b)
  · have : RQ (val (cv a) * 2 ^ EE) (val (cv b)) ≤ one := RQ_le h0 (by
      rw [val_one, Nat.mul_comm]
      exact Nat.mul_le_mul_left _ ((val_mono_iff _ _).2 (cv_mono h)))
    unfold uR
    omega
  · have zb : val (cv b) = 0 := by omega
    have za : val (cv a) = 0 := by
      have := (val_mono_iff _ _).2 (cv_mono h)
      omega
    unfold uR
    rw [za, Nat.zero_mul, RQ_zero]
    exact Nat.le_trans (Nat.min_le_left _ _) (Nat.zero_le _)
theorem pR_one (u : Nat) : pR u ≤ one := by
  have : RQ (val one - val u) 1 ≤ one := RQ_le (by decide) (by omega)
  unfold pR
  omega
theorem dR_two {u : Nat} (h : u ≤ one) : one ≤ dR u ∧ dR u ≤ two := by
  have hv := (val_mono_iff _ _).2 h
  have a : one ≤ RQ (val one + val u) 1 := le_RQ (by decide) (by omega)
  have b : RQ (val one + val u) 1 ≤ two := RQ_le (by decide) (by rw [val_two]; rw [val_one] at hv ⊢; omega)
  unfold dR
  have : one ≤ IR := by decide
  omega
theorem gR_le {p : Nat} (c : Nat) (h : p ≤ one) : gR p c ≤ cv c := by
  have : RQ (val p * val (cv c)) (2 ^ EE) ≤ cv c := RQ_le pE (by
    rw [Nat.mul_comm]
    refine Nat.mul_le_mul_left _ ?_
    rw [← val_one]
    exact (val_mono_iff _ _).2 h)
  unfold gR
  omega
def wR (a b c : Nat) : Nat := qR (gR (pR (uR a b)) c) (dR (uR a b))
theorem wor_some (a b c : Nat) (hb : b < 18446744073709551616) (hc : c < 18446744073709551616) (h0 : 0 < b) (h : a ≤ b) : worC a b c = some (wR a b c) := by
  have u1 := uR_one h
  have hr := rat_some a b (by omega) hb h0
  have d1 := dR_two u1
  have p1 := pR_one (uR a b)
  have g1 := gR_le c p1
  have cf := cv_fin c hc
  have ol := one_lt
  have tl : two < IR := by decide
  have oz : 0 < one := by decide
  have e1 := sub_one' _ u1
  have e2 := add_one' _ (show uR a b < IR by omega)
  have e3 := mul_cv (pR (uR a b)) c (by omega) cf
  have e4 := div_pos (gR (pR (uR a b)) c) (dR (uR a b)) (by omega) (by omega) (by omega)
  unfold worC
  rw [hr]
  have b1 : bop .sub (some 4607182418800017408) (some (uR a b)) = some (pR (uR a b)) := by rw [bop_some]; exact e1
  have b2 : bop .add (some 4607182418800017408) (some (uR a b)) = some (dR (uR a b)) := by rw [bop_some]; exact e2
  have b3 : bop .mul (some (pR (uR a b))) (some (cv c)) = some (gR (pR (uR a b)) c) := by rw [bop_some]; exact e3
  have b4 : bop .quo (some (gR (pR (uR a b)) c)) (some (dR (uR a b))) = some (wR a b c) := by rw [bop_some]; unfold wR; exact e4
  rw [b1, b2, b3, b4]
end Go.Proofs.YtncnkpnfmbgifaaGreat
