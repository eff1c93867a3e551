/- What a float's operation does in a run, whatever its operands; the small functions. -/
import Derived.Test.YtilhhgkplonipaaChecked
import Derived.Test.YtilhhgkplonipaaFOps
import Derived.WalkKit
import Derived.WalkSmall
import Derived.Below
import Derived.Laws.Externs
namespace Go.Proofs.Ytilhhgkplonipaa
open Go.RowKit
set_option linter.unusedVariables false
set_option maxRecDepth 4000

/-- The bits that an operation gives, and the world behind it (a NaN's bits are drawn). -/
def fres (o : BinOp) (x y : Nat) (w : World) : Nat := match op4 o x y with
  | some r => r
  | none => (Question.nanBits .f64 x y).cut (w.tape w.drawn (.nanBits .f64 x y))
def fwld (o : BinOp) (x y : Nat) (w : World) : World := match op4 o x y with
  | some _ => w
  | none => w.drew

theorem run_float {P : Program} (o : BinOp) (ho : o = .add ∨ o = .sub ∨ o = .mul ∨ o = .quo) (t : TypeId) (x y : Nat) (w : World) :
    (binOp o t (.float .f64 x) (.float .f64 y)).run P w = .ok (.float .f64 (fres o x y w)) (fwld o x y w) := by
  unfold fres fwld
  cases h : op4 o x y with
  | some r => exact run_float_arith w o t .f64 x y r h
  | none =>
    unfold op4 floatBits at h
    rcases ho with rfl | rfl | rfl | rfl <;> simp only at h <;> simp [binOp, Op.floatArith, h, Question.forced]

theorem nan_cut (x y t : Nat) : Nan ((Question.nanBits .f64 x y).cut t) ∧ (Question.nanBits .f64 x y).cut t < 2 ^ 64 := by
  simp only [Question.cut, Nan, rung, IR]
  have a : t % 2 < 2 := Nat.mod_lt _ (by decide)
  have b : t / 2 % (2 ^ 52 - 1) < 2 ^ 52 - 1 := Nat.mod_lt _ (by decide)
  generalize t % 2 = p at *
  generalize t / 2 % (2 ^ 52 - 1) = q at *
  have : p = 0 ∨ p = 1 := by omega
  rcases this with rfl | rfl <;> constructor <;> omega

theorem fres_cls (o : BinOp) (x y : Nat) (w : World) : Cls (op4 o x y) (fres o x y w) := by
  unfold fres Cls
  cases h : op4 o x y with
  | some r => exact ⟨(op4_num h).2, rfl, (op4_num h).1⟩
  | none => exact ⟨(nan_cut x y _).2, (nan_cut x y _).1⟩

/-- Nothing has happened but draws. -/
def Drawn (w w' : World) : Prop := ∃ n, w' = w.drewN n
theorem Drawn.refl (w : World) : Drawn w w := ⟨0, rfl⟩
theorem Drawn.trans {a b c : World} (h : Drawn a b) (g : Drawn b c) : Drawn a c := by
  obtain ⟨n, rfl⟩ := h
  obtain ⟨m, rfl⟩ := g
  exact ⟨n + m, by simp [World.drewN, Nat.add_assoc]⟩
theorem fwld_drawn (o : BinOp) (x y : Nat) (w : World) : Drawn w (fwld o x y w) := by
  unfold fwld
  cases op4 o x y with
  | some r => exact .refl w
  | none => exact ⟨1, rfl⟩
theorem Drawn.below {w w' : World} {B : Nat} {a : World} (h : Drawn w w') (b : Below B a w) : Below B a w' := by
  obtain ⟨n, rfl⟩ := h
  exact below_drewN b n

theorem cls_none {x : Nat} (h : Cls none x) : Nan x := h.2
theorem cls_some {r x : Nat} (h : Cls (some r) x) : x = r := h.2.1

/-- Whole numbers by one another. -/
def ratC (a b : Nat) : Option Nat := op4 .quo (cv a) (cv b)
theorem ratio_of (a b : Nat) (w : World) : Calls Try.prog 15 #[.int .u64 a, .int .u64 b] w fun e w' => ∃ x, e = .returned (.float .f64 x) ∧ Cls (ratC a b) x ∧ Drawn w w' := by
  have fq := fun (x y : Nat) (W : World) => run_float (P := Try.prog) .quo (by simp) 22 x y W
  have ca := ofInt_cv a
  have cb := ofInt_cv b
  go_enter Try.func15, Try.ntmps15
  go_wp2
  go_ret
  exact ⟨_, rfl, fres_cls _ _ _ _, fwld_drawn _ _ _ _⟩

end Go.Proofs.Ytilhhgkplonipaa
