/- For regions that draw their order and whose callees lay blocks; strings of other bytes are others. -/
import Derived.Test.YtakbnecmaccieaaDoorStr
import Derived.Test.YtakbnecmaccieaaDoorFar
import Derived.Lib.QuietBelow
import Derived.Lib.Bytes
namespace Go.Proofs.YtakbnecmaccieaaDoor
open Go.RowKit Go.Sort
set_option linter.unusedVariables false

theorem str_ne {xs ys : List Int} (hx : ∀ z ∈ xs, Fits8 z) (hy : ∀ z ∈ ys, Fits8 z) (h : xs ≠ ys) : strOfNums xs ≠ strOfNums ys := by
  intro e
  apply h
  have e1 : (xs.map fun n => UInt8.ofNat n.toNat) = ys.map fun n => UInt8.ofNat n.toNat := by rw [← strOfNums_data, ← strOfNums_data, e]
  have hl : xs.length = ys.length := by simpa using congrArg List.length e1
  apply List.ext_getElem hl
  intro i h1 h2
  have e2 : (xs.map fun n => UInt8.ofNat n.toNat)[i]'(by simpa using h1) = (ys.map fun n => UInt8.ofNat n.toNat)[i]'(by simpa using h2) := by simp only [e1]
  simp only [List.getElem_map] at e2
  have e3 := congrArg UInt8.toNat e2
  have f1 := hx _ (List.getElem_mem h1)
  have f2 := hy _ (List.getElem_mem h2)
  unfold Fits8 at f1 f2
  simp only [UInt8.toNat_ofNat'] at e3
  omega
theorem str_other {xs ys : List Int} (hx : ∀ z ∈ xs, Fits8 z) (hy : ∀ z ∈ ys, Fits8 z) (h : xs ≠ ys) : ((strOfNums xs).toList == (strOfNums ys).toList) = false := by
  rw [beq_eq_false_iff_ne]
  intro e
  rw [Lib.strOfNums_toList, Lib.strOfNums_toList] at e
  refine str_ne hx hy h ?_
  have e1 : (strOfNums xs).data.toList = (strOfNums ys).data.toList := e
  have e2 : (strOfNums xs).data = (strOfNums ys).data := Array.toList_inj.1 e1
  exact congrArg ByteArray.mk e2
theorem str_grown {w : World} {a : Option Addr} {n c : Nat} {zs : List Int} (h : BIn w a n zs) (d : Nat) (os : Array Obj) : (convert 22 9 (.slice a n c)).run Tryd.prog (grow (redrawn w d) os) = .ok (.string (strOfNums zs)) (grow (redrawn w d) os) :=
  str_of _ a n c zs (h.below (below_regrown w d os))
theorem known_grown {w : World} (h : GIn w) (d : Nat) (os : Array Obj) : Calls Tryd.prog 8 #[] (grow (redrawn w d) os) fun e w'' => e = .returned (.bool true) ∧ ∃ p : Regrown, w'' = grow (redrawn w p.d) p.os :=
  Calls.regrown_of (mknown_any _ (h.below (below_regrown w d os) h.lt))
theorem same_grown {w : World} (a : Option Addr) (n c : Nat) (xs : List Int) (b : Option Addr) (m d : Nat) (ys : List Int) (hx : BIn w a n xs) (hy : BIn w b m ys) (hn : n ≤ 1000000) (hm : m ≤ 1000000) (r : Bool) (hr : decide (xs = ys) = r) (d' : Nat) (os : Array Obj) :
    Calls Tryd.prog 12 #[.slice a n c, .slice b m d] (grow (redrawn w d') os) fun e w'' => e = .returned (.bool r) ∧ ∃ p : Regrown, w'' = grow (redrawn w p.d) p.os := by
  subst hr
  exact Calls.regrown_of ((same_of a n c xs b m d ys _ (hx.below (below_regrown w d' os)) (hy.below (below_regrown w d' os)) hn hm).mono fun e w' h => ⟨h.1, by rw [h.2]; exact Below.refl _ _⟩)
end Go.Proofs.YtakbnecmaccieaaDoor
