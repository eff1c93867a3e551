/- A second crash; a device beside another. -/
import Derived.Test.YtpmdjonclgjpfaaZOpen
namespace Go.Proofs.Ytpmdjonclgjpfaa
open Go.RowKit Go.Shelf
set_option linter.unusedVariables false
set_option maxRecDepth 4000

theorem cr1_twice (k k' : Int × Int) (z : Zn) : cr1 k (cr1 k' z) = cr1 k' z := by
  have h : ∀ B : List (List Int), crashB B B.length k.1 k.2 = B := by
    intro B
    unfold crashB keptB
    simp
  unfold cr1
  simp only [Int.toNat_natCast, h]
theorem crash_twice (a b : List (Int × Int)) (zs : List Zn) : crashZ b (crashZ a zs) = crashZ a zs := by
  unfold crashZ
  apply List.ext_getElem?
  intro i
  simp only [List.getElem?_mapIdx, Option.map_map]
  congr 1
  funext z
  exact cr1_twice _ _ _
end Go.Proofs.Ytpmdjonclgjpfaa
