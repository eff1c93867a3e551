/- What one call of SameBytes and LentBytes does. -/
import Derived.Test.YtggeadjebkhomabWTake
import Derived.Test.YtggeadjebkhomabWPack
import Derived.BigQuiet
namespace Go.Proofs.Ytggeadjebkhomab
open Go.RowKit
set_option linter.unusedVariables false
set_option maxRecDepth 4000

theorem all_wf {k : IntKind} {L : List Int} (h : (L.all fun z => (Lit.int k z).wf) = true) : ∀ z ∈ L, (Lit.int k z).wf = true := List.all_eq_true.1 h
theorem below_drewN {B : Nat} {a w : World} (h : Below B a w) (n : Nat) : Below B a (w.drewN n) := ⟨h.os, h.tape, h.output, h.size, h.block⟩
end Go.Proofs.Ytggeadjebkhomab
