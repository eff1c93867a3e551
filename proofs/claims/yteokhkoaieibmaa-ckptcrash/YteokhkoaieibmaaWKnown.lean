/- Numbers that fit. -/
import Derived.Test.YteokhkoaieibmaaWTake
import Derived.BigQuiet
namespace Go.Proofs.Yteokhkoaieibmaa
open Go.RowKit
set_option linter.unusedVariables false
set_option maxRecDepth 4000

theorem all_wf {k : IntKind} {L : List Int} (h : (L.all fun z => (Lit.int k z).wf) = true) : ∀ z ∈ L, (Lit.int k z).wf = true := List.all_eq_true.1 h
end Go.Proofs.Yteokhkoaieibmaa
