/- An export that comes in, in the walks' words. -/
import Derived.Test.YtkegpgmmlmineaaRows
import Derived.Test.YtkegpgmmlmineaaGRefOld
import Derived.Lib.SmallJoins
import Derived.ProofKit
import Derived.OpenShut
namespace Go.Proofs.Ytkegpgmmlmineaa
open Go.RowKit Go.ChangeShapes Go.WideShapes
set_option linter.unusedVariables false
set_option maxRecDepth 4000

section
variable {H : Type} {enc : TypeId × Value → H} {W : World}
theorem open_export {r : Reach} {b0 : Nat} {v : Value} {d : DataW H} {p : List MemPlace} (hv : Value.okWide Try.prog W r b0 47 v) (h : DataW.Trod enc Try.prog W 0 (fun _ => true) true 47 v d p) :
    ∃ (T S : Int) (ro : Bool), v = .agg #[.int .u32 T, .int .u64 S, .bool ro] ∧ FitsU S := by
  obtain ⟨v0, v1, v2, y0, y1, y2, n, rfl, _, _, h0, h1, h2⟩ := Joins.open_agg3 Try.underlying47 (by kernel_rfl) (by kernel_rfl) hv h
  obtain ⟨a, ha, _, _⟩ := DataW.trod_int Try.underlying30 h0
  obtain ⟨b, hb, _, hw⟩ := DataW.trod_int Try.underlying45 h1
  obtain ⟨c, hc, _⟩ := DataW.trod_bool Try.underlying4 h2
  simp only [List.cons.injEq, and_true] at ha hb hc
  subst ha hb hc
  exact ⟨a, b, c, rfl, fitsU hw⟩
end
end Go.Proofs.Ytkegpgmmlmineaa
