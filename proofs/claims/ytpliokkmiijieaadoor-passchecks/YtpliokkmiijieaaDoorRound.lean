/- What one call of round does: the eight numbers behind one round; nothing that was there is touched. -/
import Derived.Test.YtpliokkmiijieaaDoorRor
import Derived.Below
import Derived.WalkSmall
import Derived.BigQuiet
import Derived.Deep.QuietTactic
namespace Go.Proofs.YtpliokkmiijieaaDoor
open Go.RowKit
set_option linter.unusedVariables false

def u32s (S : List Int) : List Value := S.map (Value.int .u32)
def u8s (S : List Int) : List Value := S.map (Value.int .u8)
set_option maxHeartbeats 1000000 in
theorem round_any (a b c d e f g h k : Int) (w : World) (ha : Fits32 a) (he : Fits32 e) :
    Calls Tryd.prog 61 #[.agg #[.int .u32 a, .int .u32 b, .int .u32 c, .int .u32 d, .int .u32 e, .int .u32 f, .int .u32 g, .int .u32 h], .int .u32 k] w fun en w' =>
      en = .returned (.agg (u32s (roundI [a, b, c, d, e, f, g, h] k)).toArray) ∧ Below w.heap.size w w' := by
  have hsg : IntKind.u32.signed = false := rfl
  go_enter Tryd.func61, Tryd.ntmps61
  go_wp2
  go_quiet (fail)
  go_wp2_with (go_at_call 65; refine (ror_of _ _ _ (by decide) (by assumption)).mono ?_; rintro e w' ⟨rfl, rfl⟩)
  refine bodyPost_ret (v := .agg (u32s (roundI [a, b, c, d, e, f, g, h] k)).toArray) (by simp [results, Tryd.results61, go_sem]; rfl) rfl ⟨rfl, ?_⟩
  with_reducible repeat (first | (refine Below.setCell ?_ (by simp) _) | (refine Below.alloc ?_ (by simp) _) | (refine below_drewN ?_ _) | exact Below.refl _ _)
theorem round_of (S : List Int) (k : Int) (w : World) (hS : S.length = 8) (hf : ∀ z ∈ S, Fits32 z) :
    Calls Tryd.prog 61 #[.agg (u32s S).toArray, .int .u32 k] w fun en w' => en = .returned (.agg (u32s (roundI S k)).toArray) ∧ Below w.heap.size w w' := by
  obtain ⟨a, b, c, d, e, f, g, h, rfl⟩ := len8 hS
  exact round_any a b c d e f g h k w (hf a (by simp)) (hf e (by simp))
end Go.Proofs.YtpliokkmiijieaaDoor
