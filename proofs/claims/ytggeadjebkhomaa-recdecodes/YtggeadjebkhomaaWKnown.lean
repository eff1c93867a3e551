/- What one call of SameBytes and LentBytes does. -/
import Derived.Test.YtggeadjebkhomaaWTake
import Derived.Test.YtggeadjebkhomaaWPack
import Derived.BigQuiet
namespace Go.Proofs.Ytggeadjebkhomaa
open Go.RowKit
set_option linter.unusedVariables false
set_option maxRecDepth 4000

theorem sameBytes_of (a : Option Addr) (n c : Nat) (xs : List Int) (b : Option Addr) (m d : Nat) (ys : List Int) (w : World) (hx : BIn w a n xs) (hy : BIn w b m ys) (h : xs = ys) :
    Calls Try.prog 12 #[.slice a n c, .slice b m d] w fun e w' => e = .returned (.bool true) ∧ w' = w := by
  subst h
  have h1 := str_of w a n c xs hx
  have h2 := str_of w b m d xs hy
  go_enter Try.func12, Try.ntmps12
  go_wp2
  go_ret
  exact ⟨rfl, rfl⟩

set_option maxHeartbeats 1000000 in
theorem lentBytes_of (a : Option Addr) (n c : Nat) (xs : List Int) (w : World) (hx : BIn w a n xs) (hnil : a = none → n = 0 ∧ c = 0) (hn : n ≤ 1000000) :
    Calls Try.prog 15 #[.slice a n c] w fun e w' => ∃ A C, e = .returned (.slice A n C) ∧ w'.ownsRow w.heap.size 5 1 (.slice A n C) n (u8s xs) ∧ Below w.heap.size w w' := by
  have H : Hid (BIn w a n xs ∧ (a = none → n = 0 ∧ c = 0)) := ⟨hx, hnil⟩
  clear hx hnil
  go_enter Try.func15, Try.ntmps15
  go_wp2_with (at_builtin; refine wpList_append_bin rfl (.tmp 4) (.tmp 5) rfl w.heap.size none 0 0 [] rfl (World.ownsRow_nil _ _ _ _) a n c xs rfl H.out.1 H.out.2 (by omega) (Nat.le_refl _) ?_; intro A C w1 ow1 bl1)
  go_ret
  exact ⟨A, C, by simp, by simpa using ow1, bl1⟩

theorem all_wf {k : IntKind} {L : List Int} (h : (L.all fun z => (Lit.int k z).wf) = true) : ∀ z ∈ L, (Lit.int k z).wf = true := List.all_eq_true.1 h
theorem below_drewN {B : Nat} {a w : World} (h : Below B a w) (n : Nat) : Below B a (w.drewN n) := ⟨h.os, h.tape, h.output, h.size, h.block⟩
end Go.Proofs.Ytggeadjebkhomaa
