/- slices.Sort at 32-bit numbers, of a row of one's own and of nil. -/
import Derived.Test.YtkhldjpghjmgfaaSoPdq
namespace Go.Proofs.Ytkhldjpghjmgfaa
open Go.RowKit Go.Sort
set_option linter.unusedVariables false
set_option maxRecDepth 4000

theorem blen_0 (w : World) : Calls Try.prog 43 #[.int .u64 0] w fun e w' => e = .returned (.int .i64 0) ∧ w' = w := by
  have h := Any.bits_Len Try.blenL 0 w (by omega) (by omega)
  refine h.mono ?_
  rintro e w' ⟨rfl, rfl⟩
  exact ⟨rfl, rfl⟩
theorem ins_nil (w : World) : Calls Try.prog 44 #[.slice none 0 0, .int .i64 0, .int .i64 0] w fun e w' => e = .returned (.tuple #[]) ∧ w' = w := by
  go_enter Try.func44, Try.ntmps44
  go_wp2
  go_loopw [6] (fun vi wr => vi = .int .i64 1 ∧ wr = w) (fun _ _ => 0)
  case atStart => exact ⟨rfl, rfl⟩
  case round =>
    obtain ⟨rfl, rfl⟩ := hrel
    go_wp2
    first | go_end0 | refine bodyPost_ret (results_none rfl _ _ _) rfl ?_ | skip
    exact ⟨rfl, rfl⟩
theorem pdq_nil (w : World) : Calls Try.prog 42 #[.slice none 0 0, .int .i64 0, .int .i64 0, .int .i64 0] w fun e w' => e = .returned (.tuple #[]) ∧ w' = w := by
  go_enter Try.func42, Try.ntmps42
  go_wp2
  go_loopw [1, 2, 3, 8, 9] (fun va vb vl vwb vwp wr => va = .int .i64 0 ∧ vb = .int .i64 0 ∧ vl = .int .i64 0 ∧ vwb = .bool true ∧ vwp = .bool true ∧ wr = w) (fun _ _ _ _ _ _ => 0)
  case atStart => exact ⟨rfl, rfl, rfl, rfl, rfl, rfl⟩
  case round =>
    obtain ⟨rfl, rfl, rfl, rfl, rfl, rfl⟩ := hrel
    have cI := ins_nil wr
    go_wp2_with (go_at_call 44; refine cI.mono ?_; rintro e w1 ⟨rfl, rfl⟩)
    first | go_end0 | refine bodyPost_ret (results_none rfl _ _ _) rfl ?_
    exact ⟨rfl, rfl⟩
theorem sort_nil (w : World) : Calls Try.prog 39 #[.slice none 0 0] w fun e w' => e = .returned (.tuple #[]) ∧ w' = w := by
  have c1 := blen_0 w
  have c2 := pdq_nil w
  go_enter Try.func39, Try.ntmps39
  go_wp2_with first
    | (go_at_call 43; refine c1.mono ?_; rintro e w1 ⟨rfl, hw1⟩; replace hw1 := hw1.symm; subst hw1)
    | (go_at_call 42; refine c2.mono ?_; rintro e w1 ⟨rfl, hw1⟩; replace hw1 := hw1.symm; subst hw1)
  first | go_end0 | refine bodyPost_ret (results_none rfl _ _ _) rfl ?_
  exact ⟨rfl, rfl⟩
theorem sort_of (W : World) (B g n cap : Nat) (hn : n ≤ 1000) (h1 : 1 ≤ n) (d : Array Int) (w : World) (h : SR W w B g n cap d) :
    Calls Try.prog 39 #[.slice (some ⟨g, 0, none⟩) n cap] w fun e w' => e = .returned (.tuple #[]) ∧ ∃ d', PermIn 0 n d d' ∧ SortedIn ltInt 0 n d' ∧ SR W w' B g n cap d' := by
  have c1 := blen_of n hn h1 w
  have c2 : ∀ L : Nat, L ≤ 10 → _ := fun L (hL : L ≤ 10) => pdq_of W B g n cap hn n 0 n L d w (by omega) h (by omega) (Nat.le_refl _) (.inl rfl) (by omega)
  have b0 : (0 : Int) ≤ n := by omega
  have b1 : (n : Int) ≤ 1000 := by omega
  go_enter Try.func39, Try.ntmps39
  go_wp2_with first
    | (go_at_call 43; refine c1.mono ?_; rintro e w1 ⟨⟨L, rfl, hL1, hL2⟩, hw1⟩; replace hw1 := hw1.symm; subst hw1; replace c2 := c2 L hL2)
    | (go_at_call 42; refine c2.mono ?_; rintro e w1 ⟨rfl, hS⟩)
  first | go_end0 | refine bodyPost_ret (results_none rfl _ _ _) rfl ?_
  exact ⟨rfl, hS⟩
end Go.Proofs.Ytkhldjpghjmgfaa
