/- A range turned about. -/
import Derived.Test.YtkhldjpghjmgfaaSoB
namespace Go.Proofs.Ytkhldjpghjmgfaa
open Go.RowKit Go.Sort
set_option linter.unusedVariables false
set_option maxRecDepth 4000

set_option maxHeartbeats 1000000 in
theorem reverse_of (W : World) (B g n cap a b : Nat) (d : Array Int) (w : World) (h : SR W w B g n cap d) (hab : a < b) (hb : b ≤ n) (hn : n ≤ 1000) :
    Calls Try.prog 48 #[.slice (some ⟨g, 0, none⟩) n cap, .int .i64 a, .int .i64 b] w fun e w' => e = .returned (.tuple #[]) ∧ SR W w' B g n cap (reverseRange d a b) := by
  have H : Hid (SR W w B g n cap d) := h
  have hw : IntKind.i64.wrap ((b : Int) - 1) = ((b - 1 : Nat) : Int) := by rw [IntKind.wrap_i64]; omega
  clear h
  go_enter Try.func48, Try.ntmps48
  go_wp2
  clear hw
  go_loopw [6, 7] (fun vi vj wr => ∃ (i j : Nat) (dk : Array Int), vi = .int .i64 i ∧ vj = .int .i64 j ∧ a ≤ i ∧ j < b ∧ i ≤ b ∧ reverseLoop i j dk = reverseRange d a b ∧ SR W wr B g n cap dk) (fun vi vj _ => (intOf vj).toNat + b + 1 - (intOf vi).toNat)
  case atStart => exact ⟨a, b - 1, d, by first | rfl | go_num, by first | rfl | (go_num), by omega, by omega, by omega, rfl, H.out⟩
  case round =>
    obtain ⟨i, j, dk, rfl, rfl, hi, hj, hib, hR, hS⟩ := hrel
    by_cases hlt : i < j
    · have hlt' : (i : Int) < j := by omega
      have b0 : (0 : Int) ≤ i := by omega
      have b1 : (i : Int) < n := by omega
      have b2 : (0 : Int) ≤ j := by omega
      have b3 : (j : Int) < n := by omega
      obtain ⟨x, hx⟩ : ∃ x, dk[i]! = x := ⟨_, rfl⟩
      obtain ⟨y, hy⟩ : ∃ y, dk[j]! = y := ⟨_, rfl⟩
      obtain ⟨⟨q0, q1, q2, q3⟩, q4, q5, q6⟩ := hS.swf (i := i) (j := j) (by omega) (by omega) hx hy
      have HN : Hid (SR W ((wr.setCell ⟨g, i, none⟩ (.int .u32 y)).setCell ⟨g, j, none⟩ (.int .u32 x)).drew B g n cap (swp dk i j) ∧ reverseLoop (i + 1) (j - 1) (swp dk i j) = reverseRange d a b ∧ i < j ∧ j < b ∧ i ≤ b) := by
        refine ⟨q6.drew, ?_, hlt, hj, hib⟩
        rw [← hR]
        conv => rhs; rw [reverseLoop]
        rw [if_pos hlt]
      clear q6 hS hR hx hy
      go_wp2_with fail
      go_region
      all_goals go_wp2
      all_goals (
        go_roundw
        case rel => exact ⟨i + 1, j - 1, _, by go_num, by (have := HN.out.2.2.1; congr 1; omega), by omega, by have := HN.out; omega, by have := HN.out; omega, HN.out.2.1, HN.out.1⟩
        case measure => simp [intOf]; have := HN.out.2.2; omega)
    · have hlt' : ¬ ((i : Int) < j) := by omega
      have HN : Hid (SR W wr B g n cap (reverseRange d a b)) := by rw [← hR, reverseLoop, if_neg hlt]; exact hS
      clear hR hS
      go_wp2
      first | go_end0 | refine bodyPost_ret (results_none rfl _ _ _) rfl ?_
      exact ⟨rfl, HN.out⟩
end Go.Proofs.Ytkhldjpghjmgfaa
