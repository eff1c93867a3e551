/- The sort by a heap. -/
import Derived.Test.YtkhldjpghjmgfaaSoSift
namespace Go.Proofs.Ytkhldjpghjmgfaa
open Go.RowKit Go.Sort
set_option linter.unusedVariables false

set_option maxRecDepth 100000 in
set_option maxHeartbeats 2000000 in
theorem heap_of (W : World) (B g n cap a b : Nat) (d : Array Int) (w : World) (h : SR W w B g n cap d) (hab : a < b) (hb : b ≤ n) (hn : n ≤ 1000) :
    Calls Try.prog 45 #[.slice (some ⟨g, 0, none⟩) n cap, .int .i64 a, .int .i64 b] w fun e w' => e = .returned (.tuple #[]) ∧ SR W w' B g n cap (heapSort ltInt d a b) := by
  have H : Hid (SR W w B g n cap d) := h
  obtain ⟨hi, hhi⟩ : ∃ hi, hi = b - a := ⟨_, rfl⟩
  have k1 : IntKind.i64.wrap ((b : Int) - a) = hi := by rw [IntKind.wrap_i64]; omega
  obtain ⟨D1, hD1⟩ : ∃ D1, D1 = heapBuild ltInt hi a ((hi - 1) / 2 + 1) d := ⟨_, rfl⟩
  have HD : Hid (D1 = heapBuild ltInt hi a ((hi - 1) / 2 + 1) d ∧ heapPop ltInt a hi D1 = heapSort ltInt d a b) := ⟨hD1, by rw [hD1, hhi]; rfl⟩
  have hp : 1 ≤ hi := by omega
  have hbn : a + hi ≤ n := by omega
  clear h hD1
  have k2 : IntKind.i64.wrap ((hi : Int) - 1) = ((hi - 1 : Nat) : Int) := by rw [IntKind.wrap_i64]; omega
  obtain ⟨h1, hh1⟩ : ∃ h1, h1 = hi - 1 := ⟨_, rfl⟩
  rw [← hh1] at k2
  obtain ⟨h2, hh2⟩ : ∃ h2, h2 = h1 / 2 := ⟨_, rfl⟩
  have k3 : (h1 : Int) ≤ 1000 := by omega
  have k4 : (0 : Int) ≤ h1 := by omega
  have HH : Hid (h1 = hi - 1 ∧ h2 = h1 / 2) := ⟨hh1, hh2⟩
  have hh3 : h2 ≤ hi := by omega
  clear hh1 hhi hh2
  go_enter Try.func45, Try.ntmps45
  go_wp2
  go_loopw [9] (fun vi wr => ∃ (k : Nat) (dk : Array Int), vi = .int .i64 ((k : Int) - 1) ∧ k ≤ h2 + 1 ∧ heapBuild ltInt hi a k dk = D1 ∧ SR W wr B g n cap dk) (fun vi _ => (intOf vi + 1).toNat)
  case atStart => exact ⟨h2 + 1, d, by (have := HH.out; congr 1; omega), Nat.le_refl _, by rw [HD.out.1, HH.out.2, HH.out.1], H.out⟩
  case round =>
    obtain ⟨k, dk, rfl, hk, hB, hS⟩ := hrel
    cases k with
    | succ m =>
      have em : ((m + 1 : Nat) : Int) - 1 = m := by omega
      rw [em]
      have b0 : (0 : Int) ≤ m := by omega
      have kk : IntKind.i64.wrap ((m : Int) - 1) = (m : Int) - 1 := by rw [IntKind.wrap_i64]; omega
      have hmh : m ≤ hi := by have := HH.out; omega
      have cS := sift_of W B g n cap m hi a dk wr hS hbn hmh hn
      have HN : Hid (heapBuild ltInt hi a m (siftDown ltInt hi a m dk) = D1) := hB
      clear hB hS em
      go_wp2_with (go_at_call 55; refine cS.mono ?_; rintro e w1 ⟨rfl, h1'⟩)
      go_roundw
      case rel => exact ⟨m, _, rfl, by omega, HN.out, h1'⟩
      case measure => (simp [intOf]; try omega)
    | zero =>
      have em : ((0 : Nat) : Int) - 1 = -1 := by decide
      rw [em]
      clear em
      have HN : Hid (SR W wr B g n cap D1) := by have e : dk = D1 := hB; rw [← e]; exact hS
      clear hB hS hk
      obtain ⟨V0, rfl⟩ : ∃ V0, V0 = wr := ⟨_, rfl⟩
      go_wp2
      go_loopw [10] (fun vi wr => ∃ (k : Nat) (dk : Array Int), vi = .int .i64 ((k : Int) - 1) ∧ k ≤ hi ∧ heapPop ltInt a k dk = heapSort ltInt d a b ∧ SR W wr B g n cap dk) (fun vi _ => (intOf vi + 1).toNat)
      case atStart => exact ⟨hi, D1, by have := HH.out; congr 1; omega, Nat.le_refl _, HD.out.2, HN.out⟩
      case round =>
        obtain ⟨k, dk, rfl, hk, hB, hS⟩ := hrel
        cases k with
        | succ m =>
          have em : ((m + 1 : Nat) : Int) - 1 = m := by omega
          rw [em]
          have b0 : (0 : Int) ≤ m := by omega
          have kk : IntKind.i64.wrap ((m : Int) - 1) = (m : Int) - 1 := by rw [IntKind.wrap_i64]; omega
          obtain ⟨p, hp'⟩ : ∃ p, p = a + m := ⟨_, rfl⟩
          have k5 : IntKind.i64.wrap ((a : Int) + m) = p := by rw [IntKind.wrap_i64]; omega
          have b0p : (0 : Int) ≤ p := by omega
          have b1p : (p : Int) < n := by omega
          have b0a : (0 : Int) ≤ a := by omega
          have b1a : (a : Int) < n := by omega
          obtain ⟨x, hx⟩ : ∃ x, dk[a]! = x := ⟨_, rfl⟩
          obtain ⟨y, hy⟩ : ∃ y, dk[p]! = y := ⟨_, rfl⟩
          obtain ⟨⟨q0, q1, q2, q3⟩, q4, q5, q6⟩ := hS.swf (i := a) (j := p) (by omega) (by omega) hx hy
          have cS : Calls Try.prog 55 #[.slice (some ⟨g, 0, none⟩) n cap, .int .i64 0, .int .i64 m, .int .i64 a] ((wr.setCell ⟨g, a, none⟩ (.int .u32 y)).setCell ⟨g, p, none⟩ (.int .u32 x)).drew _ := sift_of W B g n cap 0 m a (swp dk a p) _ q6.drew (by omega) (by omega) hn
          have HN : Hid (heapPop ltInt a m (siftDown ltInt m a 0 (swp dk a p)) = heapSort ltInt d a b) := by rw [hp']; exact hB
          clear hB hS em q6 hp' hx hy
          go_wp2_with fail
          go_region
          all_goals go_wp2_with (go_at_call 55; refine cS.mono ?_; clear cS; rintro e w1 ⟨rfl, h1'⟩; clear q0 q1 q2 q3 q4 q5)
          all_goals go_wp2
          all_goals (
            go_roundw
            case rel => exact ⟨m, _, rfl, by omega, HN.out, h1'⟩
            case measure => (simp [intOf]; try omega))
        | zero =>
          have HN : Hid (SR W wr B g n cap (heapSort ltInt d a b)) := by have e : dk = heapSort ltInt d a b := hB; rw [← e]; exact hS
          clear hB hS
          go_wp2
          first | go_end0 | refine bodyPost_ret (results_none rfl _ _ _) rfl ?_
          exact ⟨rfl, HN.out⟩
end Go.Proofs.Ytkhldjpghjmgfaa
