/- What one call of SameBytes and LentBytes does. -/
import Derived.Test.YtlfmdplaoalahaaWTake
import Derived.Test.YtlfmdplaoalahaaWPack
import Derived.BigQuiet
namespace Go.Proofs.Ytlfmdplaoalahaa
open Go.RowKit
set_option linter.unusedVariables false
set_option maxRecDepth 4000

theorem sameBytes_of (a : Option Addr) (n c : Nat) (xs : List Int) (b : Option Addr) (m d : Nat) (ys : List Int) (w : World) (hx : BIn w a n xs) (hy : BIn w b m ys) (h : xs = ys) :
    Calls Try.prog 14 #[.slice a n c, .slice b m d] w fun e w' => e = .returned (.bool true) ∧ w' = w := by
  subst h
  have h1 := str_of w a n c xs hx
  have h2 := str_of w b m d xs hy
  go_enter Try.func14, Try.ntmps14
  go_wp2
  go_ret
  exact ⟨rfl, rfl⟩

set_option maxHeartbeats 1000000 in
theorem lentBytes_of (a : Option Addr) (n c : Nat) (xs : List Int) (w : World) (hx : BIn w a n xs) (hnil : a = none → n = 0 ∧ c = 0) (hn : n ≤ 1000000) :
    Calls Try.prog 9 #[.slice a n c] w fun e w' => ∃ A C, e = .returned (.slice A n C) ∧ w'.ownsRow w.heap.size 5 1 (.slice A n C) n (u8s xs) ∧ Below w.heap.size w w' := by
  have H : Hid (BIn w a n xs ∧ (a = none → n = 0 ∧ c = 0)) := ⟨hx, hnil⟩
  clear hx hnil
  go_enter Try.func9, Try.ntmps9
  go_wp2_with (at_builtin; refine wpList_append_bin rfl (.tmp 4) (.tmp 5) rfl w.heap.size none 0 0 [] rfl (World.ownsRow_nil _ _ _ _) a n c xs rfl H.out.1 H.out.2 (by omega) (Nat.le_refl _) ?_; intro A C w1 ow1 bl1)
  go_ret
  exact ⟨A, C, by simp, by simpa using ow1, bl1⟩

set_option maxHeartbeats 1000000 in
theorem sameNumbers_of (a : Option Addr) (n c : Nat) (xs : List Int) (b : Option Addr) (m d : Nat) (ys : List Int) (w : World) (hx : NIn .u64 w a n xs) (hy : NIn .u64 w b m ys) (h : xs = ys) (hn : n ≤ 1000000) :
    Calls Try.prog 21 #[.slice a n c, .slice b m d] w fun e w' => e = .returned (.bool true) ∧ ∃ k, w' = w.drewN k := by
  subst h
  have hnm : n = m := by rw [← hx.1, ← hy.1]
  subst hnm
  have H : Hid (NIn .u64 w a n xs ∧ NIn .u64 w b n xs) := ⟨hx, hy⟩
  clear hx hy
  go_enter Try.func21, Try.ntmps21
  go_wp2
  go_loopw [5] (fun i wr => ∃ (k d : Nat), k ≤ n ∧ i = .int .i64 k ∧ wr = w.drewN d)
    (fun i _ => n - (intOf i).toNat)
  case atStart => exact ⟨0, 0, by omega, rfl, rfl⟩
  case round =>
    obtain ⟨k, d, hk, rfl, rfl⟩ := hrel
    by_cases hlt : k < n
    · have hlt' : (k : Int) < n := by omega
      obtain ⟨b1, o1, rfl, hc1⟩ := H.out.1.2.2.2.resolve_left (by omega)
      obtain ⟨b2, o2, rfl, hc2⟩ := H.out.2.2.2.2.resolve_left (by omega)
      have c1 := hc1 k hlt
      have c2 := hc2 k hlt
      obtain ⟨x, ex⟩ : ∃ x, x = xs.getD k 0 := ⟨_, rfl⟩
      rw [← ex] at c1 c2
      clear hc1 hc2 ex
      go_wp2
      go_quiet (fail)
      go_wp2
      go_roundw
      case rel => exact ⟨k + 1, _, by omega, by go_num, rfl⟩
      case measure => simp [intOf]; omega
    · have hge : (n : Int) ≤ k := by omega
      go_wp2
      go_ret
      exact ⟨rfl, d, rfl⟩

theorem all_wf {k : IntKind} {L : List Int} (h : (L.all fun z => (Lit.int k z).wf) = true) : ∀ z ∈ L, (Lit.int k z).wf = true := List.all_eq_true.1 h
theorem below_drewN {B : Nat} {a w : World} (h : Below B a w) (n : Nat) : Below B a (w.drewN n) := ⟨h.os, h.tape, h.output, h.size, h.block⟩
end Go.Proofs.Ytlfmdplaoalahaa
