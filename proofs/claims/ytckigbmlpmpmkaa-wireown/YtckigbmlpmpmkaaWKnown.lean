/- What one call of known (of the statements' own), SameBytes, SameNumbers and LentBytes does. -/
import Derived.Test.YtckigbmlpmpmkaaWTake
import Derived.Test.YtckigbmlpmpmkaaWPack
import Derived.BigQuiet
namespace Go.Proofs.Ytckigbmlpmpmkaa
open Go.RowKit
set_option linter.unusedVariables false
set_option maxRecDepth 4000

theorem sameBytes_of (a : Option Addr) (n c : Nat) (xs : List Int) (b : Option Addr) (m d : Nat) (ys : List Int) (w : World) (hx : BIn w a n xs) (hy : BIn w b m ys) (h : xs = ys) :
    Calls Try.prog 9 #[.slice a n c, .slice b m d] w fun e w' => e = .returned (.bool true) ∧ w' = w := by
  subst h
  have h1 := str_of w a n c xs hx
  have h2 := str_of w b m d xs hy
  go_enter Try.func9, Try.ntmps9
  go_wp2
  go_ret
  exact ⟨rfl, rfl⟩

set_option maxHeartbeats 1000000 in
theorem lentBytes_of (a : Option Addr) (n c : Nat) (xs : List Int) (w : World) (hx : BIn w a n xs) (hnil : a = none → n = 0 ∧ c = 0) (hn : n ≤ 1000000) :
    Calls Try.prog 12 #[.slice a n c] w fun e w' => ∃ A C, e = .returned (.slice A n C) ∧ w'.ownsRow w.heap.size 5 1 (.slice A n C) n (u8s xs) ∧ Below w.heap.size w w' := by
  have H : Hid (BIn w a n xs ∧ (a = none → n = 0 ∧ c = 0)) := ⟨hx, hnil⟩
  clear hx hnil
  go_enter Try.func12, Try.ntmps12
  go_wp2_with (at_builtin; refine wpList_append_bin rfl (.tmp 4) (.tmp 5) rfl w.heap.size none 0 0 [] rfl (World.ownsRow_nil _ _ _ _) a n c xs rfl H.out.1 H.out.2 (by omega) (Nat.le_refl _) ?_; intro A C w1 ow1 bl1)
  go_ret
  exact ⟨A, C, by simp, by simpa using ow1, bl1⟩

set_option maxHeartbeats 1000000 in
theorem sameNumbers_of (a : Option Addr) (n c : Nat) (xs : List Int) (b : Option Addr) (m d : Nat) (ys : List Int) (w : World) (hx : NIn .u64 w a n xs) (hy : NIn .u64 w b m ys) (h : xs = ys) (hn : n ≤ 1000000) :
    Calls Try.prog 15 #[.slice a n c, .slice b m d] w fun e w' => e = .returned (.bool true) ∧ ∃ k, w' = w.drewN k := by
  subst h
  have hnm : n = m := by rw [← hx.1, ← hy.1]
  subst hnm
  have H : Hid (NIn .u64 w a n xs ∧ NIn .u64 w b n xs) := ⟨hx, hy⟩
  clear hx hy
  go_enter Try.func15, Try.ntmps15
  go_wp2
  go_loopw [5] (fun i wr => ∃ (k d : Nat), k ≤ n ∧ i = .int .i64 k ∧ wr = w.drewN d)
    (fun i _ => n - (intOf i).toNat)
  case atStart => exact ⟨0, 0, by omega, rfl, rfl⟩
  case round =>
    obtain ⟨k, d, hk, rfl, rfl⟩ := hrel
    by_cases hlt : k < n
    · have hlt' : (k : Int) < n := by omega
      obtain ⟨b1, o1, rfl, hc1⟩ := H.out.1.2.2.2.resolve_left (by omega)
      obtain ⟨b2, o2, rfl, hc2⟩ := H.out.2.2.2.2.resolve_left (by omega)
      have c1 := hc1 k hlt
      have c2 := hc2 k hlt
      obtain ⟨x, ex⟩ : ∃ x, x = xs.getD k 0 := ⟨_, rfl⟩
      rw [← ex] at c1 c2
      clear hc1 hc2 ex
      go_wp2
      go_quiet (fail)
      go_wp2
      go_roundw
      case rel => exact ⟨k + 1, _, by omega, by go_num, rfl⟩
      case measure => simp [intOf]; omega
    · have hge : (n : Int) ≤ k := by omega
      go_wp2
      go_ret
      exact ⟨rfl, d, rfl⟩

theorem all_wf {k : IntKind} {L : List Int} (h : (L.all fun z => (Lit.int k z).wf) = true) : ∀ z ∈ L, (Lit.int k z).wf = true := List.all_eq_true.1 h
theorem below_drewN {B : Nat} {a w : World} (h : Below B a w) (n : Nat) : Below B a (w.drewN n) := ⟨h.os, h.tape, h.output, h.size, h.block⟩
theorem ex_pack : packL [2, 1] [258, 3] = [1, 2, 3] := by kernel_rfl
theorem ex_take : takeV [1, 2, 3] [1, 2] = [1, 515] := by kernel_rfl
theorem ex_rest : takeR [1, 2, 3] [1, 2] = [] := by kernel_rfl
theorem ex_yes : decide (offL [1, 2] ≤ [(1 : Int), 2, 3].length) = true := by kernel_rfl
theorem ex_no : decide (offL [2] ≤ [(1 : Int)].length) = false := by kernel_rfl
theorem ex_str : strOfNums [1, 2, 3] = ⟨#[1, 2, 3]⟩ := by kernel_rfl
set_option maxHeartbeats 1000000 in
theorem wknown_any (w : World) :
    Calls Try.prog 8 #[] w fun e w' => e = .returned (.bool true) ∧ Below w.heap.size w w' := by
  obtain ⟨q, hq⟩ : ∃ q, q = w.heap.size := ⟨_, rfl⟩
  have HQ : Hid (q = w.heap.size) := hq
  rw [← hq]
  clear hq
  go_enter Try.func8, Try.ntmps8
  go_wp2_with fail
  refine (pack_of (some ⟨w.heap.size, 0, none⟩) 2 2 [2, 1] (some ⟨w.heap.size + 1, 0, none⟩) 2 2 [258, 3] _ ((new_nin rfl rfl rfl (all_wf (by decide)) (by unfold maxLen; decide)).alloc _) (new_nin (by simp) rfl rfl (all_wf (by decide)) (by unfold maxLen; omega)) (by omega) (by omega)).mono ?_
  rw [ex_pack]
  rintro e w1 ⟨a1, k1, c1, rfl, hk1, ow1, bl1⟩
  have h1 : BIn w1 a1 k1 [1, 2, 3] := own_bin ow1 (by rw [hk1]; unfold maxLen; decide) (by simp [Fits8])
  have B1 : Hid (BIn w1 a1 k1 [1, 2, 3] ∧ Below q w w1 ∧ q ≤ w1.heap.size) := by
    have b : Below q w w1 := (((Below.refl _ _).alloc (by rw [HQ.out]; exact Nat.le_refl _) _).alloc (by rw [HQ.out]; simp) _).trans (bl1.mono (by rw [HQ.out]; simp; omega))
    exact ⟨h1, b, by rw [HQ.out]; have := b.size; exact this⟩
  clear ow1 bl1 hk1 h1
  go_wp2_with fail
  refine (take_of (some ⟨w1.heap.size, 0, none⟩) 3 3 [1, 2, 3] (some ⟨w1.heap.size + 1, 0, none⟩) 2 2 [1, 2] _ ((new_bin rfl rfl rfl (by simp [Fits8]) (by unfold maxLen; decide)).alloc _) (fun h => by cases h) (by omega) (new_nin (by simp) rfl rfl (all_wf (by decide)) (by unfold maxLen; omega)) (by omega) (by omega)).mono ?_
  rw [ex_take, ex_rest, ex_yes]
  rintro e w2 ⟨A2, k2, C2, R2, r2, D2, rfl, ow2, ow3, bl2⟩
  have hk2 : k2 = 2 := by have := ow2.1; simp [kInts] at this; omega
  have hr2 : r2 = 0 := by have := ow3.1; simp [u8s] at this; omega
  subst hk2
  subst hr2
  have h2 : NIn .u64 w2 A2 2 [1, 515] := own_nin ow2 (by unfold maxLen; omega) (all_wf (by decide))
  have B2 : Hid (BIn w2 a1 k1 [1, 2, 3] ∧ Below q w w2 ∧ q ≤ w2.heap.size ∧ NIn .u64 w2 A2 2 [1, 515]) := by
    have b : Below w1.heap.size w1 w2 := (((Below.refl _ _).alloc (Nat.le_refl _) _).alloc (by simp) _).trans (bl2.mono (by simp; omega))
    exact ⟨B1.out.1.below b, B1.out.2.1.trans (b.mono B1.out.2.2), by have := b.size; have := B1.out.2.2; omega, h2⟩
  clear ow2 ow3 bl2 h2
  go_wp2_with fail
  refine (take_of (some ⟨w2.heap.size, 0, none⟩) 1 1 [1] (some ⟨w2.heap.size + 1, 0, none⟩) 1 1 [2] _ ((new_bin rfl rfl rfl (by simp [Fits8]) (by unfold maxLen; decide)).alloc _) (fun h => by cases h) (by omega) (new_nin (by simp) rfl rfl (all_wf (by decide)) (by unfold maxLen; omega)) (by omega) (by omega)).mono ?_
  rw [ex_no]
  rintro e w3 ⟨A3, k3, C3, R3, r3, D3, rfl, -, -, bl3⟩
  have B3 : Hid (BIn w3 a1 k1 [1, 2, 3] ∧ Below q w w3 ∧ NIn .u64 w3 A2 2 [1, 515]) := by
    have b : Below w2.heap.size w2 w3 := (((Below.refl _ _).alloc (Nat.le_refl _) _).alloc (by simp) _).trans (bl3.mono (by simp; omega))
    exact ⟨B2.out.1.below b, B2.out.2.1.trans (b.mono B2.out.2.2.1), B2.out.2.2.2.below b⟩
  clear bl3
  have hs := str_of w3 a1 k1 c1 [1, 2, 3] B3.out.1
  rw [ex_str] at hs
  obtain ⟨b9, o9, rfl, hc⟩ := B3.out.2.2.2.2.2.resolve_left (by omega)
  have c9 : w3.cell? ⟨b9, o9 + 1, none⟩ = some (.int .u64 515) := hc 1 (by omega)
  clear hc
  go_wp2
  go_ret
  exact ⟨rfl, B3.out.2.1⟩
end Go.Proofs.Ytckigbmlpmpmkaa
