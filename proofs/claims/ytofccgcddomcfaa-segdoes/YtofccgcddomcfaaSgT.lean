/- What one call of turn, Fill, Clear, Found, Index, Take does. -/
import Derived.Test.YtofccgcddomcfaaSgP
namespace Go.Proofs.Ytofccgcddomcfaa
open Go.RowKit
set_option linter.unusedVariables false
set_option maxRecDepth 4000

def TurnGot (w : World) (p g : Nat) (r : Int) (L : List Int) (z a b : Int) (e : Ending) (w' : World) : Prop :=
  e = .returned (.bool (decide (stZ L z = a))) ∧ SegP w' p g r (turnZ L z a b) ∧ Out (fun j => j = g) w w'
theorem gTurn_of (p g : Nat) (r : Int) (L : List Int) (z a b : Int) (w : World) (h : SegP w p g r L) (ha : a ≠ 0) (hb : Fits8 b) :
    Calls Try.prog 28 #[.pointer (some ⟨p, 0, none⟩), .int .i64 z, .int .u8 a, .int .u8 b] w fun e w' => TurnGot w p g r L z a b e w' := by
  obtain ⟨S, hS⟩ : ∃ S, S = stZ L z := ⟨_, rfl⟩
  have hst := gState_of p g r L z w h
  rw [← hS] at hst
  by_cases hq : S = a
  · have hst0 : stZ L z = a := hS.symm.trans hq
    obtain ⟨z0, z1⟩ := stZ_in hst0 ha
    obtain ⟨i, rfl⟩ : ∃ i : Nat, z = i := ⟨z.toNat, by omega⟩
    have hi : i < L.length := by omega
    have fin : TurnGot w p g r L i a b (.returned (.bool true)) (w.setCell ⟨g, i, none⟩ (.int .u8 b)) := by
      refine ⟨by rw [decide_eq_true hst0], ?_, out_one _ _ _ _⟩
      unfold turnZ
      rw [if_pos hst0]
      exact h.set i hb
    have HF : Hid (TurnGot w p g r L i a b (.returned (.bool true)) (w.setCell ⟨g, i, none⟩ (.int .u8 b))) := fin
    have HT : Hid (Calls Try.prog 18 #[.pointer (some ⟨p, 0, none⟩), .int .i64 i] w fun e w' => e = .returned (.int .u8 S) ∧ w' = w) := hst
    have c0 := h.c0
    have c1 := h.at hi
    have z2 := h.free i
    generalize L.getD i 0 = X at c1
    generalize hN : L.length = N at c0 hi
    clear fin hst hst0 z0 z1 h hS hN ha hb
    subst hq
    go_enter Try.func28, Try.ntmps28
    go_wp2_with (go_at_call 18; refine HT.out.mono ?_; rintro e w' ⟨rfl, rfl⟩)
    go_ret
    exact HF.out
  · have hst0 : ¬ stZ L z = a := fun e => hq (hS.trans e)
    have fin : TurnGot w p g r L z a b (.returned (.bool false)) w := by
      refine ⟨by rw [decide_eq_false hst0], ?_, Out.refl _ _⟩
      unfold turnZ
      rw [if_neg hst0]
      exact h
    have HF : Hid (TurnGot w p g r L z a b (.returned (.bool false)) w) := fin
    have HT : Hid (Calls Try.prog 18 #[.pointer (some ⟨p, 0, none⟩), .int .i64 z] w fun e w' => e = .returned (.int .u8 S) ∧ w' = w) := hst
    clear fin hst hst0 h hS ha hb
    go_enter Try.func28, Try.ntmps28
    go_wp2_with (go_at_call 18; refine HT.out.mono ?_; rintro e w' ⟨rfl, rfl⟩)
    go_ret
    exact HF.out
theorem gFill_of (p g : Nat) (r : Int) (L : List Int) (z : Int) (w : World) (h : SegP w p g r L) :
    Calls Try.prog 12 #[.pointer (some ⟨p, 0, none⟩), .int .i64 z] w fun e w' => TurnGot w p g r L z 2 3 e w' := by
  have HT : Hid (Calls Try.prog 28 #[.pointer (some ⟨p, 0, none⟩), .int .i64 z, .int .u8 2, .int .u8 3] w fun e w' => TurnGot w p g r L z 2 3 e w') := gTurn_of p g r L z 2 3 w h (by decide) (by unfold Fits8; omega)
  clear h
  go_enter Try.func12, Try.ntmps12
  go_wp2_with (go_at_call 28; refine HT.out.mono ?_; rintro e w' ⟨rfl, h1, h2⟩)
  go_ret
  exact ⟨rfl, h1, h2⟩
theorem gClear_of (p g : Nat) (r : Int) (L : List Int) (z : Int) (w : World) (h : SegP w p g r L) :
    Calls Try.prog 14 #[.pointer (some ⟨p, 0, none⟩), .int .i64 z] w fun e w' => TurnGot w p g r L z 3 1 e w' := by
  have HT : Hid (Calls Try.prog 28 #[.pointer (some ⟨p, 0, none⟩), .int .i64 z, .int .u8 3, .int .u8 1] w fun e w' => TurnGot w p g r L z 3 1 e w') := gTurn_of p g r L z 3 1 w h (by decide) (by unfold Fits8; omega)
  clear h
  go_enter Try.func14, Try.ntmps14
  go_wp2_with (go_at_call 28; refine HT.out.mono ?_; rintro e w' ⟨rfl, h1, h2⟩)
  go_ret
  exact ⟨rfl, h1, h2⟩
theorem gFound_of (p g : Nat) (r : Int) (L : List Int) (z : Int) (w : World) (h : SegP w p g r L) :
    Calls Try.prog 16 #[.pointer (some ⟨p, 0, none⟩), .int .i64 z] w fun e w' => TurnGot w p g r L z 1 3 e w' := by
  have HT : Hid (Calls Try.prog 28 #[.pointer (some ⟨p, 0, none⟩), .int .i64 z, .int .u8 1, .int .u8 3] w fun e w' => TurnGot w p g r L z 1 3 e w') := gTurn_of p g r L z 1 3 w h (by decide) (by unfold Fits8; omega)
  clear h
  go_enter Try.func16, Try.ntmps16
  go_wp2_with (go_at_call 28; refine HT.out.mono ?_; rintro e w' ⟨rfl, h1, h2⟩)
  go_ret
  exact ⟨rfl, h1, h2⟩

theorem index_of (p g : Nat) (r : Int) (L : List Int) (a : Int) (w : World) (h : SegP w p g r L) :
    Calls Try.prog 27 #[.slice (some ⟨g, 0, none⟩) L.length L.length, .int .u8 a] w fun e w' => e = .returned (.int .i64 (if firstN L a < L.length then (firstN L a : Int) else -1)) ∧ w' = w := by
  obtain ⟨N, hN⟩ : ∃ N, N = L.length := ⟨_, rfl⟩
  obtain ⟨R, hR⟩ : ∃ R : Int, R = (if firstN L a < L.length then (firstN L a : Int) else -1) := ⟨_, rfl⟩
  rw [← hR]
  have HS : Hid (SegP w p g r L ∧ N = L.length ∧ R = (if firstN L a < L.length then (firstN L a : Int) else -1)) := ⟨h, hN, hR⟩
  rw [← hN]
  clear h hN hR
  go_enter Try.func27, Try.ntmps27
  go_wp2
  go_loopw [8] (fun i wr => ∃ k : Nat, i = .int .i64 k ∧ k ≤ N ∧ (∀ j, j < k → L.getD j 0 ≠ a) ∧ wr = w) (fun i wr => N - (intOf i).toNat)
  case atStart => exact ⟨0, rfl, Nat.zero_le _, fun j hj => by omega, rfl⟩
  case round =>
    obtain ⟨k, rfl, hk, hno, rfl⟩ := hrel
    have HN : Hid (∀ j, j < k → L.getD j 0 ≠ a) := hno
    clear hno
    rcases Nat.lt_or_ge k N with hlt | hge
    · have c1 := HS.out.1.at (i := k) (by rw [← HS.out.2.1]; exact hlt)
      obtain ⟨X, hX⟩ : ∃ X, X = L.getD k 0 := ⟨_, rfl⟩
      rw [← hX] at c1
      have HX : Hid (X = L.getD k 0) := hX
      have hw : IntKind.i64.wrap ((k : Int) + 1) = (k : Int) + 1 := by have := HS.out.1.len.2; have := HS.out.2.1; rw [IntKind.wrap_i64]; omega
      clear hX
      by_cases hq : a = X
      · have HQ : Hid (a = X) := hq
        subst hq
        go_wp2
        go_ret
        refine ⟨?_, rfl⟩
        have e : firstN L a = k := first_is (by rw [← HS.out.2.1]; exact hlt) HX.out.symm HN.out
        rw [HS.out.2.2, e, if_pos (by rw [← HS.out.2.1]; exact hlt)]; rfl
      · have HQ : Hid (¬ a = X) := hq
        go_wp2
        go_roundw
        case rel =>
          refine ⟨k + 1, by simp, by omega, fun j hj => ?_, (by first | rfl | trivial)⟩
          rcases Nat.lt_or_ge j k with h1 | h1
          · exact HN.out j h1
          · obtain rfl : j = k := by omega
            rw [← HX.out]; exact fun e => HQ.out e.symm
        case measure => simp [intOf]; omega
    · obtain rfl : k = N := by omega
      go_wp2
      go_ret
      refine ⟨?_, rfl⟩
      have e : firstN L a = L.length := first_none (fun j hj => HN.out j (by rw [HS.out.2.1]; exact hj))
      rw [HS.out.2.2, e, if_neg (by omega)]; rfl

def TakeGot (w : World) (p g : Nat) (r : Int) (L : List Int) (e : Ending) (w' : World) : Prop :=
  e = .returned (.tuple #[.int .i64 (takeI L), .bool (takeB L)]) ∧ SegP w' p g r (takeZ L) ∧ Out (fun j => j = g) w w'
theorem gTake_of (p g : Nat) (r : Int) (L : List Int) (w : World) (h : SegP w p g r L) :
    Calls Try.prog 10 #[.pointer (some ⟨p, 0, none⟩)] w fun e w' => TakeGot w p g r L e w' := by
  have hix := index_of p g r L 1 w h
  have c0 := h.c0
  by_cases hf : firstN L 1 < L.length
  · rw [if_pos hf] at hix
    have ht := gTurn_of p g r L (firstN L 1) 1 2 w h (by decide) (by unfold Fits8; omega)
    have hs1 : stZ L (firstN L 1) = 1 := by rw [stZ_nat]; exact first_at hf
    have fin : ∀ e w', TurnGot w p g r L (firstN L 1) 1 2 e w' → e = .returned (.bool true) ∧ TakeGot w p g r L (.returned (.tuple #[.int .i64 (firstN L 1), .bool true])) w' := by
      rintro e w' ⟨rfl, h1, h2⟩
      refine ⟨by rw [decide_eq_true hs1], ?_, ?_, h2⟩
      · simp [takeI, takeB, hf]
      · rw [take_turn, if_pos hf]; exact h1
    have HF : Hid (∀ e w', TurnGot w p g r L (firstN L 1) 1 2 e w' → e = .returned (.bool true) ∧ TakeGot w p g r L (.returned (.tuple #[.int .i64 (firstN L 1), .bool true])) w') := fin
    generalize TurnGot w p g r L (firstN L 1) 1 2 = T' at HF ht
    have hlt0 : ¬ ((firstN L 1 : Nat) : Int) < 0 := by omega
    generalize hF : firstN L 1 = F at HF ht hix hlt0
    generalize L.length = N at c0 hix
    clear fin hs1 h hf
    have HI : Hid (Calls Try.prog 27 #[.slice (some ⟨g, 0, none⟩) N N, .int .u8 1] w fun e w' => e = .returned (.int .i64 F) ∧ w' = w) := hix
    have HT : Hid (Calls Try.prog 28 #[.pointer (some ⟨p, 0, none⟩), .int .i64 F, .int .u8 1, .int .u8 2] w fun e w' => T' e w') := ht
    clear hix ht hF
    go_enter Try.func10, Try.ntmps10
    go_wp2_with (first
      | (go_at_call 27; refine HI.out.mono ?_; rintro e w' ⟨rfl, rfl⟩)
      | (go_at_call 28; refine HT.out.mono ?_; intro e w2 hx; obtain ⟨rfl, hx2⟩ := HF.out _ _ hx))
    go_ret2
    exact hx2
  · rw [if_neg hf] at hix
    have fin : TakeGot w p g r L (.returned (.tuple #[.int .i64 0, .bool false])) w := by
      refine ⟨?_, ?_, Out.refl _ _⟩
      · simp [takeI, takeB, hf]
      · unfold takeZ; rw [if_neg hf]; exact h
    have HF : Hid (TakeGot w p g r L (.returned (.tuple #[.int .i64 0, .bool false])) w) := fin
    generalize L.length = N at c0 hix
    clear fin h hf
    have HI : Hid (Calls Try.prog 27 #[.slice (some ⟨g, 0, none⟩) N N, .int .u8 1] w fun e w' => e = .returned (.int .i64 (-1)) ∧ w' = w) := hix
    clear hix
    go_enter Try.func10, Try.ntmps10
    go_wp2_with (go_at_call 27; refine HI.out.mono ?_; rintro e w' ⟨rfl, rfl⟩)
    go_ret2
    exact HF.out
end Go.Proofs.Ytofccgcddomcfaa
