/- What the function that cut tells does, whatever the rounds and the closure do. -/
import Derived.Test.YteokhkoaieibmaaZRange
namespace Go.Proofs.Yteokhkoaieibmaa
open Go.RowKit Go.Shelf
set_option linter.unusedVariables false
attribute [local go_sem] Oper.semAt_some

structure CutJ (nb : Nat) (a : Option Addr) (c gf : Nat) (lb : Array Value) (B1 B2 : Nat) (bs : List (List Int)) (fit : Nat → Nat) (l : Nat) (R : Loop) (n : Nat) (J JF : Nat → World → Prop) (J' : Nat → Value → World → Prop) : Prop where
  len : bs.length = nb
  small : nb ≤ 100000
  cap : ∀ k W, J k W → W.cell? ⟨B1, 0, none⟩ = some (.slice a nb c) ∧ W.cell? ⟨B2, 0, none⟩ = some (.func (.func gf) #[] lb)
  rd : ∀ k W D, J k W → bs[k]? = some D → ∃ b off A L C, a = some ⟨b, off, none⟩ ∧ W.cell? ⟨b, off + k, none⟩ = some (.slice A L C) ∧ BIn W A L D ∧ L ≤ C ∧ L ≤ 100000
  fits : ∀ k W D A L C, J k W → bs[k]? = some D → BIn W A L D → Book R l W → Calls Try.prog gf (#[.slice A L C] ++ lb) W fun e W' => e = .returned (.int .i64 (fit k)) ∧ JF k W' ∧ Book R l W' ∧ BIn W' A L D
  le : ∀ k D, bs[k]? = some D → fit k ≤ D.length
  torn : ∀ k W D x W', JF k W → bs[k]? = some D → 0 < fit k → Below W.heap.size W W' → BkAt (fun k => W.heap.size ≤ k) W' x (tornL D (fit k)) → (∃ g, x = .slice (some ⟨g, 0, none⟩) D.length D.length) → J' k x W'

def CutE (nb : Nat) (fit : Nat → Nat) (l : Nat) (R : Loop) (J JF : Nat → World → Prop) (W' : World) : Prop :=
  Book R l W' ∧ ∃ k, k ≤ nb ∧ (∀ j, j < k → 0 < fit j) ∧ ((k = nb ∧ J k W') ∨ (k < nb ∧ fit k = 0 ∧ JF k W'))

set_option maxRecDepth 100000 in
set_option maxHeartbeats 2000000 in
theorem cut1_of {nb : Nat} {a : Option Addr} {c gf : Nat} {lb : Array Value} {B1 B2 : Nat} {bs : List (List Int)} {fit : Nat → Nat} {l : Nat} {R : Loop} {n : Nat} {J JF : Nat → World → Prop} {J' : Nat → Value → World → Prop}
    (H : CutJ nb a c gf lb B1 B2 bs fit l R n J JF J') (eg : Enters Try.prog gf)
    (hY : ∀ k x W1, Book R l W1 → J' k x W1 → YieldAt Fence.wide (n - 1) Try.prog (l + 1) #[x] W1 fun e W' => e = .returned (.bool true) ∧ Book R l W' ∧ J (k + 1) W')
    (W : World) (hB : Book R l W) (h0 : J 0 W) :
    CallsIn Fence.wide n Try.prog 85 #[.func (.yield (l + 1)) #[] #[], .pointer (some ⟨B1, 0, none⟩), .pointer (some ⟨B2, 0, none⟩)] W fun e W' => (∃ v, e = .returned v) ∧ CutE nb fit l R J JF W' := by
  obtain ⟨c1, c2⟩ := H.cap 0 W h0
  refine callsIn_of_wp Try.func85 rfl trivial ?_ rfl
  simp only [Try.ntmps85, List.size_toArray, List.length_cons, List.length_nil, Nat.reduceAdd, Nat.reduceSub, Array.replicate_succ, Array.replicate_zero, List.push_toArray, List.append_toArray, List.nil_append, List.cons_append]
  have hfw : ∀ f, Fence.wide.fn f = True := fun _ => rfl
  have hdw : Fence.wide.depth.isSome = false := rfl
  have eg' : ∀ args w, (callFunc gf args).run Try.prog w = .ok (.enter gf args) w := eg
  have HH : Hid (CutJ nb a c gf lb B1 B2 bs fit l R n J JF J' ∧ Book R l W ∧ J 0 W) := ⟨H, hB, h0⟩
  have HY : Hid (∀ k x W1, Book R l W1 → J' k x W1 → YieldAt Fence.wide (n - 1) Try.prog (l + 1) #[x] W1 fun e W' => e = .returned (.bool true) ∧ Book R l W' ∧ J (k + 1) W') := hY
  clear H hB h0 hY
  gi_wp2
  gi_loopw [9] (fun i wr => ∃ k : Nat, i = .int .i64 k ∧ k ≤ nb ∧ (∀ j, j < k → 0 < fit j) ∧ Book R l wr ∧ J k wr) (fun i wr => nb - (intOf i).toNat)
  case atStart =>
    exact ⟨0, rfl, Nat.zero_le _, by simp, HH.out.2.1, HH.out.2.2⟩
  case round =>
    obtain ⟨k, rfl, hk, hpos, hbk, hj⟩ := hrel
    obtain ⟨c3, c4⟩ := HH.out.1.cap k _ hj
    rcases Nat.lt_or_ge k nb with hlt | hge
    · obtain ⟨D, hD⟩ : ∃ D, bs[k]? = some D := ⟨bs[k]'(by rw [HH.out.1.len]; exact hlt), by simp [HH.out.1.len, hlt]⟩
      obtain ⟨b, off, A, L, C, rfl, hc, hin, hLC, hL⟩ := HH.out.1.rd k _ D hj hD
      have hw : IntKind.i64.wrap ((k : Int) + 1) = (k : Int) + 1 := by have := HH.out.1.small; rw [IntKind.wrap_i64]; omega
      obtain ⟨N, hN⟩ : ∃ N, N = fit k := ⟨_, rfl⟩
      have hf := HH.out.1.fits k wr D A L C hj hD hin hbk
      rw [← hN] at hf
      have HN : Hid (N = fit k ∧ bs[k]? = some D ∧ (∀ j, j < k → 0 < fit j) ∧ k < nb) := ⟨hN, hD, hpos, hlt⟩
      have hle := HH.out.1.le k D hD
      rw [← hN, hin.1] at hle
      have HL : Hid (N ≤ L ∧ L ≤ C ∧ L ≤ 100000) := ⟨hle, hLC, hL⟩
      have HF : Hid (Calls Try.prog gf (#[.slice A L C] ++ lb) wr fun e W' => e = .returned (.int .i64 N) ∧ JF k W' ∧ Book R l W' ∧ BIn W' A L D) := hf
      clear hN hD hpos hle hLC hL hf hk hbk hj hin
      rcases Nat.eq_zero_or_pos N with rfl | hN0
      · gi_wp2_with (gi_at_fn gf; refine (callsIn_wide.2 HF.out).mono ?_; rintro e W2 ⟨rfl, hjf, hbk2, hin2⟩)
        refine bodyPost_ret (results_none rfl _ _ _) rfl ?_
        exact ⟨⟨_, rfl⟩, hbk2, k, by have := HN.out.2.2.2; omega, HN.out.2.2.1, .inr ⟨HN.out.2.2.2, HN.out.1.symm, hjf⟩⟩
      · have hne : ((N : Int) == 0) = false := by simp; omega
        have hlt' := HN.out.2.2.2
        have HP : Hid (0 < N) := hN0
        clear hN0
        gi_wp2_with (first
          | (gi_at_fn gf; refine (callsIn_wide.2 HF.out).mono ?_; rintro e W2 ⟨rfl, hjf, hbk2, hin2⟩)
          | (gi_at_call 86; refine (callsIn_wide.2 (torn_of A L C N D W2 hin2 HL.out.1 HL.out.2.1 HL.out.2.2)).mono ?_; rintro e W3 ⟨x, rfl, hx1, hx2, gx, rfl, hx3⟩; obtain ⟨fn, tmps, assign, body, hy, hR⟩ := HY.out k _ W3 (hbk2.below hx2) (HH.out.1.torn k W2 D _ W3 hjf HN.out.2.1 (by rw [← HN.out.1]; exact HP.out) hx2 (by rw [← HN.out.1]; exact hx1) ⟨gx, rfl⟩)))
        refine hR.mono ?_
        rintro e W4 ⟨rfl, hbk4, hj4⟩
        have HJ : Hid (Book R l W4 ∧ J (k + 1) W4) := ⟨hbk4, hj4⟩
        clear hR hy hbk4 hj4 hjf hbk2 hin2 hx1 hx2 hx3
        gi_wp2
        go_roundw
        case rel =>
          refine ⟨k + 1, by simp, by omega, fun j hj => ?_, HJ.out.1, HJ.out.2⟩
          rcases Nat.lt_or_ge j k with h | h
          · exact HN.out.2.2.1 j h
          · obtain rfl : j = k := by omega
            rw [← HN.out.1]; exact HP.out
        case measure => simp [intOf]; omega
    · have hkn : k = nb := by omega
      subst hkn
      gi_wp2
      go_end0
      exact ⟨⟨_, rfl⟩, hbk, k, hk, hpos, .inl ⟨rfl, hj⟩⟩
end Go.Proofs.Yteokhkoaieibmaa
