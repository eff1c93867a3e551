/- What one call of the document's List, Low, New does; of SameInts. -/
import Derived.Test.YtofccgcddomcfaaSgR
import Derived.Test.YtofccgcddomcfaaSgNew
import Derived.Test.YtofccgcddomcfaaSgE
import Derived.Test.YtofccgcddomcfaaSRRight
import Derived.Deep.RegionHeld3
import Derived.BigQuiet
namespace Go.Proofs.Ytofccgcddomcfaa
open Go.RowKit
set_option linter.unusedVariables false
set_option maxRecDepth 4000

theorem dgList_of (p g c : Nat) (s : Sh) (L : List Int) (a : Int) (w : World) (h : SegR w p g c s L) :
    Calls Try.prog 24 #[.pointer (some ⟨p, 0, none⟩), .int .u8 a] w fun e w' => ListGot w (listZ L a) e w' := by
  obtain ⟨N, hN⟩ : ∃ N, N = L.length := ⟨_, rfl⟩
  have c0 := h.c4
  rw [← hN] at c0
  have HS : Hid (SegR w p g c s L ∧ N = L.length) := ⟨h, hN⟩
  clear h hN
  go_enter Try.func24, Try.ntmps24
  go_wp2
  go_loopw [5, 6] (fun x i wr => ∃ (k : Nat) (A : Option Addr) (C : Nat), x = .slice A (listTo L a k).length C ∧ i = .int .i64 k ∧ k ≤ N ∧ wr.ownsRow w.heap.size 3 1 (.slice A (listTo L a k).length C) (listTo L a k).length (kInts .i64 (listTo L a k)) ∧ Below w.heap.size w wr) (fun _ i wr => N - (intOf i).toNat)
  case atStart => exact ⟨0, none, 0, rfl, rfl, Nat.zero_le _, World.ownsRow_nil _ _ _ _, Below.refl _ _⟩
  case round =>
    obtain ⟨k, A, C, rfl, rfl, hk, ow, hb⟩ := hrel
    rename World => wq
    have HI : Hid (wq.ownsRow w.heap.size 3 1 (.slice A (listTo L a k).length C) (listTo L a k).length (kInts .i64 (listTo L a k)) ∧ Below w.heap.size w wq) := ⟨ow, hb⟩
    have hs := HS.out.1.under hb
    have d0 := hs.c4
    rw [← HS.out.2] at d0
    rcases Nat.lt_or_ge k N with hlt | hge
    · have hkL : k < L.length := by rw [← HS.out.2]; exact hlt
      have c1 := hs.at hkL
      obtain ⟨X, hX⟩ : ∃ X, X = L.getD k 0 := ⟨_, rfl⟩
      rw [← hX] at c1
      have hw : IntKind.i64.wrap ((k : Int) + 1) = (k : Int) + 1 := by have := HS.out.1.len.2; have := HS.out.2; rw [IntKind.wrap_i64]; omega
      have hll := listTo_length L a k
      have hN256 : N ≤ 256 := by rw [HS.out.2]; exact HS.out.1.len.2
      have HX : Hid (X = L.getD k 0 ∧ k < N ∧ (listTo L a k).length ≤ 256 ∧ k ≤ 256) := ⟨hX, hlt, by omega, by omega⟩
      have hsz := hb.size
      have HZ : Hid (w.heap.size ≤ wq.heap.size) := hsz
      clear hX hkL hs ow hb hk hll hN256 hsz
      by_cases hq : X = a
      · have HQ : Hid (X = a) := hq
        subst hq
        obtain ⟨ys, hys⟩ : ∃ ys, ys = listTo L X k := ⟨_, rfl⟩
        rw [← hys] at HI ⊢
        have HY : Hid (ys = listTo L X k ∧ ys.length ≤ 256) := ⟨hys, by rw [hys]; exact HX.out.2.2.1⟩
        clear hys
        generalize hn : ys.length = n at HI ⊢
        have HN : Hid (ys.length = n ∧ n ≤ 256) := ⟨hn, by rw [← hn]; exact HY.out.2⟩
        clear hn
        go_wp2_with (at_builtin; refine wpList_append_nin (k := .i64) Try.underlying37 Try.zero_int (by omega) rfl (.tmp 25) (.tmp 27) rfl w.heap.size A n C _ rfl (HI.out.1.alloc _) (some ⟨wq.heap.size, 0, none⟩) 1 1 [(k : Int)] rfl (new_nin rfl rfl rfl (fun z hz => by simp at hz; subst hz; exact wfI (by have := HX.out.2.2.2; unfold F63; omega)) (by unfold maxLen; omega)) (fun h => by cases h) (by have := HN.out.2; omega) (by have := HZ.out; simp; omega) ?_; intro a2 c2 w2 ow2 bl2; have HB : Hid (w2.ownsRow w.heap.size 3 1 (.slice a2 (n + 1) c2) (n + 1) (kInts .i64 (ys ++ [(k : Int)])) ∧ Below w.heap.size w w2) := ⟨ow2, (HI.out.2.alloc HZ.out _).trans bl2⟩; clear ow2 bl2)
        go_roundw
        case rel =>
          have e1 : listTo L X (k + 1) = ys ++ [(k : Int)] := by rw [listTo_step, if_pos HX.out.1.symm, HY.out.1]
          have e2 : (ys ++ [(k : Int)]).length = n + 1 := by simp [HN.out.1]
          exact ⟨k + 1, a2, c2, by rw [e1, e2], by simp, by have := HX.out.2.1; omega, by rw [e1, e2]; exact HB.out.1, HB.out.2⟩
        case measure => have := HX.out.2.1; simp [intOf]; omega
      · have HQ : Hid (¬ X = a) := hq
        go_wp2
        go_roundw
        case rel =>
          have e1 : listTo L a (k + 1) = listTo L a k := by rw [listTo_step, if_neg (by rw [← HX.out.1]; exact HQ.out)]
          exact ⟨k + 1, A, C, by rw [e1], by simp, by have := HX.out.2.1; omega, by rw [e1]; exact HI.out.1, HI.out.2⟩
        case measure => have := HX.out.2.1; simp [intOf]; omega
    · obtain rfl : k = N := by omega
      clear hs ow hb hk
      go_wp2
      go_ret
      refine ⟨A, C, ?_, ?_, HI.out.2⟩
      · unfold listZ; rw [← HS.out.2]; rfl
      · unfold listZ; rw [← HS.out.2]; exact HI.out.1

theorem dgLow_of (p g c : Nat) (s : Sh) (L : List Int) (w : World) (h : SegR w p g c s L) :
    Calls Try.prog 21 #[.pointer (some ⟨p, 0, none⟩)] w fun e w' => e = .returned (.bool (lowB L s.r)) ∧ Below w.heap.size w w' := by
  have c3 := h.c3
  have HS : Hid (SegR w.drew p g c s L ∧ Below w.heap.size w w.drew) := ⟨h.drew, (Below.refl _ _).drew⟩
  obtain ⟨K, hK⟩ : ∃ K, K = (listZ L 1).length := ⟨_, rfl⟩
  have HL : Hid (∀ X, SegR X p g c s L → Calls Try.prog 24 #[.pointer (some ⟨p, 0, none⟩), .int .u8 1] X fun e w' => ∃ A c, e = .returned (.slice A K c) ∧ Below X.heap.size X w') := fun X hX => by
    refine (dgList_of p g c s L 1 X hX).mono ?_
    rintro e w' ⟨A, c, h1, _, h3⟩
    exact ⟨A, c, by rw [hK]; exact h1, h3⟩
  have HK : Hid (lowB L s.r = decide ((K : Int) ≤ s.r)) := show _ = _ by rw [hK]; rfl
  clear hK h
  go_enter Try.func21, Try.ntmps21
  go_wp2_with fail
  go_region_held3 (fun X => X.cell? ⟨p, 3, none⟩ = some (.int .i64 s.r)) (first | exact c3 | exact d3)
    ((go_at_call 24; refine (HL.out _ HS.out.1).mono ?_; rintro e w2 ⟨A2, c2, rfl, hb2⟩; have HS2 : Hid (Below w.heap.size w w2) := HS.out.2.trans (hb2.mono HS.out.2.size); have d3 := (HS.out.1.under hb2).c3; clear hb2))
  go_wp2
  go_ret
  exact ⟨by rw [HK.out]; rfl, HS2.out⟩
end Go.Proofs.Ytofccgcddomcfaa
