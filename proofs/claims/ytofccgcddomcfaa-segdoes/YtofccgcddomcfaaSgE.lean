/- What one call of each, List, Low does. -/
import Derived.Test.YtofccgcddomcfaaSgL
namespace Go.Proofs.Ytofccgcddomcfaa
open Go.RowKit
set_option linter.unusedVariables false
set_option maxRecDepth 4000

theorem SegP.belowB {W W' : World} {p g B : Nat} {r : Int} {L : List Int} (h : SegP W p g r L) (hb : Below B W W') (hp : p < B) (hg : g < B) : SegP W' p g r L :=
  ⟨h.hp.below hb hp, h.hg.below hb hg, h.len, h.fit⟩

theorem eachL_of (B q p g : Nat) (r : Int) (L : List Int) (a : Int) (w : World) (h : SegP w p g r L) (hp : p < B) (hg : g < B) (hl : LS B q w (listTo L a 0)) :
    Calls Try.prog 30 #[.pointer (some ⟨p, 0, none⟩), .int .u8 a, .func (.func 32) #[] #[.pointer (some ⟨q, 0, none⟩)]] w fun e w' => e = .returned (.tuple #[]) ∧ LS B q w' (listTo L a L.length) ∧ Below B w w' := by
  obtain ⟨N, hN⟩ : ∃ N, N = L.length := ⟨_, rfl⟩
  have c0 := h.c0
  rw [← hN] at c0
  have HS : Hid (SegP w p g r L ∧ N = L.length ∧ p < B ∧ g < B ∧ LS B q w (listTo L a 0)) := ⟨h, hN, hp, hg, hl⟩
  clear h hN hp hg hl
  go_enter Try.func30, Try.ntmps30
  go_wp2
  go_loopw [13] (fun i wr => ∃ k : Nat, i = .int .i64 k ∧ k ≤ N ∧ LS B q wr (listTo L a k) ∧ Below B w wr) (fun i wr => N - (intOf i).toNat)
  case atStart => exact ⟨0, rfl, Nat.zero_le _, HS.out.2.2.2.2, Below.refl _ _⟩
  case round =>
    obtain ⟨k, rfl, hk, hls, hbw⟩ := hrel
    have HI : Hid (LS B q wr (listTo L a k) ∧ Below B w wr) := ⟨hls, hbw⟩
    clear hls hbw
    rcases Nat.lt_or_ge k N with hlt | hge
    · have c1 := (HS.out.1.belowB HI.out.2 HS.out.2.2.1 HS.out.2.2.2.1).at (i := k) (by rw [← HS.out.2.1]; exact hlt)
      obtain ⟨X, hX⟩ : ∃ X, X = L.getD k 0 := ⟨_, rfl⟩
      rw [← hX] at c1
      have HX : Hid (X = L.getD k 0) := hX
      have hw : IntKind.i64.wrap ((k : Int) + 1) = (k : Int) + 1 := by have := HS.out.1.len.2; have := HS.out.2.1; rw [IntKind.wrap_i64]; omega
      clear hX
      by_cases hq : X = a
      · have HC : Hid (Calls Try.prog 32 #[.int .i64 k, .pointer (some ⟨q, 0, none⟩)] wr fun e w' => e = .returned (.tuple #[]) ∧ LS B q w' (listTo L a (k + 1)) ∧ Below B wr w') := by
          show Calls _ _ _ _ _
          have e1 : listTo L a (k + 1) = listTo L a k ++ [(k : Int)] := by rw [listTo_step, if_pos (by rw [← HX.out]; exact hq)]
          have e2 := listTo_length L a k
          rw [e1]
          have e3 := HS.out.1.len.2
          have e4 := HS.out.2.1
          exact gListC_of B q k _ wr HI.out.1 (by omega) (by omega)
        subst hq
        clear HX
        go_wp2_with (go_at_call 32; refine HC.out.mono ?_; rintro e w2 ⟨rfl, hl2, hb2⟩; have HJ : Hid (LS B q w2 (listTo L X (k + 1)) ∧ Below B w w2) := ⟨hl2, HI.out.2.trans hb2⟩; clear hl2 hb2)
        go_roundw
        case rel => exact ⟨k + 1, by simp, by omega, HJ.out.1, HJ.out.2⟩
        case measure => simp [intOf]; omega
      · have e1 : listTo L a (k + 1) = listTo L a k := by rw [listTo_step, if_neg (by rw [← HX.out]; exact hq)]
        have HJ : Hid (LS B q wr (listTo L a (k + 1)) ∧ Below B w wr) := by show _ ∧ _; rw [e1]; exact HI.out
        clear e1
        go_wp2
        go_roundw
        case rel => exact ⟨k + 1, by simp, by omega, HJ.out.1, HJ.out.2⟩
        case measure => simp [intOf]; omega
    · obtain rfl : k = N := by omega
      go_wp2
      first | go_end0 | refine bodyPost_ret (results_none rfl _ _ _) rfl ?_
      refine ⟨rfl, ?_, HI.out.2⟩
      have := HI.out.1
      rw [HS.out.2.1] at this
      exact this

theorem eachN_of (B q p g : Nat) (r : Int) (L : List Int) (a : Int) (w : World) (h : SegP w p g r L) (hp : p < B) (hg : g < B) (hl : CS B q w (listTo L a 0).length) :
    Calls Try.prog 30 #[.pointer (some ⟨p, 0, none⟩), .int .u8 a, .func (.func 31) #[] #[.pointer (some ⟨q, 0, none⟩)]] w fun e w' => e = .returned (.tuple #[]) ∧ CS B q w' (listTo L a L.length).length ∧ Below B w w' := by
  obtain ⟨N, hN⟩ : ∃ N, N = L.length := ⟨_, rfl⟩
  have c0 := h.c0
  rw [← hN] at c0
  have HS : Hid (SegP w p g r L ∧ N = L.length ∧ p < B ∧ g < B ∧ CS B q w (listTo L a 0).length) := ⟨h, hN, hp, hg, hl⟩
  clear h hN hp hg hl
  go_enter Try.func30, Try.ntmps30
  go_wp2
  go_loopw [13] (fun i wr => ∃ k : Nat, i = .int .i64 k ∧ k ≤ N ∧ CS B q wr (listTo L a k).length ∧ Below B w wr) (fun i wr => N - (intOf i).toNat)
  case atStart => exact ⟨0, rfl, Nat.zero_le _, HS.out.2.2.2.2, Below.refl _ _⟩
  case round =>
    obtain ⟨k, rfl, hk, hls, hbw⟩ := hrel
    have HI : Hid (CS B q wr (listTo L a k).length ∧ Below B w wr) := ⟨hls, hbw⟩
    clear hls hbw
    rcases Nat.lt_or_ge k N with hlt | hge
    · have c1 := (HS.out.1.belowB HI.out.2 HS.out.2.2.1 HS.out.2.2.2.1).at (i := k) (by rw [← HS.out.2.1]; exact hlt)
      obtain ⟨X, hX⟩ : ∃ X, X = L.getD k 0 := ⟨_, rfl⟩
      rw [← hX] at c1
      have HX : Hid (X = L.getD k 0) := hX
      have hw : IntKind.i64.wrap ((k : Int) + 1) = (k : Int) + 1 := by have := HS.out.1.len.2; have := HS.out.2.1; rw [IntKind.wrap_i64]; omega
      clear hX
      by_cases hq : X = a
      · have HC : Hid (Calls Try.prog 31 #[.int .i64 k, .pointer (some ⟨q, 0, none⟩)] wr fun e w' => e = .returned (.tuple #[]) ∧ CS B q w' (listTo L a (k + 1)).length ∧ Below B wr w') := by
          show Calls _ _ _ _ _
          have e1 : listTo L a (k + 1) = listTo L a k ++ [(k : Int)] := by rw [listTo_step, if_pos (by rw [← HX.out]; exact hq)]
          have e2 := listTo_length L a k
          rw [e1]
          have e3 := HS.out.1.len.2
          have e4 := HS.out.2.1
          rw [List.length_append, List.length_singleton]; exact gLowC_of B q k _ wr HI.out.1 (by omega)
        subst hq
        clear HX
        go_wp2_with (go_at_call 31; refine HC.out.mono ?_; rintro e w2 ⟨rfl, hl2, hb2⟩; have HJ : Hid (CS B q w2 (listTo L X (k + 1)).length ∧ Below B w w2) := ⟨hl2, HI.out.2.trans hb2⟩; clear hl2 hb2)
        go_roundw
        case rel => exact ⟨k + 1, by simp, by omega, HJ.out.1, HJ.out.2⟩
        case measure => simp [intOf]; omega
      · have e1 : listTo L a (k + 1) = listTo L a k := by rw [listTo_step, if_neg (by rw [← HX.out]; exact hq)]
        have HJ : Hid (CS B q wr (listTo L a (k + 1)).length ∧ Below B w wr) := by show _ ∧ _; rw [e1]; exact HI.out
        clear e1
        go_wp2
        go_roundw
        case rel => exact ⟨k + 1, by simp, by omega, HJ.out.1, HJ.out.2⟩
        case measure => simp [intOf]; omega
    · obtain rfl : k = N := by omega
      go_wp2
      first | go_end0 | refine bodyPost_ret (results_none rfl _ _ _) rfl ?_
      refine ⟨rfl, ?_, HI.out.2⟩
      have := HI.out.1
      rw [HS.out.2.1] at this
      exact this

def ListGot (w : World) (xs : List Int) (e : Ending) (w' : World) : Prop :=
  ∃ A c, e = .returned (.slice A xs.length c) ∧ w'.ownsRow w.heap.size 3 1 (.slice A xs.length c) xs.length (kInts .i64 xs) ∧ Below w.heap.size w w'
theorem gList_of (p g : Nat) (r : Int) (L : List Int) (a : Int) (w : World) (h : SegP w p g r L) :
    Calls Try.prog 23 #[.pointer (some ⟨p, 0, none⟩), .int .u8 a] w fun e w' => ListGot w (listZ L a) e w' := by
  have hq : Blk (w.alloc (.cells #[.slice none 0 0] 37)) w.heap.size [.slice none 0 0] 37 := Blk.new' rfl rfl
  have hb0 : Below w.heap.size w (w.alloc (.cells #[.slice none 0 0] 37)) := (Below.refl _ _).alloc (Nat.le_refl _) _
  have hls : LS w.heap.size w.heap.size (w.alloc (.cells #[.slice none 0 0] 37)) (listTo L a 0) := ⟨none, 0, hq, World.ownsRow_nil _ _ _ _, Nat.le_refl _, by simp⟩
  have hc := eachL_of w.heap.size w.heap.size p g r L a _ (h.belowB hb0 h.lt.1 h.lt.2) h.lt.1 h.lt.2 hls
  have HC : Hid (Calls Try.prog 30 #[.pointer (some ⟨p, 0, none⟩), .int .u8 a, .func (.func 32) #[] #[.pointer (some ⟨w.heap.size, 0, none⟩)]] (w.alloc (.cells #[.slice none 0 0] 37)) fun e w' => e = .returned (.tuple #[]) ∧ LS w.heap.size w.heap.size w' (listTo L a L.length) ∧ Below w.heap.size (w.alloc (.cells #[.slice none 0 0] 37)) w') := hc
  have HB : Hid (Below w.heap.size w (w.alloc (.cells #[.slice none 0 0] 37))) := hb0
  clear hq hb0 hls hc h
  go_enter Try.func23, Try.ntmps23
  go_wp2_with (go_at_call 30; refine HC.out.mono ?_; rintro e w2 ⟨rfl, ⟨A, c, l1, l2, l3, l4⟩, hb2⟩; have c2 : w2.cell? ⟨w.heap.size, 0, none⟩ = some (.slice A (listTo L a L.length).length c) := l1.cell 0; have HJ : Hid (w2.ownsRow w.heap.size 3 1 (.slice A (listTo L a L.length).length c) (listTo L a L.length).length (kInts .i64 (listTo L a L.length)) ∧ Below w.heap.size w w2) := ⟨l2, HB.out.trans hb2⟩; clear l1 l2 l3 l4 hb2)
  go_ret
  exact ⟨A, c, rfl, HJ.out.1, HJ.out.2⟩
end Go.Proofs.Ytofccgcddomcfaa
