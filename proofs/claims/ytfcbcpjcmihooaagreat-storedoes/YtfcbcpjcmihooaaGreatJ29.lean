/- Texts of this seat, one behind the other: SRRight, SgD, StDa, DkSmall. -/
import Derived.Test.YtfcbcpjcmihooaaGreatJ13
import Derived.Test.YtfcbcpjcmihooaaGreatJ17
import Derived.Test.YtfcbcpjcmihooaaGreatJ27
import Derived.Test.YtfcbcpjcmihooaaGreatJ18
import Derived.Test.YtfcbcpjcmihooaaGreatJ19
import Derived.Deep.RegionHeld3
import Derived.BigQuiet
import Derived.Test.YtfcbcpjcmihooaaGreatJ28
import Derived.Test.YtfcbcpjcmihooaaGreatJ22
import Derived.Test.YtfcbcpjcmihooaaGreatJ9
/- What one call of the document's Right does. -/
namespace Go.Proofs.YtfcbcpjcmihooaaGreat
open Go.RowKit
set_option linter.unusedVariables false
set_option maxRecDepth 4000

end Go.Proofs.YtfcbcpjcmihooaaGreat

/- What one call of the document's List, Low, New does; of SameInts. -/
namespace Go.Proofs.YtfcbcpjcmihooaaGreat
open Go.RowKit
set_option linter.unusedVariables false
set_option maxRecDepth 4000

theorem dgList_of (p g c : Nat) (s : Sh) (L : List Int) (a : Int) (w : World) (h : SegR w p g c s L) :
    Calls Tryz.prog 72 #[.pointer (some ⟨p, 0, none⟩), .int .u8 a] w fun e w' => ListGot w (listZ L a) e w' := by
  obtain ⟨N, hN⟩ : ∃ N, N = L.length := ⟨_, rfl⟩
  have c0 := h.c4
  rw [← hN] at c0
  have HS : Hid (SegR w p g c s L ∧ N = L.length) := ⟨h, hN⟩
  clear h hN
  go_enter Tryz.func72, Tryz.ntmps72
  go_wp2
  go_loopw [5, 6] (fun x i wr => ∃ (k : Nat) (A : Option Addr) (C : Nat), x = .slice A (listTo L a k).length C ∧ i = .int .i64 k ∧ k ≤ N ∧ wr.ownsRow w.heap.size 3 1 (.slice A (listTo L a k).length C) (listTo L a k).length (kInts .i64 (listTo L a k)) ∧ Below w.heap.size w wr) (fun _ i wr => N - (intOf i).toNat)
  case atStart => exact ⟨0, none, 0, rfl, rfl, Nat.zero_le _, World.ownsRow_nil _ _ _ _, Below.refl _ _⟩
  case round =>
    obtain ⟨k, A, C, rfl, rfl, hk, ow, hb⟩ := hrel
    rename World => wq
    have HI : Hid (wq.ownsRow w.heap.size 3 1 (.slice A (listTo L a k).length C) (listTo L a k).length (kInts .i64 (listTo L a k)) ∧ Below w.heap.size w wq) := ⟨ow, hb⟩
    have hs := HS.out.1.under hb
    have d0 := hs.c4
    rw [← HS.out.2] at d0
    rcases Nat.lt_or_ge k N with hlt | hge
    · have hkL : k < L.length := by rw [← HS.out.2]; exact hlt
      have c1 := hs.at hkL
      obtain ⟨X, hX⟩ : ∃ X, X = L.getD k 0 := ⟨_, rfl⟩
      rw [← hX] at c1
      have hw : IntKind.i64.wrap ((k : Int) + 1) = (k : Int) + 1 := by have := HS.out.1.len.2; have := HS.out.2; rw [IntKind.wrap_i64]; omega
      have hll := listTo_length L a k
      have hN256 : N ≤ 256 := by rw [HS.out.2]; exact HS.out.1.len.2
      have HX : Hid (X = L.getD k 0 ∧ k < N ∧ (listTo L a k).length ≤ 256 ∧ k ≤ 256) := ⟨hX, hlt, by omega, by omega⟩
      have hsz := hb.size
      have HZ : Hid (w.heap.size ≤ wq.heap.size) := hsz
      clear hX hkL hs ow hb hk hll hN256 hsz
      by_cases hq : X = a
      · have HQ : Hid (X = a) := hq
        subst hq
        obtain ⟨ys, hys⟩ : ∃ ys, ys = listTo L X k := ⟨_, rfl⟩
        rw [← hys] at HI ⊢
        have HY : Hid (ys = listTo L X k ∧ ys.length ≤ 256) := ⟨hys, by rw [hys]; exact HX.out.2.2.1⟩
        clear hys
        generalize hn : ys.length = n at HI ⊢
        have HN : Hid (ys.length = n ∧ n ≤ 256) := ⟨hn, by rw [← hn]; exact HY.out.2⟩
        clear hn
        go_wp2_with (at_builtin; refine wpList_append_nin (k := .i64) Tryz.underlying47 Tryz.zero_int (by omega) rfl (.tmp 25) (.tmp 27) rfl w.heap.size A n C _ rfl (HI.out.1.alloc _) (some ⟨wq.heap.size, 0, none⟩) 1 1 [(k : Int)] rfl (new_nin rfl rfl rfl (fun z hz => by simp at hz; subst hz; exact wfI (by have := HX.out.2.2.2; unfold F63; omega)) (by unfold maxLen; omega)) (fun h => by cases h) (by have := HN.out.2; omega) (by have := HZ.out; simp; omega) ?_; intro a2 c2 w2 ow2 bl2; have HB : Hid (w2.ownsRow w.heap.size 3 1 (.slice a2 (n + 1) c2) (n + 1) (kInts .i64 (ys ++ [(k : Int)])) ∧ Below w.heap.size w w2) := ⟨ow2, (HI.out.2.alloc HZ.out _).trans bl2⟩; clear ow2 bl2)
        go_roundw
        case rel =>
          have e1 : listTo L X (k + 1) = ys ++ [(k : Int)] := by rw [listTo_step, if_pos HX.out.1.symm, HY.out.1]
          have e2 : (ys ++ [(k : Int)]).length = n + 1 := by simp [HN.out.1]
          exact ⟨k + 1, a2, c2, by rw [e1, e2], by simp, by have := HX.out.2.1; omega, by rw [e1, e2]; exact HB.out.1, HB.out.2⟩
        case measure => have := HX.out.2.1; simp [intOf]; omega
      · have HQ : Hid (¬ X = a) := hq
        go_wp2
        go_roundw
        case rel =>
          have e1 : listTo L a (k + 1) = listTo L a k := by rw [listTo_step, if_neg (by rw [← HX.out.1]; exact HQ.out)]
          exact ⟨k + 1, A, C, by rw [e1], by simp, by have := HX.out.2.1; omega, by rw [e1]; exact HI.out.1, HI.out.2⟩
        case measure => have := HX.out.2.1; simp [intOf]; omega
    · obtain rfl : k = N := by omega
      clear hs ow hb hk
      go_wp2
      go_ret
      refine ⟨A, C, ?_, ?_, HI.out.2⟩
      · unfold listZ; rw [← HS.out.2]; rfl
      · unfold listZ; rw [← HS.out.2]; exact HI.out.1

theorem dgLow_of (p g c : Nat) (s : Sh) (L : List Int) (w : World) (h : SegR w p g c s L) :
    Calls Tryz.prog 141 #[.pointer (some ⟨p, 0, none⟩)] w fun e w' => e = .returned (.bool (lowB L s.r)) ∧ Below w.heap.size w w' := by
  have c3 := h.c3
  have HS : Hid (SegR w.drew p g c s L ∧ Below w.heap.size w w.drew) := ⟨h.drew, (Below.refl _ _).drew⟩
  obtain ⟨K, hK⟩ : ∃ K, K = (listZ L 1).length := ⟨_, rfl⟩
  have HL : Hid (∀ X, SegR X p g c s L → Calls Tryz.prog 72 #[.pointer (some ⟨p, 0, none⟩), .int .u8 1] X fun e w' => ∃ A c, e = .returned (.slice A K c) ∧ Below X.heap.size X w') := fun X hX => by
    refine (dgList_of p g c s L 1 X hX).mono ?_
    rintro e w' ⟨A, c, h1, _, h3⟩
    exact ⟨A, c, by rw [hK]; exact h1, h3⟩
  have HK : Hid (lowB L s.r = decide ((K : Int) ≤ s.r)) := show _ = _ by rw [hK]; rfl
  clear hK h
  go_enter Tryz.func141, Tryz.ntmps141
  go_wp2_with fail
  go_region_held3 (fun X => X.cell? ⟨p, 3, none⟩ = some (.int .i64 s.r)) (first | exact c3 | exact d3)
    ((go_at_call 72; refine (HL.out _ HS.out.1).mono ?_; rintro e w2 ⟨A2, c2, rfl, hb2⟩; have HS2 : Hid (Below w.heap.size w w2) := HS.out.2.trans (hb2.mono HS.out.2.size); have d3 := (HS.out.1.under hb2).c3; clear hb2))
  go_wp2
  go_ret
  exact ⟨by rw [HK.out]; rfl, HS2.out⟩
end Go.Proofs.YtfcbcpjcmihooaaGreat

/- What one call of open and many of the document's store does. -/
namespace Go.Proofs.YtfcbcpjcmihooaaGreat
open Go.RowKit
set_option linter.unusedVariables false
set_option maxRecDepth 4000
section
variable {D M : Nat → Prop} {W : World} {k : Rs} {st : St}
set_option maxHeartbeats 1000000 in
theorem dsopen_of (h : SdV D M W k st) : Calls Tryz.prog 134 #[.pointer (some ⟨k.ps, 0, none⟩)] W fun e w' => e = .returned (.tuple #[.int .i64 (curA st.L), .bool (curB st.L)]) ∧ Sd (SdO D M k) W k { st with L := curL st.L } w' := by
  obtain ⟨_, c1, _⟩ := h.cells
  have hg := dgList_of k.pg k.gg k.gc st.s st.L 2 W h.sg
  have H : Hid (SdV D M W k st) := h
  cases hl : listZ st.L 2 with
  | cons z r =>
    have HA : Hid (curA st.L = z ∧ curB st.L = true ∧ curL st.L = st.L) := by unfold curA curB curL; rw [hl]; exact ⟨rfl, rfl, rfl⟩
    rw [hl] at hg
    have HG : Hid (Calls Tryz.prog 72 #[.pointer (some ⟨k.pg, 0, none⟩), .int .u8 2] W fun e w' => ∃ g cc, e = .returned (.slice (some ⟨g, 0, none⟩) (r.length + 1) cc) ∧ w'.cell? ⟨g, 0, none⟩ = some (.int .i64 z) ∧ Below W.heap.size W w') := by
      refine hg.mono ?_
      rintro e w' ⟨A, cc, rfl, ow, bl⟩
      obtain ⟨g, rfl, hc⟩ := own_first (v := .int .i64 z) (vs := kInts .i64 r) ow
      exact ⟨g, cc, rfl, hc, bl⟩
    clear h hg hl
    go_enter Tryz.func134, Tryz.ntmps134
    go_wp2_with (go_at_call 72; refine HG.out.mono ?_; rintro e w2 ⟨g, cc, rfl, x0, bl⟩)
    go_ret2
    rw [HA.out.1, HA.out.2.1, HA.out.2.2]
    exact ⟨rfl, (Sd.start H.out).under bl⟩
  | nil =>
    have HA : Hid (curA st.L = takeI st.L ∧ curB st.L = takeB st.L ∧ curL st.L = takeZ st.L) := by unfold curA curB curL; rw [hl]; exact ⟨rfl, rfl, rfl⟩
    rw [hl] at hg
    have HG : Hid (Calls Tryz.prog 72 #[.pointer (some ⟨k.pg, 0, none⟩), .int .u8 2] W fun e w' => ∃ A cc, e = .returned (.slice A 0 cc) ∧ w'.cell? ⟨k.ps, 1, none⟩ = some (.pointer (some ⟨k.pg, 0, none⟩)) ∧ Calls Tryz.prog 180 #[.pointer (some ⟨k.pg, 0, none⟩)] w' fun e w'' => e = .returned (.tuple #[.int .i64 (takeI st.L), .bool (takeB st.L)]) ∧ Sd (SdO D M k) W k { st with L := takeZ st.L } w'') := by
      refine hg.mono ?_
      rintro e w' ⟨A, cc, rfl, ow, bl⟩
      have hs := h.under bl
      refine ⟨A, cc, rfl, hs.cells.2.1, (dgTake_of k.pg k.gg k.gc st.s st.L w' hs.sg).mono ?_⟩
      rintro e w'' ⟨rfl, h1, h2⟩
      exact ⟨rfl, (hs.sgstep h1 h2 (takeZ_length _)).from bl⟩
    clear h hg hl
    go_enter Tryz.func134, Tryz.ntmps134
    go_wp2_with (first
      | (go_at_call 72; refine HG.out.mono ?_; rintro e w2 ⟨A, cc, rfl, x1, ht⟩)
      | (go_at_call 180; refine ht.mono ?_; rintro e w3 ⟨rfl, sv⟩))
    go_ret2
    rw [HA.out.1, HA.out.2.1, HA.out.2.2]
    exact ⟨rfl, sv⟩
set_option maxHeartbeats 2000000 in
theorem dsmany_of (h : SdV D M W k st) (a : Option Addr) (n cc : Nat) (l : List Pt) (X : Nat → Prop) (r : Int) (hl : PtsIn X W a n l) (hr : 0 ≤ r ∧ r ≤ 10000) : Calls Tryz.prog 137 #[.pointer (some ⟨k.ps, 0, none⟩), .slice a n cc, .int .i64 r] W fun e w' => e = .returned (.int .i64 (frN l (roomI st.s.b).toNat (r - 1) : Nat)) ∧ w' = W := by
  have hn : n ≤ 1000 := hl.2.1
  obtain ⟨c0, _⟩ := h.cells
  obtain ⟨_, _, d2, _⟩ := h.dcells
  obtain ⟨R, hR⟩ : ∃ R : Nat, (R : Int) = roomI st.s.b := ⟨(roomI st.s.b).toNat, by
    have : 0 ≤ roomI st.s.b := by
      unfold roomI
      split
      · rename_i hb; have := pow_bounds hb; omega
      · omega
    omega⟩
  have hrm := dRoom_of st.s.b
  rw [← hR] at hrm
  rw [show (roomI st.s.b).toNat = R by omega]
  have H : Hid (PtsIn X W a n l) := hl
  clear h hl hR
  go_enter Tryz.func137, Tryz.ntmps137
  go_wp2
  go_loopw [7, 8] (fun dv nv wr => ∃ (j : Nat) (d : Nat), nv = .int .i64 j ∧ dv = .int .i64 d ∧ d ≤ j ∧ j ≤ n ∧ j ≤ R ∧ frN l R (r - 1) = j + frN (l.drop j) (R - j) (r - 1 - d) ∧ wr = W) (fun _ nv _ => n - (intOf nv).toNat)
  case atStart => exact ⟨0, 0, rfl, rfl, Nat.le_refl _, Nat.zero_le _, Nat.zero_le _, by simp, rfl⟩
  case round =>
    obtain ⟨j, d, rfl, rfl, hdj, hjn, hjR, hf, rfl⟩ := hrel
    have HF : Hid (frN l R (r - 1) = j + frN (l.drop j) (R - j) (r - 1 - d)) := hf
    clear hf
    by_cases hlt : j < n
    · have hlt' : (j : Int) < n := by omega
      by_cases hltR : j < R
      · have hltR' : (j : Int) < R := by omega
        obtain ⟨p, b, off, hp, rfl, hb, A, L, C, hc, _⟩ := H.out.at X hlt
        have x2 : wr.cell? ⟨b, off + j * 4 + 2, none⟩ = some (.bool p.x) := hc 2 _ rfl
        have hstep := frN_step (d := r - 1 - d) hp hltR
        have hwk : IntKind.i64.wrap ((j : Int) + 1) = (j : Int) + 1 := by rw [IntKind.wrap_i64]; omega
        have hwd : IntKind.i64.wrap ((d : Int) + 1) = (d : Int) + 1 := by rw [IntKind.wrap_i64]; omega
        have hwd2 : IntKind.i64.wrap ((d : Int) + 2) = (d : Int) + 2 := by rw [IntKind.wrap_i64]; omega
        clear hc
        cases hx : p.x with
        | true =>
          rw [hx, if_pos rfl] at hstep
          have HF2 : Hid (frN l R (r - 1) = (j + 1) + frN (l.drop (j + 1)) (R - (j + 1)) (r - 1 - d)) := by have := HF.out; rw [hstep] at this; exact (by omega : frN l R (r - 1) = (j + 1) + frN (l.drop (j + 1)) (R - (j + 1)) (r - 1 - d))
          rw [hx] at x2
          clear hx hstep hp
          go_wp2_with (go_at_call 181; refine (hrm _).mono ?_; rintro e w2 ⟨rfl, rfl⟩)
          go_roundw
          case rel => exact ⟨j + 1, d, by simp, rfl, by omega, by omega, by omega, HF2.out, trivial⟩
          case measure => simp [intOf]; omega
        | false =>
          rw [hx, if_neg (by decide)] at hstep
          rw [hx] at x2
          clear hx hp
          rcases Int.lt_or_le r ((d : Int) + 2) with hd0 | hd0
          · rw [if_neg (by omega)] at hstep
            have HF2 : Hid (frN l R (r - 1) = j) := by have := HF.out; rw [hstep] at this; exact this
            clear hstep
            go_wp2_with (go_at_call 181; refine (hrm _).mono ?_; rintro e w2 ⟨rfl, rfl⟩)
            first | go_ret | (rw [Exit.noGoto_ret]; go_ret)
            exact ⟨by rw [HF2.out]; rfl, rfl⟩
          · rw [if_pos (by omega)] at hstep
            have HF2 : Hid (frN l R (r - 1) = (j + 1) + frN (l.drop (j + 1)) (R - (j + 1)) (r - 1 - ((d + 1 : Nat) : Int))) := by have := HF.out; rw [hstep] at this; rw [show r - 1 - ((d + 1 : Nat) : Int) = r - 1 - d - 1 by omega]; exact (by omega : frN l R (r - 1) = (j + 1) + frN (l.drop (j + 1)) (R - (j + 1)) (r - 1 - d - 1))
            have hd0' : ¬ r < (d : Int) + 2 := by omega
            clear hstep
            go_wp2_with (go_at_call 181; refine (hrm _).mono ?_; rintro e w2 ⟨rfl, rfl⟩)
            go_roundw
            case rel => exact ⟨j + 1, d + 1, by simp, by simp, by omega, by omega, by omega, HF2.out, trivial⟩
            case measure => simp [intOf]; omega
      · have hge : ¬ (j : Int) < R := by omega
        have HF2 : Hid (frN l R (r - 1) = j) := by have := HF.out; rw [frN_end H.out.1 (by omega)] at this; exact this
        go_wp2_with (go_at_call 181; refine (hrm _).mono ?_; rintro e w2 ⟨rfl, rfl⟩)
        first | go_ret | (rw [Exit.noGoto_ret]; go_ret)
        exact ⟨by rw [HF2.out]; rfl, rfl⟩
    · have hge : ¬ (j : Int) < n := by omega
      have HF2 : Hid (frN l R (r - 1) = j) := by have := HF.out; rw [frN_end H.out.1 (by omega)] at this; exact this
      go_wp2
      first | go_ret | (rw [Exit.noGoto_ret]; go_ret)
      exact ⟨by rw [HF2.out]; rfl, rfl⟩
end
end Go.Proofs.YtfcbcpjcmihooaaGreat

/- What one call of the document's own Room and rises does. -/
namespace Go.Proofs.YtfcbcpjcmihooaaGreat
open Go.RowKit
set_option linter.unusedVariables false
set_option maxRecDepth 4000

set_option maxHeartbeats 1000000 in
theorem dkRoom_of (b : Int) (w : World) : Calls Tryz.prog 149 #[.int .i64 b] w fun e w' => e = .returned (.int .i64 (roomK b)) ∧ w' = w := by
  obtain ⟨R, hR⟩ : ∃ R, R = roomK b := ⟨_, rfl⟩
  rw [← hR]
  have HR : Hid (R = roomK b) := hR
  clear hR
  go_enter Tryz.func149, Tryz.ntmps149
  go_wp2
  go_loopw [3] (fun x wr => ∃ k : Nat, x = .int .i64 (pwR k) ∧ k ≤ 7 ∧ wr = w ∧ ∀ j, j < k → b ≠ pwR j) (fun x _ => (4097 - intOf x).toNat)
  case atStart => exact ⟨0, rfl, by omega, rfl, by simp⟩
  case round =>
    obtain ⟨k, rfl, hk, rfl, hno⟩ := hrel
    rcases Nat.lt_or_ge k 7 with hlt | hge
    · obtain ⟨_, p1, p2, p3⟩ := pwR_at ⟨k, hlt⟩
      dsimp only at p1 p2 p3
      obtain ⟨P, hP⟩ : ∃ P, P = pwR k := ⟨_, rfl⟩
      have HP : Hid (P = pwR k ∧ pwR (k + 1) = 2 * pwR k ∧ ∀ j, j < k → b ≠ pwR j) := ⟨hP, p3, hno⟩
      rw [← hP] at p1 p2 ⊢
      have hw : IntKind.i64.wrap (2 * P) = 2 * P := by rw [IntKind.wrap_i64]; omega
      clear hP p3 hno
      by_cases hb : P = b
      · have hf : R = (b - 27) / 16 := by rw [HR.out]; unfold roomK; rw [if_pos (pwR_mem.2 ⟨k, hlt, by rw [← HP.out.1, hb]⟩)]
        have hw2 : IntKind.i64.wrap (b - 27) = b - 27 := by rw [IntKind.wrap_i64]; omega
        clear HR HP hw
        subst hb
        subst hf
        go_wp2
        go_ret
        exact ⟨rfl, rfl⟩
      · have hb' : (P == b) = false := by simp [hb]
        have HN : Hid (P ≠ b) := hb
        clear hb
        go_wp2
        go_roundw
        case rel =>
          refine ⟨k + 1, by rw [HP.out.2.1, ← HP.out.1], by omega, by first | rfl | trivial, fun j hj => ?_⟩
          rcases Nat.lt_or_ge j k with h | h
          · exact HP.out.2.2 j h
          · obtain rfl : j = k := by omega
            exact fun e => HN.out (by rw [HP.out.1, e])
        case measure => simp [intOf]; omega
    · obtain rfl : k = 7 := by omega
      have hf : R = 0 := by
        rw [HR.out]; unfold roomK; rw [if_neg]; intro h; obtain ⟨j, hj, e⟩ := pwR_mem.1 h; exact hno j hj e
      have hp : pwR 7 = 8192 := by decide
      rw [hp]
      clear HR hno
      subst hf
      go_wp2
      go_ret
      exact ⟨rfl, rfl⟩
theorem kin_place {w : World} {a : Option Addr} {n : Nat} {xs : List Pl} (h : KIn w a n xs) {i : Nat} (hi : i < n) : ∃ b off x, a = some ⟨b, off, none⟩ ∧ xs[i]? = some x ∧ w.cell? ⟨b, off + i * 4, none⟩ = some (.int .u32 x.1.1) ∧ w.cell? ⟨b, off + i * 4 + 1, none⟩ = some (.int .u64 x.1.2) ∧ w.cell? ⟨b, off + i * 4 + 2, none⟩ = some (.int .i64 x.2.1) ∧ w.cell? ⟨b, off + i * 4 + 3, none⟩ = some (.int .i64 x.2.2) := by
  obtain ⟨x, hx⟩ : ∃ x, xs[i]? = some x := ⟨xs[i]'(by have := h.1; omega), by simp⟩
  obtain ⟨b, off, ha, hc⟩ := h.2.2.2.resolve_left (by omega)
  exact ⟨b, off, x, ha, hx, hc i x hx 0 _ rfl, hc i x hx 1 _ rfl, hc i x hx 2 _ rfl, hc i x hx 3 _ rfl⟩
/-- The first i places rise. -/
def UpR (ps : List Pl) (i : Nat) : Prop := ∀ k p q, k + 1 < i → ps[k]? = some p → ps[k + 1]? = some q → ltP p.1 q.1 = true
theorem UpR.next {ps : List Pl} {i : Nat} {o x : Pl} (h : UpR ps (i + 1)) (ho : ps[i]? = some o) (hx : ps[i + 1]? = some x) (hl : ltP o.1 x.1 = true) : UpR ps (i + 2) := by
  intro k p q hk hp hq
  rcases Nat.lt_or_ge (k + 1) (i + 1) with h' | h'
  · exact h k p q h' hp hq
  · obtain rfl : k = i := by omega
    rw [ho] at hp; rw [hx] at hq; cases hp; cases hq
    exact hl
set_option maxHeartbeats 1000000 in
theorem dkRises_of (A : Option Addr) (n C : Nat) (ps : List Pl) (w : World) (hk : KIn w A n ps) : Calls Tryz.prog 148 #[.slice A n C] w fun e w' => ∃ b : Bool, e = .returned (.bool b) ∧ (b = true ↔ Rises ps) ∧ Below w.heap.size w w' := by
  have H : Hid (KIn w A n ps) := hk
  have hm : n ≤ 9223372036854775807 := by have := hk.2.1; unfold maxLen at this; omega
  clear hk
  go_enter Tryz.func148, Tryz.ntmps148
  go_wp2
  go_loopw [3] (fun x wr => ∃ i : Nat, x = .int .i64 i ∧ 1 ≤ i ∧ (i ≤ n ∨ i = 1) ∧ Below w.heap.size w wr ∧ UpR ps i) (fun x _ => n - (intOf x).toNat)
  case atStart => exact ⟨1, rfl, Nat.le_refl _, .inr rfl, Below.refl _ _, fun k p q h => by omega⟩
  case round =>
    obtain ⟨i, rfl, h1, hi, bl, hup⟩ := hrel
    rcases Nat.lt_or_ge i n with hlt | hge
    · obtain ⟨j, hj⟩ : ∃ j, i = j + 1 := ⟨i - 1, by omega⟩
      obtain ⟨b', off, x, hA, hx, d0, d1, d2, d3⟩ := kin_place (H.out.below bl) hlt
      obtain ⟨b2, off2, o, hA2, ho, p0, p1, p2, p3⟩ := kin_place (H.out.below bl) (i := j) (by omega)
      subst hA
      cases hA2
      have hi' : (i : Int) < n := by omega
      have hjn : (j : Int) < n := by omega
      have hwj : IntKind.i64.wrap ((i : Int) - 1) = (j : Int) := by rw [IntKind.wrap_i64]; omega
      have hwi : IntKind.i64.wrap ((i : Int) + 1) = (i : Int) + 1 := by rw [IntKind.wrap_i64]; omega
      have HX : Hid (ps[j]? = some o ∧ ps[i]? = some x ∧ i = j + 1 ∧ Below w.heap.size w wr ∧ UpR ps i) := ⟨ho, hx, hj, bl, hup⟩
      clear ho hx hj bl hup
      obtain ⟨qi, hqi⟩ : ∃ qi, qi = wr.heap.size := ⟨_, rfl⟩
      have HA : Hid (Blk (wr.alloc (.cells #[.int .u32 o.1.1, .int .u64 o.1.2, .int .i64 o.2.1, .int .i64 o.2.2] 62)) qi (plL o) 62 ∧ Below w.heap.size w (wr.alloc (.cells #[.int .u32 o.1.1, .int .u64 o.1.2, .int .i64 o.2.1, .int .i64 o.2.2] 62))) := ⟨Blk.new' hqi.symm rfl, HX.out.2.2.2.1.alloc HX.out.2.2.2.1.size _⟩
      go_upto_region 5 with fail
      rw [← hqi]
      generalize World.alloc wr _ = W1 at HA ⊢
      clear d0 d1 d2 d3 p0 p1 p2 p3 hqi
      obtain ⟨b3, off3, x3, hA3, hx3, d0, d1, d2, d3⟩ := kin_place (H.out.below HA.out.2) hlt
      cases hA3
      obtain rfl : x3 = x := by rw [HX.out.2.1] at hx3; exact (Option.some.inj hx3).symm
      clear hx3
      obtain ⟨qj, hqj⟩ : ∃ qj, qj = W1.heap.size := ⟨_, rfl⟩
      have HB : Hid (Blk (W1.alloc (.cells #[.int .u32 x3.1.1, .int .u64 x3.1.2, .int .i64 x3.2.1, .int .i64 x3.2.2] 62)) qi (plL o) 62 ∧ Blk (W1.alloc (.cells #[.int .u32 x3.1.1, .int .u64 x3.1.2, .int .i64 x3.2.1, .int .i64 x3.2.2] 62)) qj (plL x3) 62 ∧ Below w.heap.size w (W1.alloc (.cells #[.int .u32 x3.1.1, .int .u64 x3.1.2, .int .i64 x3.2.1, .int .i64 x3.2.2] 62))) := ⟨HA.out.1.alloc _, Blk.new' hqj.symm rfl, HA.out.2.alloc HA.out.2.size _⟩
      go_upto_region 6 with fail
      rw [← hqj]
      generalize World.alloc W1 _ = W2 at HB ⊢
      clear d0 d1 d2 d3 hqj HA
      have k0 : W2.cell? ⟨qi, 0, none⟩ = some (.int .u32 o.1.1) := HB.out.1.cell 0
      have k1 : W2.cell? ⟨qi, 1, none⟩ = some (.int .u64 o.1.2) := HB.out.1.cell 1
      have g0 : W2.cell? ⟨qj, 0, none⟩ = some (.int .u32 x3.1.1) := HB.out.2.1.cell 0
      have g1 : W2.cell? ⟨qj, 1, none⟩ = some (.int .u64 x3.1.2) := HB.out.2.1.cell 1
      have hno : Hid (ltP o.1 x3.1 = false → ¬ Rises ps) := by
        intro h hr
        have := hr j o x3 HX.out.1 (by rw [← HX.out.2.2.1]; exact HX.out.2.1)
        rw [h] at this; cases this
      have hyes : Hid (ltP o.1 x3.1 = true → UpR ps (i + 1)) := by
        intro h
        have h1 := HX.out
        obtain ⟨e1, e2, rfl, _, e5⟩ := h1
        exact e5.next e1 e2 h
      by_cases t1 : x3.1.1 < o.1.1
      · have f1 : decide (x3.1.1 < o.1.1) = true := by simp [t1]
        have HN : Hid (¬ Rises ps) := hno.out (by unfold ltP; simp; omega)
        clear t1 hno hyes
        go_wp2
        go_ret
        exact ⟨false, rfl, by simp [HN.out], HB.out.2.2⟩
      have f1 : decide (x3.1.1 < o.1.1) = false := by simp; omega
      by_cases t2 : o.1.1 = x3.1.1
      · have f2 : (o.1.1 == x3.1.1) = true := by simp [t2]
        by_cases t3 : x3.1.2 ≤ o.1.2
        · have f3 : decide (x3.1.2 ≤ o.1.2) = true := by simp [t3]
          have HN : Hid (¬ Rises ps) := hno.out (by unfold ltP; simp; omega)
          clear t1 t2 t3 hno hyes
          go_wp2
          go_ret
          exact ⟨false, rfl, by simp [HN.out], HB.out.2.2⟩
        · have f3 : decide (x3.1.2 ≤ o.1.2) = false := by simp; omega
          have HN : Hid (UpR ps (i + 1)) := hyes.out (by unfold ltP; simp; omega)
          clear t1 t2 t3 hno hyes
          go_wp2
          go_roundw
          case rel => exact ⟨i + 1, by simp, by omega, .inl (by omega), HB.out.2.2, HN.out⟩
          case measure => simp [intOf]; omega
      · have f2 : (o.1.1 == x3.1.1) = false := by simp [t2]
        have HN : Hid (UpR ps (i + 1)) := hyes.out (by unfold ltP; simp; omega)
        clear t1 t2 hno hyes
        go_wp2
        go_roundw
        case rel => exact ⟨i + 1, by simp, by omega, .inl (by omega), HB.out.2.2, HN.out⟩
        case measure => simp [intOf]; omega
    · have hi' : ¬ (i : Int) < n := by omega
      have HN : Hid (Rises ps ∧ Below w.heap.size w wr) := by
        refine ⟨fun k p q hp hq => hup k p q ?_ hp hq, bl⟩
        have := (List.getElem?_eq_some_iff.1 hq).1
        rw [H.out.1] at this
        omega
      clear bl hup
      go_wp2
      go_ret
      exact .inr ⟨rfl, HN.out.1, HN.out.2⟩
end Go.Proofs.YtfcbcpjcmihooaaGreat
