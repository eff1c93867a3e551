/- What one call of spell's Write does. -/
import Derived.Test.YtpliokkmiijieaaDoorSpBlk
import Derived.OwnWalk
namespace Go.Proofs.YtpliokkmiijieaaDoor
open Go.RowKit
set_option linter.unusedVariables false
set_option maxRecDepth 4000

/-- A row that the call made full is a block known whole. -/
theorem own_blk {w : World} {base g n : Nat} {L : List Value} (h : w.ownsRow base 5 1 (.slice (some ⟨g, 0, none⟩) n n) n L) : Blk w g L 5 := by
  have hl := h.1
  rcases h.2 with ⟨hv, _⟩ | ⟨g', cap, cur, hv, hb, hg, hc, hcm, hsz, htake⟩
  · cases hv
  · cases hv
    unfold Blk
    rw [hg]
    have e : cur.toList = L := by
      rw [← htake, List.take_of_length_le (by simp; omega)]
    rw [← e]
theorem made_zero (n : Nat) : (madeCells (Value.int .u8 0).cells (n * 1)).toList = u8s (List.replicate n 0) := by
  apply List.ext_getElem
  · simp [madeCells, u8s]
  · intro i h1 h2
    simp [madeCells, u8s, Value.cells, show i % 1 = 0 by omega]
def wrN (xs : List Int) (i : Nat) : List Int := (wrI xs).take i ++ List.replicate (scN xs.length - i) 0
theorem wrN_length (xs : List Int) {i : Nat} (hi : i ≤ scN xs.length) : (wrN xs i).length = scN xs.length := by
  simp [wrN, wrI_length]; omega
theorem wrN_next (xs : List Int) {i : Nat} (hi : i < scN xs.length) : (wrN xs i).set i (signI (sumB (bitOf 8 xs) (5 * i) 5)) = wrN xs (i + 1) := by
  have hl : i < (wrI xs).length := by rw [wrI_length]; exact hi
  have e : (wrI xs)[i] = signI (sumB (bitOf 8 xs) (5 * i) 5) := by
    have := wrI_at xs i hi
    simpa [List.getD, hl] using this
  have e2 : scN xs.length - i = (scN xs.length - (i + 1)) + 1 := by omega
  unfold wrN
  rw [List.take_succ_eq_append_getElem hl, e, e2, List.replicate_succ, List.set_append_right _ _ (by rw [List.length_take]; omega), List.length_take, Nat.min_eq_left (by omega), Nat.sub_self]
  simp
theorem wrN_all (xs : List Int) : wrN xs (scN xs.length) = wrI xs := by
  unfold wrN
  rw [List.take_of_length_le (by rw [wrI_length]; exact Nat.le_refl _), Nat.sub_self]
  simp
theorem u8s_set (L : List Int) (i : Nat) (z : Int) : (u8s L).set i (.int .u8 z) = u8s (L.set i z) := by simp [u8s]
theorem wr_cell {w : World} {g i : Nat} {L : List Int} (h : Blk w g (u8s L) 5) (hi : i < L.length) : w.cell? ⟨g, i, none⟩ = some (.int .u8 (L.getD i 0)) := by
  rw [h.cell]; simp [u8s, List.getD, hi]
theorem blk_bin {w : World} {g n : Nat} {L : List Int} (h : Blk w g (u8s L) 5) (hl : L.length = n) (hm : n ≤ maxLen) (hf : ∀ z ∈ L, Fits8 z) : BIn w (some ⟨g, 0, none⟩) n L :=
  ⟨hl, hm, hf, .inr ⟨g, 0, rfl, fun i hi => by rw [Nat.zero_add]; exact wr_cell h (by omega)⟩⟩

set_option maxHeartbeats 1000000 in
theorem spWrite_of (a : Option Addr) (n c : Nat) (xs : List Int) (w : World) (h : BIn w a n xs) (hn : n ≤ 100000) :
    Calls Tryd.prog 25 #[.slice a n c] w fun e w' => e = .returned (.string (strOfNums (wrI xs))) ∧ Below w.heap.size w w' := by
  obtain ⟨i0, hi0, hz0, hz1, hz2⟩ := info_parts Tryd.zero_u8
  obtain ⟨q, hq⟩ : ∃ q, q = w.heap.size := ⟨_, rfl⟩
  obtain ⟨m, hm⟩ : ∃ m, m = scN n := ⟨_, rfl⟩
  have hmb : m ≤ 200000 := by rw [hm]; unfold scN; omega
  have H : Hid (BIn w a n xs ∧ q = w.heap.size ∧ m = scN n ∧ Tryd.prog.info? 5 = some i0 ∧ i0.zero = some (.int .u8 0) ∧ i0.size = 1 ∧ i0.bytes = 1) := ⟨h, hq, hm, hi0, hz0, hz1, hz2⟩
  have cS := signCount_of n w (by omega)
  rw [← hm] at cS
  rw [← hq]
  clear h hi0 hz0 hz1 hz2 hm
  go_enter Tryd.func25, Tryd.ntmps25
  go_upto_region 2 with (first
    | (go_at_call 43; refine cS.mono ?_; rintro e w ⟨rfl, rfl⟩)
    | (refine wpList_make_full w rfl (.tmp 7) (.tmp 7) 22 rfl q 5 i0 (.int .u8 0) 1 Tryd.underlying22 H.out.2.2.2.1 H.out.2.2.2.2.1 H.out.2.2.2.2.2.1 .i64 .i64 m m m rfl rfl rfl rfl (by rw [H.out.2.2.2.2.2.2]; omega) (by unfold maxLen; omega) (by rw [H.out.2.1]; exact Nat.le_refl _) ?_; intro w1 ow1 gr1))
  have b1 := own_blk ow1
  rw [made_zero] at b1
  have bl1 : Below q w w1 := (Below.refl _ _).grown gr1 (by rw [H.out.2.1]; exact Nat.le_refl _) (fun g hg => by cases hg)
  have hx1 : BIn w1 a n xs := H.out.1.below (by rw [← H.out.2.1]; exact bl1)
  rw [← hq] at b1 ⊢
  have H1 : Hid (BIn w1 a n xs ∧ Blk w1 q (u8s (List.replicate m 0)) 5 ∧ Below q w w1) := ⟨hx1, b1, bl1⟩
  clear ow1 gr1 b1 bl1 hx1 cS hq
  have hml : (wrI xs).length = m := by rw [wrI_length, H.out.1.1, H.out.2.2.1]
  have HL : Hid ((wrI xs).length = m ∧ scN xs.length = m) := ⟨hml, by rw [H.out.1.1, H.out.2.2.1]⟩
  clear hml
  go_wp2
  go_loopw [11] (fun i wr => ∃ k : Nat, k ≤ m ∧ i = .int .i64 k ∧ Blk wr q (u8s (wrN xs k)) 5 ∧ Below q w wr)
    (fun i _ => m - (intOf i).toNat)
  case atStart => exact ⟨0, by omega, rfl, by have := H1.out.2.1; unfold wrN; rw [HL.out.2]; simpa using this, H1.out.2.2⟩
  case round =>
    obtain ⟨k, hk, rfl, b1, bl⟩ := hrel
    by_cases hlt : k < m
    · have hlt' : (k : Int) < m := by omega
      have HB : Hid (Blk wr q (u8s (wrN xs k)) 5 ∧ Below q w wr) := ⟨b1, bl⟩
      have hbw : BIn wr a n xs := H.out.1.below (by rw [← H.out.2.1]; exact bl)
      have cB := bitsAt_of a n c xs wr hbw (by omega) (5 * k) (by have := H.out.2.2.1; unfold scN at this; omega) ((k : Int) * 5) (by omega)
      have cG := signOf_of (sumB (bitOf 8 xs) (5 * k) 5) wr (sumB_nonneg (bitOf_bit _ _) _ _) (sumB_lt (bitOf_bit _ _) _ _)
      have hc : wr.cell? ⟨q, k, none⟩ = some (.int .u8 ((wrN xs k).getD k 0)) := wr_cell b1 (by rw [wrN_length xs (by rw [HL.out.2]; exact hk), HL.out.2]; exact hlt)
      have hz := b1.frozen k
      clear b1 bl hbw
      go_wp2_with (first
        | (go_at_call 45; refine cB.mono ?_; rintro e wr ⟨rfl, rfl⟩)
        | (go_at_call 44; refine cG.mono ?_; rintro e wr ⟨rfl, rfl⟩))
      go_roundw
      case rel =>
        refine ⟨k + 1, by omega, by go_num, ?_, HB.out.2.setCell (Nat.le_refl _) _⟩
        have := HB.out.1.set k (.int .u8 (signI (sumB (bitOf 8 xs) (5 * k) 5)))
        rw [u8s_set, wrN_next xs (by rw [HL.out.2]; exact hlt)] at this
        exact this
      case measure => simp [intOf]; omega
    · have hge : (m : Int) ≤ k := by omega
      have hkm : k = m := by omega
      have e : wrN xs k = wrI xs := by rw [hkm, ← HL.out.2]; exact wrN_all xs
      rw [e] at b1
      have hb := blk_bin b1 HL.out.1 (by unfold maxLen; omega) (wrI_fits xs)
      have hs := str_of wr (some ⟨q, 0, none⟩) m m (wrI xs) hb
      have HB : Hid (Below q w wr) := bl
      clear b1 bl e hkm hb
      go_wp2
      go_ret
      exact ⟨rfl, HB.out⟩
end Go.Proofs.YtpliokkmiijieaaDoor
