/- What one call of greet's asked does: the numbers of two bytes that bytes are. -/
import Derived.Test.YtkegpgmmlmineaaGRefNext
import Derived.Laws.OwnMore
namespace Go.Proofs.Ytkegpgmmlmineaa
open Go.RowKit
set_option linter.unusedVariables false
set_option maxRecDepth 4000

theorem Try.zero_u16 : (Try.prog.info? 24).map (fun i => (i.zero, i.size, i.bytes)) = some (some (.int .u16 0), 1, 2) := by kernel_rfl
theorem Try.zero_int : (Try.prog.info? 3).map (fun i => (i.zero, i.size, i.bytes)) = some (some (.int .i64 0), 1, 8) := by kernel_rfl
/-- A row of widths, of which the first j are two. -/
def twos (m j : Nat) : List Int := List.replicate j 2 ++ List.replicate (m - j) 0
theorem twos_length {m j : Nat} (h : j ≤ m) : (twos m j).length = m := by simp [twos]; omega
theorem twos_next {m j : Nat} (h : j < m) : (twos m j).set j 2 = twos m (j + 1) := by
  obtain ⟨d, rfl⟩ : ∃ d, m = j + (d + 1) := ⟨m - j - 1, by omega⟩
  unfold twos
  rw [List.set_append_right _ _ (by simp)]
  have e1 : j + (d + 1) - j = d + 1 := by omega
  have e2 : j + (d + 1) - (j + 1) = d := by omega
  rw [e1, e2, List.replicate_succ, List.replicate_succ']
  simp
theorem kInts_set (k : IntKind) (L : List Int) (i : Nat) (v : Int) : (kInts k L).set i (.int k v) = kInts k (L.set i v) := by simp [kInts, List.map_set]
theorem blk_nin {k : IntKind} {t : TypeId} {w : World} {g n : Nat} {L : List Int} (h : Blk w g (kInts k L) t) (hn : L.length = n) (hm : n ≤ maxLen) (hf : ∀ z ∈ L, (Lit.int k z).wf = true) : NIn k w (some ⟨g, 0, none⟩) n L := by
  refine ⟨hn, hm, hf, .inr ⟨g, 0, rfl, fun i hi => ?_⟩⟩
  rw [Nat.zero_add, h.cell i]
  simp [kInts, List.getD, hn, hi]
theorem blk_at {k : IntKind} {t : TypeId} {w : World} {g : Nat} {L : List Int} (h : Blk w g (kInts k L) t) {i : Nat} (hi : i < L.length) : w.cell? ⟨g, i, none⟩ = some (.int k (L.getD i 0)) := by
  rw [h.cell i]
  simp [kInts, List.getD, hi]
theorem made_blk (t : TypeId) (n : Nat) (w : World) : Blk (w.alloc (.cells (madeCells #[.int .i64 0] n) t)) w.heap.size (kInts .i64 (twos n 0)) t := by
  refine Blk.new' rfl ?_
  apply Array.ext'
  rw [toList_madeCells_one]
  simp [twos, kInts]
theorem twos_all (m : Nat) : twos m m = List.replicate m 2 := by simp [twos]
theorem rep_wf (m : Nat) : ∀ z ∈ List.replicate m (2 : Int), (Lit.int .i64 z).wf = true := by
  intro z hz
  rw [(List.mem_replicate.1 hz).2]
  decide

set_option maxHeartbeats 1000000 in
theorem lasked_of (a : Option Addr) (n c : Nat) (ys : List Int) (w : World) (hx : BIn w a n ys) (hnil : a = none → n = 0 ∧ c = 0) (hnc : n ≤ c) (hn : n ≤ 100000) :
    Calls Try.prog 31 #[.slice a n c] w fun e w' => ∃ A k C, e = .returned (.slice A k C) ∧ w'.ownsRow w.heap.size 24 1 (.slice A k C) k (kInts .u16 (pairs ys)) ∧ Below w.heap.size w w' := by
  obtain ⟨i1, hi1, hz10, hz11, hz12⟩ := info_parts Try.zero_u16
  obtain ⟨q, hq⟩ : ∃ q, q = w.heap.size := ⟨_, rfl⟩
  obtain ⟨m, hm⟩ : ∃ m, m = n / 2 := ⟨_, rfl⟩
  have hm' : (n : Int) / 2 = m := by omega
  have hmb : m ≤ 50000 := by omega
  have hmk := run_make_row' (P := Try.prog) 63 3 (.int .i64 0) 8 Try.underlying63 Try.zero_int rfl .i64 .i64 m (by omega) (by omega)
  have H : Hid (BIn w a n ys ∧ (a = none → n = 0 ∧ c = 0) ∧ n ≤ c ∧ q = w.heap.size ∧ m = n / 2 ∧ Try.prog.info? 24 = some i1 ∧ i1.zero = some (.int .u16 0) ∧ i1.size = 1 ∧ i1.bytes = 2) := ⟨hx, hnil, hnc, hq, hm, hi1, hz10, hz11, hz12⟩
  rw [← hq]
  clear hx hnil hnc hi1 hz10 hz11 hz12 hm
  have b0 := made_blk 3 m w
  rw [← hq] at b0
  have H0 : Hid (Blk (w.alloc (.cells (madeCells #[.int .i64 0] m) 3)) q (kInts .i64 (twos m 0)) 3 ∧ Below q w (w.alloc (.cells (madeCells #[.int .i64 0] m) 3))) := ⟨b0, (Below.refl _ _).alloc (by rw [hq]; exact Nat.le_refl _) _⟩
  clear b0
  go_enter Try.func31, Try.ntmps31
  go_upto_region 2 with fail
  generalize hW : World.alloc w _ = W at H0 ⊢
  rw [← hq]
  clear hW hmk hm' hq
  go_wp2
  go_loopw [17] (fun i wr => ∃ j : Nat, j ≤ m ∧ i = .int .i64 j ∧ Blk wr q (kInts .i64 (twos m j)) 3 ∧ Below q w wr)
    (fun i _ => m - (intOf i).toNat)
  case atStart => exact ⟨0, by omega, rfl, H0.out.1, H0.out.2⟩
  case round =>
    obtain ⟨j, hj, rfl, b1, bl⟩ := hrel
    by_cases hlt : j < m
    · have hlt' : (j : Int) < m := by omega
      have HB : Hid (Blk wr q (kInts .i64 (twos m j)) 3 ∧ Below q w wr) := ⟨b1, bl⟩
      have hc := blk_at b1 (i := j) (by rw [twos_length hj]; exact hlt)
      have hz := b1.frozen j
      clear b1 bl
      go_wp2
      go_roundw
      case rel =>
        refine ⟨j + 1, by omega, by go_num, ?_, HB.out.2.setCell (Nat.le_refl _) _⟩
        have := HB.out.1.set j (.int .i64 2)
        rw [kInts_set, twos_next hlt] at this
        exact this
      case measure => simp [intOf]; omega
    · have hge : (m : Int) ≤ j := by omega
      have hjm : j = m := by omega
      rw [hjm, twos_all] at b1
      obtain ⟨W1, hW1⟩ : ∃ W1, W1 = wr := ⟨_, rfl⟩
      have HB : Hid (NIn .i64 wr (some ⟨q, 0, none⟩) m (List.replicate m 2) ∧ Below q w wr ∧ BIn wr a n ys ∧ q ≤ wr.heap.size) :=
        ⟨blk_nin b1 (by simp) (by unfold maxLen; omega) (rep_wf m), bl, H.out.1.below (by rw [← H.out.2.2.2.1]; exact bl), by have := b1.lt; omega⟩
      clear b1 bl hjm hW1
      go_wp2_with fail
      refine (take_of a n c ys (some ⟨q, 0, none⟩) m m (List.replicate m 2) wr HB.out.2.2.1 H.out.2.1 H.out.2.2.1 HB.out.1 hn (by omega)).mono ?_
      have ep : takeV ys (List.replicate m 2) = pairs ys := by rw [H.out.2.2.2.2.1, ← H.out.1.1]; exact pairs_take ys
      rw [ep]
      clear ep
      obtain ⟨T, hT⟩ : ∃ T, T = decide (offL (List.replicate m 2) ≤ ys.length) := ⟨_, rfl⟩
      rw [← hT]
      clear hT
      rintro e w1 ⟨A, k, D, R, r, F, rfl, ow, -, bl⟩
      have hk : k = m := by have := ow.1; rw [kInts_length, pairs_length, H.out.1.1, ← H.out.2.2.2.2.1] at this; omega
      subst hk
      have hpf : ∀ v ∈ pairs ys, Fits16 v := valL_fits16 _ _ H.out.1.2.2.1
      have hn1 : NIn .u64 w1 A k (pairs ys) := own_nin ow (by unfold maxLen; omega) (fun z hz => wfU (by have := hpf z hz; unfold Fits16 at this; unfold FitsU; omega))
      have H1 : Hid (NIn .u64 w1 A k (pairs ys) ∧ Below q w w1 ∧ q ≤ w1.heap.size ∧ ∀ v ∈ pairs ys, Fits16 v) := ⟨hn1, HB.out.2.1.trans (bl.mono HB.out.2.2.2), by have := bl.size; have := HB.out.2.2.2; omega, hpf⟩
      clear ow bl hn1 hpf
      obtain ⟨q1, hq1⟩ : ∃ q1, q1 = w1.heap.size := ⟨_, rfl⟩
      have HQ : Hid (q1 = w1.heap.size ∧ q ≤ q1) := ⟨hq1, by rw [hq1]; exact H1.out.2.2.1⟩
      go_upto_region 9 with (at_make; refine wpList_make_own w1 rfl _ (.tmp 32) 40 rfl q1 24 i1 (.int .u16 0) 1 Try.underlying40 H.out.2.2.2.2.2.1 H.out.2.2.2.2.2.2.1 H.out.2.2.2.2.2.2.2.1 .i64 .i64 _ k rfl rfl (by omega) (by rw [H.out.2.2.2.2.2.2.2.2]; omega) (by unfold maxLen; omega) (by rw [HQ.out.1]; exact Nat.le_refl _) ?_; intro w2 ow2 gr2)
      have hb12 : Below q1 w1 w2 := (Below.refl _ _).grown gr2 (by rw [HQ.out.1]; exact Nat.le_refl _) (fun g hg => by cases hg)
      rw [← hq1] at ow2 ⊢
      have H2 : Hid (w2.ownsRow q1 24 1 (.slice (some ⟨q1, 0, none⟩) 0 k) 0 (kInts .u16 []) ∧ Below q1 w1 w2) := ⟨ow2, hb12⟩
      clear ow2 gr2 hb12 hq1
      go_wp2
      go_loopw [8, 36] (fun s i wr => ∃ (j : Nat) (A' : Option Addr) (C' : Nat), j ≤ k ∧ i = .int .i64 j ∧ s = .slice A' j C' ∧ wr.ownsRow q1 24 1 (.slice A' j C') j (kInts .u16 ((pairs ys).take j)) ∧ Below q1 w1 wr)
        (fun _ i _ => k - (intOf i).toNat)
      case atStart => exact ⟨0, _, _, by omega, rfl, rfl, H2.out.1, H2.out.2⟩
      case round =>
        obtain ⟨j, A', C', hj, rfl, rfl, ow, bl⟩ := hrel
        have HK : Hid (wr.ownsRow q1 24 1 (.slice A' j C') j (kInts .u16 ((pairs ys).take j)) ∧ Below q1 w1 wr ∧ q1 ≤ wr.heap.size) := ⟨ow, bl, by have := bl.size; rw [HQ.out.1]; exact this⟩
        clear ow bl
        by_cases hlt : j < k
        · have hlt' : (j : Int) < k := by omega
          have hnw : NIn .u64 wr A k (pairs ys) := H1.out.1.below (by rw [← HQ.out.1]; exact HK.out.2.1)
          obtain ⟨b1, o1, rfl, hc1⟩ := hnw.2.2.2.resolve_left (by omega)
          have cw := hc1 j (by omega)
          have hjl : j < (pairs ys).length := by rw [hnw.1]; exact hlt
          have hf : Fits16 ((pairs ys).getD j 0) := H1.out.2.2.2 _ (by simp only [List.getD, List.getElem?_eq_getElem hjl, Option.getD_some]; exact List.getElem_mem hjl)
          have HN : Hid ((pairs ys).take (j + 1) = (pairs ys).take j ++ [(pairs ys).getD j 0]) := take_next _ hjl
          obtain ⟨X, eX⟩ : ∃ X, X = (pairs ys).getD j 0 := ⟨_, rfl⟩
          rw [← eX] at cw hf HN
          have HX : Hid (Fits16 X) := hf
          unfold Fits16 at hf
          obtain ⟨x0, x1⟩ := hf
          have x2 : X % 65536 = X := by omega
          clear hc1 eX hjl hnw
          go_wp2_with (at_builtin; refine wpList_append_nin (k := .u16) (size := 2) Try.underlying40 Try.zero_u16 (by decide) rfl (.tmp 40) (.tmp 43) rfl q1 A' j C' _ rfl (HK.out.1.alloc _) (some ⟨wr.heap.size, 0, none⟩) 1 1 [X] rfl (new_nin rfl rfl rfl (by intro z hz; simp only [List.mem_cons, List.not_mem_nil, or_false] at hz; subst hz; exact wf16 HX.out) (by unfold maxLen; omega)) (fun h => by cases h) (by omega) (by have := HK.out.2.2; simp; omega) ?_; intro A2 C2 w3 ow3 bl3)
          go_roundw
          case rel =>
            refine ⟨j + 1, A2, C2, by omega, by go_num, by rfl, ?_, (HK.out.2.1.alloc HK.out.2.2 _).trans bl3⟩
            rw [HN.out]
            exact ow3
          case measure => simp [intOf]; omega
        · have hge : (k : Int) ≤ j := by omega
          have hjk : j = k := by omega
          have eT : (pairs ys).take j = pairs ys := List.take_of_length_le (by rw [H1.out.1.1, hjk]; exact Nat.le_refl _)
          rw [eT] at HK
          clear eT hjk
          go_wp2
          go_ret
          exact ⟨A', j, C', rfl, own_lowerN HK.out.1 HQ.out.2, H1.out.2.1.trans (HK.out.2.1.mono HQ.out.2)⟩
end Go.Proofs.Ytkegpgmmlmineaa
