/- What one call of Block and of heavy does; calls that are read. -/
import Derived.Test.YtlkpglppkpalgaaZCr
namespace Go.Proofs.Ytlkpglppkpalgaa
open Go.RowKit Go.Shelf
set_option linter.unusedVariables false
set_option maxRecDepth 4000

/-- A block of S bytes with a front. -/
def blockB (S : Nat) (F : List Int) : List Int := F.take S ++ List.replicate (S - F.length) 0
theorem blockB_length (S : Nat) (F : List Int) : (blockB S F).length = S := by simp [blockB]; omega
def blockTo (S : Nat) (F : List Int) (j : Nat) : List Int := F.take j ++ List.replicate (S - j) 0
theorem blockTo_length {S : Nat} {F : List Int} {j : Nat} (h : j ≤ S) (h' : j ≤ F.length) : (blockTo S F j).length = S := by simp [blockTo]; omega
theorem blockTo_next {S : Nat} {F : List Int} {j : Nat} {x : Int} (h : j < S) (hx : F[j]? = some x) : (blockTo S F j).set j x = blockTo S F (j + 1) := by
  have hj := (List.getElem?_eq_some_iff.1 hx).1
  unfold blockTo
  rw [take_snoc hx, List.set_append_right _ _ (by simp; omega)]
  have e : j - (List.take j F).length = 0 := by simp; omega
  rw [e]
  obtain ⟨d, hd⟩ : ∃ d, S - j = d + 1 := ⟨S - j - 1, by omega⟩
  have e2 : S - (j + 1) = d := by omega
  rw [hd, e2, List.replicate_succ]
  simp
theorem blockTo_all {S : Nat} {F : List Int} {j : Nat} (h : j ≤ S) (h' : j ≤ F.length) (he : j = S ∨ j = F.length) : blockTo S F j = blockB S F := by
  unfold blockTo blockB
  rcases he with rfl | rfl
  · have : j - F.length = 0 := by omega
    rw [this]; simp
  · rw [List.take_of_length_le (Nat.le_refl _), List.take_of_length_le h]
theorem blockB_fits {S : Nat} {F : List Int} (h : ∀ z ∈ F, Fits8 z) : ∀ z ∈ blockB S F, Fits8 z := by
  intro z hz
  simp only [blockB, List.mem_append, List.mem_replicate] at hz
  rcases hz with hz | ⟨_, rfl⟩
  · exact h z (List.mem_of_mem_take hz)
  · unfold Fits8; omega

set_option maxHeartbeats 2000000 in
theorem block_of (S : Nat) (a : Option Addr) (n c : Nat) (F : List Int) (W : World) (hb : BIn W a n F) (hS : S ≤ 100000) (hn : n ≤ 1000000) :
    Calls Try.prog 28 #[.int .i64 S, .slice a n c] W fun e w' => ∃ q, e = .returned (.slice (some ⟨q, 0, none⟩) S S) ∧ BkAt (fun x => W.heap.size ≤ x) w' (.slice (some ⟨q, 0, none⟩) S S) (blockB S F) ∧ Below W.heap.size W w' ∧ W.heap.size ≤ q := by
  obtain ⟨q, hq⟩ : ∃ q, q = W.heap.size := ⟨_, rfl⟩
  have hmk := run_make_row' (P := Try.prog) 33 5 (.int .u8 0) 1 Try.underlying33 Try.zero_u8 rfl .i64 .i64 S (by omega) (by omega)
  have b0 := made_bytes S W
  rw [← hq] at b0
  have H : Hid (BIn W a n F ∧ q = W.heap.size ∧ F.length = n) := ⟨hb, hq, hb.1⟩
  have H0 : Hid (Blk (W.alloc (.cells (madeCells #[.int .u8 0] S) 5)) q (u8s (blockTo S F 0)) 5 ∧ Below q W (W.alloc (.cells (madeCells #[.int .u8 0] S) 5))) := ⟨by simpa [blockTo] using b0, (Below.refl _ _).alloc (by rw [hq]; exact Nat.le_refl _) _⟩
  clear hb b0
  go_enter Try.func28, Try.ntmps28
  go_upto_region 2 with fail
  rw [← hq]
  generalize hW : World.alloc W _ = W1 at H0 ⊢
  clear hW hmk hq
  go_wp2
  go_loopw [6] (fun x wr => ∃ j : Nat, x = .int .i64 j ∧ j ≤ S ∧ j ≤ n ∧ Blk wr q (u8s (blockTo S F j)) 5 ∧ Below q W wr) (fun x wr => S - (intOf x).toNat)
  case atStart => exact ⟨0, rfl, Nat.zero_le _, Nat.zero_le _, H0.out.1, H0.out.2⟩
  case round =>
    obtain ⟨j, rfl, hj, hjn, hbk, hbl⟩ := hrel
    have fin : Hid (¬ (j < S ∧ j < n) → ∃ q', Ending.returned (Value.slice (some ⟨q, 0, none⟩) S S) = .returned (.slice (some ⟨q', 0, none⟩) S S) ∧ BkAt (fun x => W.heap.size ≤ x) wr (.slice (some ⟨q', 0, none⟩) S S) (blockB S F) ∧ Below W.heap.size W wr ∧ W.heap.size ≤ q') := by
      intro hd
      have e := blockTo_all (S := S) (F := F) hj (by rw [H.out.2.2]; exact hjn) (by rw [H.out.2.2]; omega)
      rw [e] at hbk
      have hl := blockB_length S F
      refine ⟨q, rfl, ⟨?_, fun k hk => by cases hk; rw [← H.out.2.1]; exact Nat.le_refl _, blockB_fits H.out.1.2.2.1, by omega⟩, by rw [← H.out.2.1]; exact hbl, by rw [← H.out.2.1]; exact Nat.le_refl _⟩
      rw [hl]
      exact blk_own 0 hbk (by rw [u8s_length, hl]) (by unfold maxLen; omega) (Nat.zero_le _)
    by_cases h1 : j < S
    · by_cases h2 : j < n
      · obtain ⟨x, hx⟩ : ∃ x, F[j]? = some x := ⟨F[j]'(by rw [H.out.2.2]; exact h2), by simp⟩
        have hin := H.out.1.below (by rw [← H.out.2.1]; exact hbl)
        obtain ⟨b, off, rfl, hc⟩ := hin.2.2.2.resolve_left (by omega)
        have cx := hc j h2
        have ex : F.getD j 0 = x := by simp [List.getD, hx]
        rw [ex] at cx
        have h1' : (j : Int) < S := by omega
        have h2' : (j : Int) < n := by omega
        have hw : IntKind.i64.wrap ((j : Int) + 1) = (j : Int) + 1 := by rw [IntKind.wrap_i64]; omega
        have cq : (wr.cell? ⟨q, j, none⟩) = some (.int .u8 ((blockTo S F j).getD j 0)) := by
          rw [hbk.cell]
          have : j < (blockTo S F j).length := by rw [blockTo_length (by omega) (by rw [H.out.2.2]; omega)]; exact h1
          simp [u8s, List.getD, this]
        have fq := hbk.frozen j
        have HN : Hid (Blk (wr.setCell ⟨q, j, none⟩ (.int .u8 x)) q (u8s (blockTo S F (j + 1))) 5 ∧ Below q W (wr.setCell ⟨q, j, none⟩ (.int .u8 x))) := by
          refine ⟨?_, hbl.setCell (p := ⟨q, j, none⟩) (Nat.le_refl _) _⟩
          have := hbk.set j (.int .u8 x)
          rw [← blockTo_next h1 hx]
          simpa [u8s, List.map_set] using this
        generalize (blockTo S F j).getD j 0 = y at cq
        clear hbk hbl hin hc ex fin
        go_wp2
        go_roundw
        case rel => exact ⟨j + 1, by simp, by omega, by omega, HN.out.1, HN.out.2⟩
        case measure => simp [intOf]; omega
      · have h1' : (j : Int) < S := by omega
        have h2' : (n : Int) ≤ j := by omega
        have F1 := fin.out (by omega)
        have HF : Hid (∃ q', Ending.returned (Value.slice (some ⟨q, 0, none⟩) S S) = .returned (.slice (some ⟨q', 0, none⟩) S S) ∧ BkAt (fun x => W.heap.size ≤ x) wr (.slice (some ⟨q', 0, none⟩) S S) (blockB S F) ∧ Below W.heap.size W wr ∧ W.heap.size ≤ q') := F1
        clear hbk hbl fin F1
        go_wp2
        go_ret
        exact HF.out
    · have h1' : (S : Int) ≤ j := by omega
      have F1 := fin.out (by omega)
      have HF : Hid (∃ q', Ending.returned (Value.slice (some ⟨q, 0, none⟩) S S) = .returned (.slice (some ⟨q', 0, none⟩) S S) ∧ BkAt (fun x => W.heap.size ≤ x) wr (.slice (some ⟨q', 0, none⟩) S S) (blockB S F) ∧ Below W.heap.size W wr ∧ W.heap.size ≤ q') := F1
      clear hbk hbl fin F1
      go_wp2
      go_ret
      exact HF.out

/-- A call of the law's. -/
structure Opn where
  k : Int
  z : Int
  n : Int
  f : List Int
  l : List (Int × Int)
/-- A call, as five values. -/
def OpV (W : World) (o : Opn) (vs : List Value) : Prop := ∃ A L C B M E, vs = [.int .u8 o.k, .int .i64 o.z, .int .i64 o.n, .slice A L C, .slice B M E] ∧ BIn W A L o.f ∧ (A = none → L = 0 ∧ C = 0) ∧ LsIn W B M o.l ∧ Fits8 o.k
def OpsIn (W : World) (a : Option Addr) (n : Nat) (os : List Opn) : Prop :=
  os.length = n ∧ (n = 0 ∨ ∃ b off, a = some ⟨b, off, none⟩ ∧ ∀ (i : Nat) (o : Opn), os[i]? = some o → ∃ vs, OpV W o vs ∧ ∀ j, j < 5 → W.cell? ⟨b, off + i * 5 + j, none⟩ = vs[j]?)
def heavyO (os : List Opn) : Prop := 60 < os.length ∨ ∃ o ∈ os, 200 < o.f.length ∨ 20 < o.l.length
end Go.Proofs.Ytlkpglppkpalgaa
