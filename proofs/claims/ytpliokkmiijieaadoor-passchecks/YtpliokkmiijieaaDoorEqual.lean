/- The document's digest and the program's are one: plain mathematics, no Go text in sight. -/
import Derived.Test.YtpliokkmiijieaaDoorRefSum
namespace Go.Proofs.YtpliokkmiijieaaDoor
open Go.RowKit
set_option linter.unusedVariables false
set_option maxRecDepth 4000

/-! ### The words of a block -/
theorem or_add (i : Nat) (a b : Int) (ha : Fits32 a) (hb : 0 ≤ b) (hi : i ≤ 24) (hm : a.toNat % 2 ^ i = 0) (hlt : b.toNat < 2 ^ i) (hb2 : Fits32 b) : bits .or .u32 a b = a + b := by
  rw [u32_or a b ha.1 ha.2 hb2.1 hb2.2, nat_join i _ _ hm hlt]
  have := ha.1
  omega
theorem acc_word (p0 p1 p2 p3 : Int) (h0 : Fits8 p0) (h1 : Fits8 p1) (h2 : Fits8 p2) (h3 : Fits8 p3) :
    bits .or .u32 (bits .or .u32 (bits .or .u32 (bits .or .u32 (0 * 256 % 4294967296) (p0 % 4294967296) * 256 % 4294967296) (p1 % 4294967296) * 256 % 4294967296) (p2 % 4294967296) * 256 % 4294967296) (p3 % 4294967296) =
    bits .or .u32 (bits .or .u32 (bits .or .u32 (p0 % 4294967296 * 16777216 % 4294967296) (p1 % 4294967296 * 65536 % 4294967296)) (p2 % 4294967296 * 256 % 4294967296)) (p3 % 4294967296) := by
  unfold Fits8 at h0 h1 h2 h3
  have e0 : p0 % 4294967296 = p0 := by omega
  have e1 : p1 % 4294967296 = p1 := by omega
  have e2 : p2 % 4294967296 = p2 := by omega
  have e3 : p3 % 4294967296 = p3 := by omega
  have z : (0 : Int) * 256 % 4294967296 = 0 := by omega
  rw [e0, e1, e2, e3, z]
  have a1 : bits .or .u32 0 p0 = 0 + p0 := or_add 8 0 p0 ⟨by omega, by omega⟩ h0.1 (by omega) rfl (by omega) ⟨by omega, by omega⟩
  rw [a1, show (0 + p0) * 256 % 4294967296 = p0 * 256 by omega]
  have a2 : bits .or .u32 (p0 * 256) p1 = p0 * 256 + p1 := or_add 8 _ p1 ⟨by omega, by omega⟩ h1.1 (by omega) (by omega) (by omega) ⟨by omega, by omega⟩
  rw [a2, show (p0 * 256 + p1) * 256 % 4294967296 = p0 * 65536 + p1 * 256 by omega]
  have a3 : bits .or .u32 (p0 * 65536 + p1 * 256) p2 = p0 * 65536 + p1 * 256 + p2 := or_add 8 _ p2 ⟨by omega, by omega⟩ h2.1 (by omega) (by omega) (by omega) ⟨by omega, by omega⟩
  rw [a3, show (p0 * 65536 + p1 * 256 + p2) * 256 % 4294967296 = p0 * 16777216 + p1 * 65536 + p2 * 256 by omega]
  rw [show p0 * 16777216 % 4294967296 = p0 * 16777216 by omega, show p1 * 65536 % 4294967296 = p1 * 65536 by omega, show p2 * 256 % 4294967296 = p2 * 256 by omega]
  have b1 : bits .or .u32 (p0 * 16777216) (p1 * 65536) = p0 * 16777216 + p1 * 65536 := or_add 24 _ _ ⟨by omega, by omega⟩ (by omega) (by omega) (by omega) (by omega) ⟨by omega, by omega⟩
  rw [b1]
  have b2 : bits .or .u32 (p0 * 16777216 + p1 * 65536) (p2 * 256) = p0 * 16777216 + p1 * 65536 + p2 * 256 := or_add 16 _ _ ⟨by omega, by omega⟩ (by omega) (by omega) (by omega) (by omega) ⟨by omega, by omega⟩
  rw [b2]
theorem byte_fits {B : List Int} (h : ∀ z ∈ B, Fits8 z) (i : Nat) : Fits8 (B.getD i 0) := by
  by_cases hi : i < B.length
  · have : B.getD i 0 = B[i] := by simp [List.getD, hi]
    rw [this]; exact h _ (List.getElem_mem hi)
  · have : B.getD i 0 = 0 := by simp [List.getD, List.getElem?_eq_none (by omega : B.length ≤ i)]
    rw [this]; unfold Fits8; omega
theorem acc_eq {B : List Int} (h : ∀ z ∈ B, Fits8 z) (t : Nat) : accN B t 4 = wordI B t :=
  acc_word _ _ _ _ (byte_fits h _) (byte_fits h _) (byte_fits h _) (byte_fits h _)
theorem getD_take {L : List Int} {t i : Nat} (h : i < t) : (L.take t).getD i 0 = L.getD i 0 := by simp [List.getD, h]
theorem words_take {B : List Int} (h : ∀ z ∈ B, Fits8 z) (t : Nat) (ht : t ≤ 64) : wordsN B t = (schedN B t).take t := by
  induction t with
  | zero => rfl
  | succ t ih =>
    have hl : t < ((schedN B t).set t (stepW B (schedN B t) t)).length := by rw [List.length_set, schedN_length]; omega
    rw [wordsN, schedN, List.take_succ_eq_append_getElem hl, ih (by omega)]
    congr 1
    · simp [List.take_set_of_le]
    · simp only [List.getElem_set_self, List.cons.injEq, and_true]
      unfold stepW
      by_cases h16 : t < 16
      · rw [if_pos h16, if_pos h16, acc_eq h]
      · rw [if_neg h16, if_neg h16]
        unfold nextW
        rw [getD_take (by omega), getD_take (by omega), getD_take (by omega), getD_take (by omega)]
theorem words_eq {B : List Int} (h : ∀ z ∈ B, Fits8 z) : wordsN B 64 = schedN B 64 := by
  rw [words_take h 64 (Nat.le_refl _), List.take_of_length_le (by rw [schedN_length]; exact Nat.le_refl _)]
theorem block_eq {S B : List Int} (hS : S.length = 8) (h : ∀ z ∈ B, Fits8 z) : addN S (roundsR S (wordsN B 64) 64) 8 = mixI S B := by
  unfold mixI; rw [words_eq h, roundsR_eq _ _ hS]

/-! ### The blocks -/
theorem fold_blocks {P : List Int} (hP : ∀ z ∈ P, Fits8 z) (m : Nat) (hm : 64 * m ≤ P.length) : (takeI st0 (P.take (64 * m))).S = blocksN P m ∧ (takeI st0 (P.take (64 * m))).T = 64 * m := by
  induction m with
  | zero => exact ⟨rfl, rfl⟩
  | succ m ih =>
    obtain ⟨i1, i2⟩ := ih (by omega)
    have hw : (takeI st0 (P.take (64 * m))).Wf := takeI_wf st0_wf (fun z hz => hP z (List.mem_of_mem_take hz))
    have hlen : ((P.drop (64 * m)).take 64).length = 64 := by rw [List.length_take, List.length_drop]; omega
    have hfit : ∀ z ∈ (P.drop (64 * m)).take 64, Fits8 z := fun z hz => hP z (List.mem_of_mem_drop (List.mem_of_mem_take hz))
    have e : P.take (64 * (m + 1)) = P.take (64 * m) ++ (P.drop (64 * m)).take 64 := by rw [show 64 * (m + 1) = 64 * m + 64 by omega, List.take_add]
    have hp := take_part ((P.drop (64 * m)).take 64) (takeI st0 (P.take (64 * m))) (by omega) hw.2.2.1 (by rw [i2]; omega)
    rw [if_pos (by rw [i2, hlen]; omega), i2, show 64 * m % 64 = 0 by omega, splice_all _ _ (by rw [hw.2.2.1, hlen]), i1, hlen] at hp
    rw [e, takeI_append, hp]
    refine ⟨?_, by show 64 * m + 64 = _; omega⟩
    show mixI (blocksN P m) ((P.drop (64 * m)).take 64) = _
    rw [blocksN, block_eq (by rw [← i1]; exact hw.1) hfit]

/-! ### The end of the bytes; the digest's bytes -/
theorem tail_eq (n : Nat) : tailI n = [128] ++ List.replicate (zeroN n) 0 ++ bigI 8 (n * 8) := by
  have hp : padN n = zeroN n + 1 := by unfold padN zeroN; omega
  have hz := zeroN_le n
  have e : (((List.replicate 72 (0 : Int)).set 0 128).take (zeroN n + 1)) = [128] ++ List.replicate (zeroN n) 0 := by
    rw [show (72 : Nat) = 71 + 1 from rfl, List.replicate_succ]
    simp only [List.set_cons_zero, List.take_succ_cons, List.take_replicate]
    rw [Nat.min_eq_left (by omega)]; rfl
  unfold tailI splice
  rw [hp, e]
  have l1 : ([128] ++ List.replicate (zeroN n) (0 : Int)).length = zeroN n + 1 := by simp
  have l2 : (bigI 8 ((n : Int) * 8)).length = 8 := bigI_length _ _
  rw [← List.append_assoc, List.take_append_of_le_length (by rw [List.length_append, l1, l2]; exact Nat.le_refl _)]
  exact List.take_of_length_le (by rw [List.length_append, l1, l2]; exact Nat.le_refl _)
theorem out_eq {S : List Int} (hS : S.length = 8) : outN S 32 = digN S 8 := by
  obtain ⟨a, b, c, d, e, f, g, h, rfl⟩ := len8 hS
  kernel_rfl

theorem digest_eq {zs : List Int} {n : Nat} (hn : zs.length = n) (hz : ∀ z ∈ zs, Fits8 z) : outN (blocksN (padded zs ++ bigI 8 ((n : Int) * 8)) ((n + 1 + zeroN n + 8) / 64)) 32 = sumI (takeI st0 zs) := by
  have hT : (takeI st0 zs).T = n := by rw [takeI_T, hn]; show 0 + n = n; omega
  have hP : padded zs ++ bigI 8 ((n : Int) * 8) = zs ++ tailI n := by
    unfold padded; rw [tail_eq, hn]; simp [List.append_assoc]
  have hfit : ∀ z ∈ zs ++ tailI n, Fits8 z := fun z h => by
    rcases List.mem_append.1 h with h | h
    · exact hz z h
    · exact tailI_fits n z h
  have hlen : (zs ++ tailI n).length = 64 * ((n + 1 + zeroN n + 8) / 64) := by
    rw [List.length_append, hn, tailI_length]; unfold padN zeroN; omega
  have hb := fold_blocks hfit ((n + 1 + zeroN n + 8) / 64) (by rw [hlen]; exact Nat.le_refl _)
  rw [List.take_of_length_le (by rw [hlen]; exact Nat.le_refl _)] at hb
  unfold sumI
  rw [hP, hT, ← takeI_append, ← hb.1]
  exact out_eq (takeI_wf st0_wf hfit).1
end Go.Proofs.YtpliokkmiijieaaDoor
