/- What one call of padded does. -/
import Derived.Test.YtpliokkmiijieaaDoorMacI
namespace Go.Proofs.YtpliokkmiijieaaDoor
open Go.RowKit
set_option linter.unusedVariables false
set_option maxRecDepth 4000

def xorN (p : Int) (B : List Int) (k : Nat) : List Int := xorI p (B.take k) ++ B.drop k
theorem xorN_length (p : Int) (B : List Int) (k : Nat) : (xorN p B k).length = B.length := by simp [xorN, xorI]; omega
theorem xorN_getD (p : Int) (B : List Int) (k : Nat) (hk : k < B.length) : (xorN p B k).getD k 0 = B.getD k 0 := by
  have e : (xorI p (B.take k)).length = k := by simp [xorI]; omega
  unfold xorN
  simp only [List.getD]
  rw [List.getElem?_append_right (by omega), e]; simp
theorem xorN_set (p : Int) (B : List Int) (k : Nat) (hk : k < B.length) : (xorN p B k).set k (bits .xor .u8 (B.getD k 0) p) = xorN p B (k + 1) := by
  have e : (xorI p (B.take k)).length = k := by simp [xorI]; omega
  unfold xorN
  have e2 : B.getD k 0 = B[k] := by simp [List.getD, hk]
  rw [List.set_append_right _ _ (by omega), e, Nat.sub_self, e2, List.take_succ_eq_append_getElem hk]
  have e3 : (B.drop k).set 0 (bits .xor .u8 B[k] p) = bits .xor .u8 B[k] p :: B.drop (k + 1) := by rw [List.drop_eq_getElem_cons hk]; rfl
  rw [e3]
  unfold xorI
  rw [List.map_append, List.append_assoc]
  rfl
theorem xor_next {w wr : World} {q k : Nat} {p x : Int} {B : List Int} {t : TypeId} {L : List Value} (hk : k < B.length) (b0 : Blk wr q (u8s (xorN p B k)) t) (b1 : Blk wr (q + 1) L t) (hb : Below q w wr) (hx : x = B.getD k 0) :
    Blk (wr.setCell ⟨q, k, none⟩ (.int .u8 (bits .xor .u8 x p))) q (u8s (xorN p B (k + 1))) t ∧ Blk (wr.setCell ⟨q, k, none⟩ (.int .u8 (bits .xor .u8 x p))) (q + 1) L t ∧ Below q w (wr.setCell ⟨q, k, none⟩ (.int .u8 (bits .xor .u8 x p))) := by
  refine ⟨?_, b1.set_other (by simp) _, hb.setCell (by simp) _⟩
  have := b0.set k (.int .u8 (bits .xor .u8 x p))
  have e : (u8s (xorN p B k)).set k (.int .u8 (bits .xor .u8 x p)) = u8s (xorN p B (k + 1)) := by
    rw [← xorN_set p B k hk, hx]; simp [u8s, List.map_set]
  rw [e] at this
  exact this

set_option maxHeartbeats 1000000 in
theorem padded_of (B : List Int) (p : Int) (w : World) (hB : B.length = 64) :
    Calls Tryd.prog 40 #[.agg (u8s B).toArray, .int .u8 p] w fun e w' => e = .returned (.agg (u8s (xorI p B)).toArray) ∧ Below w.heap.size w w' := by
  obtain ⟨C, hC⟩ : ∃ C, C = (u8s B).toArray := ⟨_, rfl⟩
  rw [← hC]
  have HB : Hid (B.length = 64 ∧ C = (u8s B).toArray) := ⟨hB, hC⟩
  clear hB hC
  go_enter Tryd.func40, Tryd.ntmps40
  go_upto_region 1 with fail
  generalize hV : World.alloc _ _ = V
  obtain ⟨q, hq⟩ : ∃ q, q = w.heap.size := ⟨_, rfl⟩
  have pv : Blk V q (u8s B) 80 ∧ Blk V (q + 1) (u8s (List.replicate 64 0)) 80 ∧ Below q w V := by
    rw [← hV, hq]
    exact ⟨(Blk.new' rfl HB.out.2).alloc _, Blk.new' (by simp) (by kernel_rfl), ((Below.refl _ _).alloc (by omega) _).alloc (by simp) _⟩
  rw [← hq]
  have HQ : Hid (q = w.heap.size) := hq
  clear hV hq
  obtain ⟨p0, p1, p2⟩ := pv
  go_wp2
  go_loopw [6] (fun i wr => ∃ k : Nat, k ≤ 64 ∧ i = .int .i64 k ∧ Blk wr q (u8s (xorN p B k)) 80 ∧ Blk wr (q + 1) (u8s (List.replicate 64 0)) 80 ∧ Below q w wr)
    (fun i _ => 64 - (intOf i).toNat)
  case atStart => exact ⟨0, by omega, rfl, by simpa [xorN, xorI] using p0, p1, p2⟩
  case round =>
    clear p0 p1 p2
    obtain ⟨k, hk, rfl, b0, b1, hb⟩ := hrel
    by_cases hlt : k < 64
    · have hlt' : (k : Int) < 64 := by omega
      have hl : k < B.length := by rw [HB.out.1]; exact hlt
      have hc := byteAt b0 k (by rw [xorN_length]; exact hl)
      rw [xorN_getD p B k hl] at hc
      obtain ⟨x, hx⟩ : ∃ x, x = B.getD k 0 := ⟨_, rfl⟩
      rw [← hx] at hc
      have HX : Hid (x = B.getD k 0 ∧ k < B.length) := ⟨hx, hl⟩
      clear hx hl
      have hz := b0.frozen k
      go_wp2
      go_roundw
      case rel => exact ⟨k + 1, by omega, by go_num, xor_next HX.out.2 b0 b1 hb HX.out.1⟩
      case measure => simp [intOf]; omega
    · obtain ⟨D, hD⟩ : ∃ D, D = xorN p B k := ⟨_, rfl⟩
      have HD : Hid (D = xorI p B ∧ D.length = 64) := by
        have e := HB.out.1
        refine ⟨?_, by rw [hD, xorN_length, e]⟩
        rw [hD, xorN, List.take_of_length_le (by omega), List.drop_eq_nil_of_le (by omega), List.append_nil]
      rw [← hD] at b0
      have hge : (64 : Int) ≤ k := by omega
      clear hD
      have hin : (Tryd.prog.info? 80).map (·.size) = some (u8s D).length := by rw [u8s_length, HD.out.2]; exact Tryd.info_a64
      have HT : Hid (wr.there (q + 1) 0 (u8s D).toArray.size) := b1.there 0 _ (by simp [u8s_length, HD.out.2])
      go_wp2_with (first
        | (refine wpList_load_mid rfl 80 (.tmp 2) rfl q 0 rfl _ _ b0.whole Tryd.underlying80 rfl hin ?_)
        | (refine wpList_store_mid rfl 80 (.tmp 4) (.tmp 16) rfl (q + 1) 0 (u8s D).toArray rfl rfl HT.out (by simpa using hin) (all_oneCell_toArray (u8s_one _)) ?_))
      have b9 := b1.setAll (vs := u8s D) (by simp [u8s_length, HD.out.2])
      refine bodyPost_ret (v := .agg (u8s D).toArray) (results_cell_one (p := 4) (ty := 80) rfl _ _ (q + 1) _ _ _ rfl b9 Tryd.underlying80 rfl hin) rfl ⟨by rw [HD.out.1], ?_⟩
      rw [← HQ.out]
      exact below_setCells (by omega) _ _ _ hb
end Go.Proofs.YtpliokkmiijieaaDoor
