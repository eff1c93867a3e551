/- What one call of Sum does: the digest of all that was taken; the hash stays as it was. -/
import Derived.Test.YtpliokkmiijieaaDoorEnd
namespace Go.Proofs.YtpliokkmiijieaaDoor
open Go.RowKit
set_option linter.unusedVariables false
set_option maxRecDepth 4000

def digN (S : List Int) : Nat → List Int
  | 0 => List.replicate 32 0
  | k + 1 => splice (digN S k) (4 * k) (bigI 4 (S.getD k 0))
theorem digN_length (S : List Int) (k : Nat) (hk : k ≤ 8) : (digN S k).length = 32 := by
  induction k with
  | zero => simp [digN]
  | succ k ih => rw [digN, length_splice _ _ _ (by rw [ih (by omega), bigI_length]; omega), ih (by omega)]
/-- The digest of what a hash has taken. -/
def sumI (s : St) : List Int := digN (takeI s (tailI s.T)).S 8
theorem sumI_length (s : St) : (sumI s).length = 32 := digN_length _ _ (by omega)
theorem Tryd.info_hash : (Tryd.prog.info? 100).map (·.size) = some 73 := by kernel_rfl
theorem Tryd.info_digest : (Tryd.prog.info? 59).map (·.size) = some 32 := by kernel_rfl
theorem hash_one (s : St) : ∀ v ∈ hashCells s, v.oneCell' = true := by
  intro v hv
  simp only [hashCells, List.mem_append, List.mem_cons, List.not_mem_nil, or_false] at hv
  rcases hv with h | h | h
  · exact u32s_one _ v h
  · exact u8s_one _ v h
  · rw [h]; rfl

set_option maxHeartbeats 1000000 in
theorem digest_of (w : World) (g : Nat) (s : St) (h : HIn w g s) (hK : KIn w) (hg : 1 ≠ g) (hT : s.T + 80 < 1152921504606846976) :
    Calls Tryd.prog 42 #[.pointer (some ⟨g, 0, none⟩)] w fun e w' => e = .returned (.agg (u8s (sumI s)).toArray) ∧ Below w.heap.size w w' := by
  have hin : (Tryd.prog.info? 100).map (·.size) = some (hashCells s).length := by rw [hash_len h.2]; exact Tryd.info_hash
  obtain ⟨Z, hZ⟩ : ∃ Z, Z = zeroHash.toArray := ⟨_, rfl⟩
  have hz : ∀ w, (zeroValue 100).run Tryd.prog w = .ok (.agg Z) w := by rw [hZ]; exact (zero_of_info Tryd.zero_hash).1
  have HZ : Hid (Z = zeroHash.toArray) := hZ
  have H : Hid (HIn w g s ∧ KIn w ∧ s.T + 80 < 1152921504606846976) := ⟨h, hK, hT⟩
  clear hZ h hK hT
  have hsz : ∀ o : Obj, (w.alloc o).heap.size = w.heap.size + 1 := by simp
  go_enter Tryd.func42, Tryd.ntmps42
  go_upto_region 2 with (first
    | (refine wpList_load_mid rfl 100 (.tmp 7) rfl g 0 rfl (hashCells s) _ (H.out.1.1.alloc _).whole Tryd.underlying100 rfl hin ?_)
    | (refine wpList_store_mid rfl 100 (.tmp 3) (.tmp 8) rfl (w.heap.size + 1) 0 (hashCells s).toArray rfl rfl ((Blk.new' (L := zeroHash) (by simp) HZ.out).there 0 _ (by rw [List.size_toArray, hash_len H.out.1.2]; exact Nat.le_of_eq rfl)) (by simpa using hin) (all_oneCell_toArray (hash_one s)) ?_))
  generalize hV : World.setCells _ _ _ _ = V
  have pv : Blk V w.heap.size (u8s (List.replicate 32 0)) 59 ∧ HIn V (w.heap.size + 1) s ∧ Below w.heap.size w V ∧ V.heap.size = w.heap.size + 2 := by
    rw [← hV]
    refine ⟨((Blk.new' (L := u8s (List.replicate 32 0)) rfl (by kernel_rfl)).alloc _).setCells_other (by omega) _ _, ⟨?_, H.out.1.2⟩, below_setCells (by omega) _ _ _ (((Below.refl _ _).alloc (Nat.le_refl _) _).alloc (by simp) _), by rw [size_setCells']; simp⟩
    exact (Blk.new' (L := zeroHash) (by simp) HZ.out).setAll (by rw [hash_len H.out.1.2]; rfl)
  clear hV hz hin hsz
  obtain ⟨q, hq⟩ : ∃ q, q = w.heap.size := ⟨_, rfl⟩
  rw [← hq] at pv ⊢
  have HQ : Hid (q = w.heap.size ∧ 1 < q) := ⟨hq, by have := H.out.2.1.lt; omega⟩
  clear hq
  obtain ⟨pb, ph, pl, ps⟩ := pv
  have pl' : Below q w V := pl
  go_upto_region 3 with (go_at_call 55; refine (end_of V (q + 1) s ph (H.out.2.1.below pl' (by have := HQ.out; omega)) (by have := HQ.out; omega) H.out.2.2).mono ?_; rintro e w2 ⟨rfl, hh2, ho2⟩)
  have pb2 : Blk w2 q (u8s (List.replicate 32 0)) 59 := pb.only ho2 (by omega)
  have pl2 : Below q w w2 := pl'.trans (ho2.below (by omega) (by omega))
  have psz : q + 2 ≤ w2.heap.size := by have := ho2.size; omega
  obtain ⟨s2, hs2⟩ : ∃ s2, s2 = takeI s (tailI s.T) := ⟨_, rfl⟩
  rw [← hs2] at hh2
  have HS : Hid (s2 = takeI s (tailI s.T)) := hs2
  clear hs2 pb ph pl pl' ps ho2
  go_wp2
  generalize hU : World.alloc _ _ = U
  obtain ⟨m, hm⟩ : ∃ m, m = w2.heap.size := ⟨_, rfl⟩
  rw [← hm]
  have pu : Blk U q (u8s (List.replicate 32 0)) 59 ∧ HIn U (q + 1) s2 ∧ Blk U m (u8s (digN s2.S 0)) 59 ∧ Below q w U := by
    rw [← hU]
    exact ⟨pb2.alloc _, hh2.alloc _, Blk.new' (L := u8s (List.replicate 32 0)) hm.symm (by kernel_rfl), pl2.alloc (by omega) _⟩
  have HM : Hid (q + 2 ≤ m) := by have : q + 2 ≤ m := by omega
                                  exact this
  clear hU hm pb2 hh2 pl2 psz
  go_loopw [10] (fun i wr => ∃ k : Nat, k ≤ 8 ∧ i = .int .i64 k ∧ Blk wr q (u8s (List.replicate 32 0)) 59 ∧ HIn wr (q + 1) s2 ∧ Blk wr m (u8s (digN s2.S k)) 59 ∧ Below q w wr)
    (fun i _ => 8 - (intOf i).toNat)
  case atStart => exact ⟨0, by omega, rfl, pu.1, pu.2.1, pu.2.2.1, pu.2.2.2⟩
  case round =>
    clear pu
    obtain ⟨k, hk, rfl, b0, b1, b2, hbel⟩ := hrel
    by_cases hlt : k < 8
    · have hlt' : (k : Int) < 8 := by omega
      have hsl := fun wr => run_part (P := Tryd.prog) Tryd.underlying59 Tryd.byte1 wr m 0 .i64 .i64 (4 * (k : Int)) (4 * (k : Int) + 4) (4 * k) (4 * k + 4) (by omega) (by omega) (by omega) (by omega) (by omega)
      simp only [Nat.zero_add, Nat.add_sub_cancel_left] at hsl
      have cS : wr.cell? ⟨q + 1, k, none⟩ = some (.int .u32 (s2.S.getD k 0)) := by
        rw [b1.1.cell, hash_state b1.2 k hlt]; simp [u32s, List.getD, b1.2.1, hlt]
      have F := getD_fits b1.2.2.1 k
      obtain ⟨x, hx⟩ : ∃ x, x = s2.S.getD k 0 := ⟨_, rfl⟩
      rw [← hx] at cS F
      have HX : Hid (x = s2.S.getD k 0) := hx
      clear hx
      obtain ⟨x0, x1⟩ := F
      have wx : IntKind.u64.wrap x = x := by rw [IntKind.wrap_u64]; omega
      have w4 : IntKind.i64.wrap (4 * (k : Int)) = 4 * (k : Int) := wrap_small _ (by omega) (by omega)
      have w5 : IntKind.i64.wrap (4 * (k : Int) + 4) = 4 * (k : Int) + 4 := wrap_small _ (by omega) (by omega)
      go_wp2
      refine region_tail 11 (by kernel_rfl) (by kernel_rfl) ?_
      simp only [List.take_succ_cons, List.take_zero, List.drop_succ_cons, List.drop_zero]
      still_step
      still_step
      still_step
      still_step
      still_step
      still_step
      still_step
      still_step
      still_step
      still_step
      still_step
      refine wpStill_nil ?_
      go_wp2_with (go_at_call 56; refine (putBig_of m (4 * k) 4 (32 - 4 * k) x (digN s2.S k) 59 wr.drew (by omega) (by rw [digN_length _ _ hk]; omega) b2 (by omega) (by omega)).mono ?_; rintro e w3 ⟨rfl, hn3, ho3⟩)
      have ho3' : Only m wr w3 := (Only.drew (Only.refl m wr)).trans ho3
      have r0 := b0.only ho3' (by have := HM.out; omega)
      have r1 := b1.only ho3' (by have := HM.out; omega)
      have r2 : Blk w3 m (u8s (digN s2.S (k + 1))) 59 := by rw [HX.out] at hn3; exact hn3
      have r3 : Below q w w3 := hbel.trans (ho3'.below (by have := HM.out; omega) (by have := b0.lt; omega))
      go_roundw
      case rel => exact ⟨k + 1, by omega, by go_num, r0, r1, r2, r3⟩
      case measure => simp [intOf]; omega
    · obtain ⟨D, hD⟩ : ∃ D, D = digN s2.S k := ⟨_, rfl⟩
      have HD : Hid (D = sumI s ∧ D.length = 32) := by
        refine ⟨?_, by rw [hD, digN_length _ _ hk]⟩
        rw [hD, show k = 8 by omega, HS.out]; rfl
      rw [← hD] at b2
      have hge : (8 : Int) ≤ k := by omega
      clear hD
      have hin : (Tryd.prog.info? 59).map (·.size) = some (u8s D).length := by rw [u8s_length, HD.out.2]; exact Tryd.info_digest
      have HT : Hid (wr.there q 0 (u8s D).toArray.size) := b0.there 0 _ (by simp [u8s_length, HD.out.2])
      go_wp2_with (first
        | (refine wpList_load_mid rfl 59 (.tmp 4) rfl m 0 rfl _ _ b2.whole Tryd.underlying59 rfl hin ?_)
        | (refine wpList_store_mid rfl 59 (.tmp 2) (.tmp 26) rfl q 0 (u8s D).toArray rfl rfl HT.out (by simpa using hin) (all_oneCell_toArray (u8s_one _)) ?_))
      have b9 := b0.setAll (vs := u8s D) (by simp [u8s_length, HD.out.2])
      refine bodyPost_ret (v := .agg (u8s D).toArray) (results_cell_one (p := 2) (ty := 59) rfl _ _ q _ _ _ rfl b9 Tryd.underlying59 rfl hin) rfl ⟨by rw [HD.out.1], ?_⟩
      rw [← HQ.out.1]
      exact below_setCells (by omega) _ _ _ hbel
end Go.Proofs.YtpliokkmiijieaaDoor
