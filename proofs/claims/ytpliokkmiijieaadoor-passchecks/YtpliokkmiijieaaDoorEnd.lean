/- What one call of New, of Len, of end does. -/
import Derived.Test.YtpliokkmiijieaaDoorWrite
import Derived.Deep.WholeRow
namespace Go.Proofs.YtpliokkmiijieaaDoor
open Go.RowKit
set_option linter.unusedVariables false
set_option maxRecDepth 4000

/-- What the eight numbers are ahead of the first block lies where the program's text lays it. -/
def SIn (w : World) : Prop := ∀ i, i < 8 → w.cell? ⟨0, i, none⟩ = some (.int .u32 (startS.getD i 0))
theorem SIn.below {w w' : World} {B : Nat} (h : SIn w) (hb : Below B w w') (hB : 0 < B) : SIn w' := fun i hi => by
  rw [hb.cell hB]; exact h i hi
def st0 : St := ⟨startS, List.replicate 64 0, 0⟩
theorem st0_wf : st0.Wf := by
  refine ⟨rfl, ?_, rfl, ?_⟩
  · intro z hz; simp only [st0, startS, List.mem_cons, List.not_mem_nil, or_false] at hz; unfold Fits32; omega
  · intro z hz; simp only [st0, List.mem_replicate] at hz; unfold Fits8; omega

def zeroHash : List Value := hashCells ⟨List.replicate 8 0, List.replicate 64 0, 0⟩
theorem Tryd.zero_hash : (Tryd.prog.info? 100).map (fun i => (i.zero, i.size)) = some (some (.agg zeroHash.toArray), 73) := by kernel_rfl
theorem Tryd.zero_a72 : (Tryd.prog.info? 110).map (fun i => (i.zero, i.size)) = some (some (.agg (u8s (List.replicate 72 0)).toArray), 72) := by kernel_rfl

theorem new_of (w : World) (k : Nat) (hk : w.heap.size = k) (hs : SIn w) :
    Calls Tryd.prog 53 #[] w fun e w' => e = .returned (.pointer (some ⟨k, 0, none⟩)) ∧ HIn w' k st0 ∧ Below k w w' ∧ w'.heap.size = k + 1 := by
  subst hk
  have c0 := hs 0 (by omega)
  have c1 := hs 1 (by omega)
  have c2 := hs 2 (by omega)
  have c3 := hs 3 (by omega)
  have c4 := hs 4 (by omega)
  have c5 := hs 5 (by omega)
  have c6 := hs 6 (by omega)
  have c7 := hs 7 (by omega)
  obtain ⟨Z, hZ⟩ : ∃ Z, Z = zeroHash.toArray := ⟨_, rfl⟩
  have hz : ∀ w, (zeroValue 100).run Tryd.prog w = .ok (.agg Z) w := by rw [hZ]; exact (zero_of_info Tryd.zero_hash).1
  have hZs : Z.size = 73 := by rw [hZ]; rfl
  have HZ : Hid (Z = zeroHash.toArray) := hZ
  clear hZ
  go_enter Tryd.func53, Tryd.ntmps53
  go_wp2
  go_ret
  refine ⟨rfl, ⟨Blk.new' rfl ?_, st0_wf⟩, (Below.refl _ _).alloc (Nat.le_refl _) _, by simp⟩
  rw [HZ.out]
  rfl

/-! ### The end that is written behind the bytes -/
def padN (T : Nat) : Nat := 1 + (119 - T % 64) % 64
def tailI (T : Nat) : List Int := (splice ((List.replicate 72 (0 : Int)).set 0 128) (padN T) (bigI 8 (T * 8))).take (padN T + 8)
theorem padN_le (T : Nat) : 1 ≤ padN T ∧ padN T ≤ 64 := by unfold padN; omega

theorem take_cell {w : World} {g n : Nat} {L : List Int} {t : TypeId} (h : Blk w g (u8s L) t) (hn : n ≤ L.length) : ∀ i, i < n → w.cell? ⟨g, 0 + i, none⟩ = some (.int .u8 ((L.take n).getD i 0)) := fun i hi => by
  rw [Nat.zero_add, byteAt h i (by omega)]
  simp [List.getD, hi]
theorem tail_len (T : Nat) : (splice ((List.replicate 72 (0 : Int)).set 0 128) (padN T) (bigI 8 (T * 8))).length = 72 := by
  rw [length_splice _ _ _ (by have := padN_le T; simp [bigI_length]; omega)]; simp
theorem tailI_length (T : Nat) : (tailI T).length = padN T + 8 := by
  unfold tailI; rw [List.length_take, tail_len]; have := padN_le T; omega
theorem tailI_fits (T : Nat) : ∀ z ∈ tailI T, Fits8 z := by
  intro z hz
  refine splice_fits (L := (List.replicate 72 (0 : Int)).set 0 128) ?_ (bigI_fits _ _) z (List.mem_of_mem_take hz)
  intro y hy
  rcases List.mem_or_eq_of_mem_set hy with h | h
  · rw [List.mem_replicate] at h; unfold Fits8; omega
  · unfold Fits8; omega
theorem tail_in {w2 : World} {g q p T : Nat} (hp : p = padN T) (h : Blk w2 q (u8s (splice ((List.replicate 72 (0 : Int)).set 0 128) p (bigI 8 ((T : Int) * 8)))) 110) (hne : q ≠ g) : LIn w2 g (some ⟨q, 0, none⟩) (p + 8) (tailI T) := by
  subst hp
  refine ⟨tailI_length T, by have := padN_le T; unfold maxLen; omega, tailI_fits T, .inr ⟨q, 0, rfl, hne, ?_⟩⟩
  exact take_cell h (by rw [tail_len]; have := padN_le T; omega)

set_option maxHeartbeats 1000000 in
theorem end_of (w : World) (g : Nat) (s : St) (h : HIn w g s) (hK : KIn w) (hg : 1 ≠ g) (hT : s.T + 80 < 1152921504606846976) :
    Calls Tryd.prog 55 #[.pointer (some ⟨g, 0, none⟩)] w fun e w' => e = .returned (.tuple #[]) ∧ HIn w' g (takeI s (tailI s.T)) ∧ Only g w w' := by
  have tk := h.taken
  obtain ⟨T, hTe⟩ : ∃ T, T = s.T := ⟨_, rfl⟩
  rw [← hTe] at tk
  have HT : Hid (T = s.T) := hTe
  obtain ⟨o, hoe⟩ : ∃ o, o = T % 64 := ⟨_, rfl⟩
  have t1 : (T : Int) % 64 = o := by omega
  have t2 : (T : Int).tmod 64 = o := by rw [Int.tmod_eq_emod_of_nonneg (by omega)]; exact t1
  have T0 : (0 : Int) ≤ T := by omega
  have T1 : (T : Int) ≤ 1152921504606846975 := by omega
  have o0 : (0 : Int) ≤ o := by omega
  have o1 : (o : Int) ≤ 63 := by omega
  obtain ⟨p, hp⟩ : ∃ p, p = padN T := ⟨_, rfl⟩
  have hpe : 1 + ((119 : Int) - o).tmod 64 = p := by rw [Int.tmod_eq_emod_of_nonneg (by omega)]; unfold padN at hp; omega
  have hpe' : 1 + ((119 : Int) - o) % 64 = p := by unfold padN at hp; omega
  have HP : Hid (p = padN T ∧ 1 ≤ p ∧ p ≤ 64) := ⟨hp, by have := padN_le T; omega, by have := padN_le T; omega⟩
  have p0 : (1 : Int) ≤ p := by have := HP.out; omega
  have p1 : (p : Int) ≤ 64 := by have := HP.out; omega
  clear hTe hT hoe hp
  obtain ⟨Z, hZ⟩ : ∃ Z, Z = (u8s (List.replicate 72 0)).toArray := ⟨_, rfl⟩
  have hz : ∀ w, (zeroValue 110).run Tryd.prog w = .ok (.agg Z) w := by rw [hZ]; exact (zero_of_info Tryd.zero_a72).1
  have hZs : Z.size = 72 := by rw [hZ]; rfl
  have HZ : Hid (Z = (u8s (List.replicate 72 0)).toArray) := hZ
  clear hZ
  have hlt := h.1.lt
  clear tk
  go_enter Tryd.func55, Tryd.ntmps55
  go_upto_region 2 with fail
  generalize hV : World.alloc _ _ = V
  have hn : Blk V w.heap.size (u8s ((List.replicate 72 (0 : Int)).set 0 128)) 110 := by
    rw [← hV]; refine Blk.new' rfl ?_
    rw [HZ.out]; rfl
  have hh : HIn V g s := by rw [← hV]; exact h.alloc _
  have hb : Below w.heap.size w V := by rw [← hV]; exact (Below.refl _ _).alloc (Nat.le_refl _) _
  obtain ⟨q, hq⟩ : ∃ q, q = w.heap.size := ⟨_, rfl⟩
  rw [← hq] at hn ⊢
  have hqg : q ≠ g := by omega
  have HQ : Hid (q = w.heap.size) := hq
  clear hV hlt h hq
  have tk := hh.taken
  rw [← HT.out] at tk
  go_upto_region 3 with fail
  have hsl := fun wr => run_part (P := Tryd.prog) Tryd.underlying110 Tryd.byte1 wr q 0 .u64 .u64 (p : Int) ((p : Int) + 8) p (p + 8) rfl (by omega) (by omega) (by have := HP.out; omega) (by have := HP.out; omega)
  simp only [Nat.zero_add, Nat.add_sub_cancel_left] at hsl
  have w1 : IntKind.u64.wrap ((p : Int) + 8) = (p : Int) + 8 := by rw [IntKind.wrap_u64]; omega
  have w2 : IntKind.u64.wrap ((T : Int) * 8) = (T : Int) * 8 := by rw [IntKind.wrap_u64]; omega
  refine region_tail 9 (by kernel_rfl) (by kernel_rfl) ?_
  simp only [List.take_succ_cons, List.take_zero, List.drop_succ_cons, List.drop_zero]
  still_step
  still_step
  still_step
  still_step
  still_step
  still_step
  still_step
  still_step
  still_step
  refine wpStill_nil ?_
  go_upto_region 4 with (go_at_call 56; refine (putBig_of q p 8 (72 - p) ((T : Int) * 8) ((List.replicate 72 (0 : Int)).set 0 128) 110 V.drew (by omega) (by have := HP.out; simp; omega) hn (by omega) (by omega)).mono ?_; rintro e w2 ⟨rfl, hn2, ho2⟩)
  have hh2 : HIn w2 g s := hh.drew.only ho2 (Ne.symm hqg)
  have hV2 : Only q V w2 := (Only.drew (Only.refl q V)).trans ho2
  have hK2 : KIn w2 := (hK.below hb hK.lt).only hV2 (by have := hK.lt; have := HQ.out; omega)
  have HL : Hid (LIn w2 g (some ⟨q, 0, none⟩) (p + 8) (tailI T)) := tail_in HP.out.1 hn2 hqg
  clear hn2 ho2 tk hh hK
  have hsh := fun wr => run_part_h (P := Tryd.prog) Tryd.underlying110 Tryd.byte1 wr q 0 .u64 ((p : Int) + 8) (p + 8) (by omega) (by have := HP.out; omega) (by omega)
  go_wp2_with (go_at_call 41; refine (write_of g (p + 8) 72 (some ⟨q, 0, none⟩) (tailI T) s w2 hh2 HL.out hK2 hg (by have := HP.out; have := HT.out; omega) (by have := HP.out; omega)).mono ?_; rintro e w3 ⟨rfl, hh3, ho3⟩)
  go_end0
  have hw2 : Below w.heap.size w w2 := hb.trans (hV2.below (by have := HQ.out; omega) hb.size)
  exact ⟨rfl, by rw [← HT.out]; exact hh3, (Only.of_below hw2).trans ho3⟩
end Go.Proofs.YtpliokkmiijieaaDoor
