/- What one call of sum (of the statements' own) and of known does. -/
import Derived.Test.YtjhbcknbbbbgkaaDoorAbc
import Derived.Lib.SlBytesConst
import Derived.Deep.Cut
namespace Go.Proofs.YtjhbcknbbbbgkaaDoor
open Go.RowKit
set_option linter.unusedVariables false

/-- The program's two tables lie where its text lays them. -/
def GIn (w : World) : Prop := SIn w ∧ KIn w
theorem GIn.below {w w' : World} {B : Nat} (h : GIn w) (hb : Below B w w') (hB : 1 < B) : GIn w' := ⟨h.1.below hb (by omega), h.2.below hb hB⟩
theorem GIn.lt {w : World} (h : GIn w) : 1 < w.heap.size := h.2.lt
theorem GIn.only {g : Nat} {w w' : World} (h : GIn w) (ho : Only g w w') (hg : 1 < g) : GIn w' := ⟨fun i hi => ho.cell (h.1 i hi) (by show 0 ≠ g; omega), h.2.only ho (by omega)⟩
theorem GIn.alloc {w : World} (h : GIn w) (o : Obj) : GIn (w.alloc o) := h.below ((Below.refl _ _).alloc (Nat.le_refl _) o) h.lt

theorem abcD_le : 0 + (u8s abcD).toArray.size ≤ (u8s (List.replicate 32 0)).length := by decide
theorem abcD_info : (Tryd.prog.info? 25).map (·.size) = some (u8s abcD).toArray.size := Tryd.info_digest

set_option maxHeartbeats 1000000 in
theorem known_any (w : World) (hG : GIn w) :
    Calls Tryd.prog 7 #[] w fun e w' => e = .returned (.bool true) ∧ Below w.heap.size w w' := by
  have kc := fun (w : World) (C : Array Value) (n c : Nat) => Lib.run_convert_bytes_const (P := Tryd.prog) w 22 5 C n c Tryd.underlying22 Tryd.underlying5
  have H : Hid (GIn w) := hG
  clear hG
  go_enter Tryd.func7, Tryd.ntmps7
  go_wp2_with (go_at_call 10; refine (new_of w _ rfl H.out.1).mono ?_; rintro e w1 ⟨rfl, h1, b1, z1⟩; have kc1 := kc w1; simp only [z1] at kc1)
  generalize hV : World.alloc _ _ = V
  have pv : HIn V w.heap.size st0 ∧ Below w.heap.size w V ∧ LIn V w.heap.size (some ⟨w.heap.size + 1, 0, none⟩) 3 [97, 98, 99] := by
    rw [← hV]
    refine ⟨h1.alloc _, b1.alloc (by omega) _, rfl, by unfold maxLen; omega, by simp [Fits8], .inr ⟨w.heap.size + 1, 0, rfl, by omega, fun i hi => ?_⟩⟩
    rw [← z1, World.cell?_alloc_mark, Nat.zero_add]
    match i, hi with
    | 0, _ => rfl
    | 1, _ => rfl
    | 2, _ => rfl
  clear hV h1 b1 kc kc1
  obtain ⟨q, hq⟩ : ∃ q, q = w.heap.size := ⟨_, rfl⟩
  rw [← hq] at pv ⊢
  have HQ : Hid (q = w.heap.size ∧ 1 < q) := ⟨hq, by have := H.out.lt; omega⟩
  clear hq z1
  obtain ⟨ph, pb, pl⟩ := pv
  go_upto_region 5 with (go_at_call 11; refine (write_of q 3 3 (some ⟨q + 1, 0, none⟩) [97, 98, 99] st0 V ph pl ((H.out.below pb (by have := HQ.out; omega)).2) (by have := HQ.out; omega) (by decide) (by omega)).mono ?_; rintro e w2 ⟨rfl, h2, o2⟩)
  have b2 : Below q w w2 := pb.trans (o2.below (Nat.le_refl _) (Nat.le_of_lt ph.1.lt))
  obtain ⟨s2, hs2⟩ : ∃ s2, s2 = takeI st0 [97, 98, 99] := ⟨_, rfl⟩
  rw [← hs2] at h2
  have HS : Hid (sumI s2 = abcD ∧ s2.T = 3) := ⟨by rw [hs2]; exact abc_sum, by rw [hs2, takeI_T]; rfl⟩
  clear hs2 ph pb pl o2
  go_upto_region 6 with (first
    | (go_at_call 12; refine (digest_of w2 q s2 h2 ((H.out.below b2 (by have := HQ.out; omega)).2) (by have := HQ.out; omega) (by rw [HS.out.2]; decide)).mono ?_; rintro e w3 ⟨rfl, b3⟩; rw [HS.out.1])
    | (refine wpList_store_mid rfl 25 (.tmp 2) (.tmp 11) rfl w3.heap.size 0 (u8s abcD).toArray rfl rfl ((Blk.new' (L := u8s (List.replicate 32 0)) rfl (by kernel_rfl)).there 0 _ abcD_le) abcD_info (all_oneCell_toArray (u8s_one _)) ?_))
  generalize hU : World.setCells _ _ _ _ = U
  have pu : Blk U w3.heap.size (u8s abcD) 25 ∧ HIn U q s2 ∧ Below q w U := by
    rw [← hU]
    have hq2 := h2.1.lt
    have hsz := b3.size
    have h3 := h2.below b3 hq2
    exact ⟨(Blk.new' (L := u8s (List.replicate 32 0)) rfl (by kernel_rfl)).setAll (by decide), ⟨(h3.1.alloc _).setCells_other (by omega) _ _, h3.2⟩, below_setCells (by omega) _ _ _ ((b2.trans (b3.mono (by omega))).alloc (by omega) _)⟩
  obtain ⟨m, hm⟩ : ∃ m, m = w3.heap.size := ⟨_, rfl⟩
  rw [← hm] at pu ⊢
  obtain ⟨pd, ph, pb⟩ := pu
  have c0 : U.cell? ⟨m, 0, none⟩ = some (.int .u8 186) := pd.cell 0
  have c1 : U.cell? ⟨m, 1, none⟩ = some (.int .u8 120) := pd.cell 1
  have c2 : U.cell? ⟨m, 2, none⟩ = some (.int .u8 22) := pd.cell 2
  have c3 : U.cell? ⟨m, 31, none⟩ = some (.int .u8 173) := pd.cell 31
  clear hU hm b2 b3 h2 pd
  go_wp2_with (go_at_call 13; refine (len_of U q s2 ph).mono ?_; rintro e w4 ⟨rfl, rfl⟩; rw [HS.out.2])
  go_ret
  exact ⟨rfl, by rw [← HQ.out.1]; exact pb⟩
end Go.Proofs.YtjhbcknbbbbgkaaDoor
