/- What one call of keyBlock does. -/
import Derived.Test.YtpliokkmiijieaaDoorMacI
namespace Go.Proofs.YtpliokkmiijieaaDoor
open Go.RowKit
set_option linter.unusedVariables false
set_option maxRecDepth 4000

theorem fill_blk {w : World} {g : Nat} {zs : List Int} {t : TypeId} (h : Blk w g (splice (u8s (List.replicate 64 0)) 0 (u8s zs)) t) : Blk w g (u8s (fillI zs)) t := by
  rw [u8s_splice] at h; exact h
theorem copy_src {w : World} {q : Nat} {a : Option Addr} {n : Nat} {zs : List Int} (h : BIn w a n zs) : 0 < (u8s zs).length → (some ⟨q, 0, none⟩ : Option Addr) = some ⟨q, 0, none⟩ ∧ ∃ ad, a = some ad ∧ ∀ j v, (u8s zs)[j]? = some v → w.cell? (ad.add j) = some v := by
  intro hp
  refine ⟨rfl, ?_⟩
  obtain ⟨hl, _, _, hc⟩ := h
  rw [u8s_length, hl] at hp
  obtain ⟨b, off, rfl, hcell⟩ := hc.resolve_left (by omega)
  refine ⟨_, rfl, fun j v hj => ?_⟩
  have hjl : j < n := by
    have := (List.getElem?_eq_some_iff.1 hj).1
    rwa [u8s_length, hl] at this
  rw [Addr.add_mid, hcell j hjl, ← hj]
  simp [u8s, List.getD, hl, hjl]

set_option maxHeartbeats 1000000 in
theorem keyBlock_of (a : Option Addr) (n c : Nat) (zs : List Int) (w : World) (hG : GIn w) (hl : BIn w a n zs) (hn : n ≤ 1000000) (hc : n ≤ c) :
    Calls Tryd.prog 38 #[.slice a n c] w fun e w' => e = .returned (.agg (u8s (keyI zs)).toArray) ∧ Below w.heap.size w w' := by
  have H : Hid (GIn w ∧ BIn w a n zs ∧ n ≤ c) := ⟨hG, hl, hc⟩
  clear hG hl hc
  go_enter Tryd.func38, Tryd.ntmps38
  go_upto_region 2 with fail
  generalize hV : World.alloc _ _ = V
  obtain ⟨q, hq⟩ : ∃ q, q = w.heap.size := ⟨_, rfl⟩
  have pv : Blk V q (u8s (List.replicate 64 0)) 80 ∧ Blk V (q + 1) (u8s (List.replicate 64 0)) 80 ∧ Below q w V ∧ V.heap.size = q + 2 := by
    rw [← hV, hq]
    exact ⟨(Blk.new' rfl (by kernel_rfl)).alloc _, Blk.new' (by simp) (by kernel_rfl), ((Below.refl _ _).alloc (by omega) _).alloc (by simp) _, by simp⟩
  rw [← hq]
  have HQ : Hid (q = w.heap.size ∧ 1 < q) := ⟨hq, by have := H.out.1.lt; omega⟩
  clear hV hq
  obtain ⟨p0, p1, p2, p3⟩ := pv
  have hsl := fun w => run_whole (P := Tryd.prog) Tryd.underlying80 Tryd.byte1 w (q + 1) 0 (by omega)
  by_cases hgt : (64 : Int) < n
  · have hg : GIn V := H.out.1.below p2 HQ.out.2
    go_upto_region 4 with (go_at_call 53; refine (new_of V (q + 2) p3 hg.1).mono ?_; rintro e w1 ⟨rfl, h1, b1, z1⟩)
    have b01 : Below q w w1 := p2.trans (b1.mono (by omega))
    have HL : Hid (LIn w1 (q + 2) a n zs) := H.out.2.1.lin (by rw [← HQ.out.1]; exact b01) (by have := HQ.out; omega)
    have HK : Hid (KIn w1) := (hg.below b1 (by have := HQ.out; omega)).2
    have c0 : Blk w1 q (u8s (List.replicate 64 0)) 80 := p0.below b1 (by omega)
    have c1 : Blk w1 (q + 1) (u8s (List.replicate 64 0)) 80 := p1.below b1 (by omega)
    clear hg p0 p1 p2 p3 b1 z1
    go_upto_region 5 with (go_at_call 41; refine (write_of (q + 2) n c a zs st0 w1 h1 HL.out HK.out (by have := HQ.out; omega) (by show 0 + n < _; omega) H.out.2.2).mono ?_; rintro e w2 ⟨rfl, h2, o2⟩)
    have b02 : Below q w w2 := b01.trans (o2.below (by omega) (by have := h1.1.lt; omega))
    have d0 : Blk w2 q (u8s (List.replicate 64 0)) 80 := c0.only o2 (by omega)
    have d1 : Blk w2 (q + 1) (u8s (List.replicate 64 0)) 80 := c1.only o2 (by omega)
    have HK2 : Hid (KIn w2) := HK.out.only o2 (by have := HQ.out; omega)
    obtain ⟨s2, hs2⟩ : ∃ s2, s2 = takeI st0 zs := ⟨_, rfl⟩
    rw [← hs2] at h2
    have HS : Hid (s2.T = n ∧ s2 = takeI st0 zs) := ⟨by rw [hs2, takeI_T, H.out.2.1.1]; show 0 + n = n; omega, hs2⟩
    have hlt2 := h2.1.lt
    obtain ⟨D, hD⟩ : ∃ D, D = sumI s2 := ⟨_, rfl⟩
    have hin : (Tryd.prog.info? 59).map (·.size) = some (u8s D).length := by rw [u8s_length, hD, sumI_length]; exact Tryd.info_digest
    have HD : Hid (D = sumI s2 ∧ D.length = 32 ∧ D = shortI zs ∧ ∀ z ∈ D, Fits8 z) := ⟨hD, by rw [hD, sumI_length], by rw [hD, hs2, shortI, if_pos (by rw [H.out.2.1.1]; omega)], by rw [hD]; exact sumI_fits _⟩
    clear hD hs2 h1 b01 c0 c1 o2
    go_upto_region 6 with (first
      | (go_at_call 42; refine (digest_of w2 (q + 2) s2 h2 HK2.out (by have := HQ.out; omega) (by rw [HS.out.1]; omega)).mono ?_; rintro e w3 ⟨rfl, b3⟩; rw [← HD.out.1])
      | (refine wpList_store_mid rfl 59 (.tmp 5) (.tmp 14) rfl w3.heap.size 0 (u8s D).toArray rfl rfl ((Blk.new' (L := u8s (List.replicate 32 0)) rfl (by kernel_rfl)).there 0 _ (by simp [u8s_length, HD.out.2.1])) (by simpa using hin) (all_oneCell_toArray (u8s_one _)) ?_))
    generalize hU : World.setCells _ _ _ _ = U
    obtain ⟨m, hm⟩ : ∃ m, m = w3.heap.size := ⟨_, rfl⟩
    rw [← hm]
    have pu : Blk U m (u8s D) 59 ∧ Blk U q (u8s (List.replicate 64 0)) 80 ∧ Blk U (q + 1) (u8s (List.replicate 64 0)) 80 ∧ Below q w U ∧ q + 2 ≤ m := by
      have hsz := b3.size
      rw [← hU, ← hm]
      have l0 := d0.lt
      have l1 := d1.lt
      refine ⟨(Blk.new' (L := u8s (List.replicate 32 0)) hm.symm (by kernel_rfl)).setAll (by simp [u8s_length, HD.out.2.1]), ((d0.below b3 l0).alloc _).setCells_other (by omega) _ _, ((d1.below b3 l1).alloc _).setCells_other (by omega) _ _, below_setCells (by omega) _ _ _ ((b02.trans (b3.mono (by omega))).alloc (by omega) _), by omega⟩
    clear hU hm b3 d0 d1 b02 h2 hlt2 hin
    obtain ⟨pd, e0, e1, e2, e3⟩ := pu
    have hsd := fun w => run_whole (P := Tryd.prog) Tryd.underlying59 Tryd.byte1 w m 0 (by omega)
    have HE : Hid (BIn U (some ⟨m, 0, none⟩) 32 D) := by
      have := pd.bin HD.out.2.2.2 (by rw [HD.out.2.1]; unfold maxLen; omega)
      rwa [HD.out.2.1] at this
    go_upto_region 8 with (refine wpList_copy_splice rfl (.tmp 16) (.tmp 17) 22 22 rfl 5 Tryd.underlying22 Tryd.byte1 (some ⟨q + 1, 0, none⟩) (some ⟨m, 0, none⟩) 64 64 32 32 rfl rfl (q + 1) 0 (u8s (List.replicate 64 0)) 80 e1 (u8s D) (by rw [u8s_length, HD.out.2.1]; rfl) (copy_src HE.out) (by rw [u8s_length, u8s_length, HD.out.2.1]; decide) (u8s_one _) (q + 1) U (Below.refl _ _) (Nat.le_refl _) ?_; intro w4 h4 b4)
    have f1 : Blk w4 (q + 1) (u8s (fillI D)) 80 := fill_blk h4.out
    have f0 : Blk w4 q (u8s (List.replicate 64 0)) 80 := e0.below b4 (by omega)
    have f2 : Below q w w4 := e2.trans (b4.mono (by omega))
    obtain ⟨E, hE⟩ : ∃ E, E = fillI D := ⟨_, rfl⟩
    rw [← hE] at f1
    have HF : Hid (E = keyI zs ∧ E.length = 64) := ⟨by rw [hE, HD.out.2.2.1]; rfl, by rw [hE, fillI_length (by rw [HD.out.2.1]; omega)]⟩
    have hin : (Tryd.prog.info? 80).map (·.size) = some (u8s E).length := by rw [u8s_length, HF.out.2]; exact Tryd.info_a64
    have HT : Hid (w4.there q 0 (u8s E).toArray.size) := f0.there 0 _ (by simp [u8s_length, HF.out.2])
    clear h4 b4 hE e0 e1 e2 pd
    go_wp2_with (first
      | (refine wpList_load_mid rfl 80 (.tmp 3) rfl (q + 1) 0 rfl _ _ f1.whole Tryd.underlying80 rfl hin ?_)
      | (refine wpList_store_mid rfl 80 (.tmp 2) (.tmp 19) rfl q 0 (u8s E).toArray rfl rfl HT.out (by simpa using hin) (all_oneCell_toArray (u8s_one _)) ?_))
    have b9 := f0.setAll (vs := u8s E) (by simp [u8s_length, HF.out.2])
    refine bodyPost_ret (v := .agg (u8s E).toArray) (results_cell_one (p := 2) (ty := 80) rfl _ _ q _ _ _ rfl b9 Tryd.underlying80 rfl hin) rfl ⟨by rw [HF.out.1], ?_⟩
    rw [← HQ.out.1]
    exact below_setCells (by omega) _ _ _ f2
  · have hle : (n : Int) ≤ 64 := by omega
    have HE : Hid (BIn V a n zs) := H.out.2.1.below (by rw [← HQ.out.1]; exact p2)
    have HD : Hid (zs = shortI zs ∧ zs.length = n) := ⟨by rw [shortI, if_neg (by rw [H.out.2.1.1]; omega)], H.out.2.1.1⟩
    go_upto_region 8 with (refine wpList_copy_splice rfl (.tmp 16) (.tmp 17) 22 22 rfl 5 Tryd.underlying22 Tryd.byte1 (some ⟨q + 1, 0, none⟩) a 64 64 n c rfl rfl (q + 1) 0 (u8s (List.replicate 64 0)) 80 p1 (u8s zs) (by rw [u8s_length, HD.out.2]; exact (Nat.min_eq_left (by omega)).symm) (copy_src HE.out) (by rw [u8s_length, u8s_length, HD.out.2]; simp; omega) (u8s_one _) (q + 1) V (Below.refl _ _) (Nat.le_refl _) ?_; intro w4 h4 b4)
    have f1 : Blk w4 (q + 1) (u8s (fillI zs)) 80 := fill_blk h4.out
    have f0 : Blk w4 q (u8s (List.replicate 64 0)) 80 := p0.below b4 (by omega)
    have f2 : Below q w w4 := p2.trans (b4.mono (by omega))
    obtain ⟨E, hE⟩ : ∃ E, E = fillI zs := ⟨_, rfl⟩
    rw [← hE] at f1
    have HF : Hid (E = keyI zs ∧ E.length = 64) := ⟨by rw [hE, keyI, ← HD.out.1], by rw [hE, fillI_length (by rw [HD.out.2]; omega)]⟩
    have hin : (Tryd.prog.info? 80).map (·.size) = some (u8s E).length := by rw [u8s_length, HF.out.2]; exact Tryd.info_a64
    have HT : Hid (w4.there q 0 (u8s E).toArray.size) := f0.there 0 _ (by simp [u8s_length, HF.out.2])
    clear h4 b4 hE p0 p1 p2
    go_wp2_with (first
      | (refine wpList_load_mid rfl 80 (.tmp 3) rfl (q + 1) 0 rfl _ _ f1.whole Tryd.underlying80 rfl hin ?_)
      | (refine wpList_store_mid rfl 80 (.tmp 2) (.tmp 19) rfl q 0 (u8s E).toArray rfl rfl HT.out (by simpa using hin) (all_oneCell_toArray (u8s_one _)) ?_))
    have b9 := f0.setAll (vs := u8s E) (by simp [u8s_length, HF.out.2])
    refine bodyPost_ret (v := .agg (u8s E).toArray) (results_cell_one (p := 2) (ty := 80) rfl _ _ q _ _ _ rfl b9 Tryd.underlying80 rfl hin) rfl ⟨by rw [HF.out.1], ?_⟩
    rw [← HQ.out.1]
    exact below_setCells (by omega) _ _ _ f2
end Go.Proofs.YtpliokkmiijieaaDoor
