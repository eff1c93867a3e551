/- What one call of Of does: the tag of the lists, one behind the other; nothing that was there is touched. -/
import Derived.Test.YtpliokkmiijieaaDoorLists
import Derived.Test.YtpliokkmiijieaaDoorKeyBlock
import Derived.Test.YtpliokkmiijieaaDoorPadded
import Derived.Test.YtpliokkmiijieaaDoorBegun
namespace Go.Proofs.YtpliokkmiijieaaDoor
open Go.RowKit
set_option linter.unusedVariables false
set_option maxRecDepth 4000

set_option maxHeartbeats 2000000 in
theorem of_of (a : Option Addr) (n c : Nat) (zs : List Int) (al : Option Addr) (ll cl : Nat) (P : Nat → List Int) (w : World) (hG : GIn w) (hl : BIn w a n zs) (hn : n ≤ 1000000) (hc : n ≤ c)
    (hp : PsIn w al ll P) (hll : ll ≤ 1000) (hpl : ∀ r, r < ll → (P r).length ≤ 1000000) :
    Calls Tryd.prog 24 #[.slice a n c, .slice al ll cl] w fun e w' => e = .returned (.agg (u8s (ofI zs (joinN P ll))).toArray) ∧ Below w.heap.size w w' := by
  have H : Hid (GIn w ∧ BIn w a n zs ∧ n ≤ c ∧ PsIn w al ll P ∧ ∀ r, r < ll → (P r).length ≤ 1000000) := ⟨hG, hl, hc, hp, hpl⟩
  clear hG hl hc hp hpl
  go_enter Tryd.func24, Tryd.ntmps24
  go_upto_region 1 with fail
  generalize hV : World.alloc _ _ = V
  obtain ⟨q, hq⟩ : ∃ q, q = w.heap.size := ⟨_, rfl⟩
  have pv : Blk V q (u8s (List.replicate 32 0)) 59 ∧ Below q w V ∧ V.heap.size = q + 1 := by
    rw [← hV, hq]
    exact ⟨Blk.new' rfl (by kernel_rfl), (Below.refl _ _).alloc (by omega) _, by simp⟩
  rw [← hq]
  have HQ : Hid (q = w.heap.size ∧ 1 < q) := ⟨hq, by have := H.out.1.lt; omega⟩
  clear hV hq
  obtain ⟨K, hK⟩ : ∃ K, K = keyI zs := ⟨_, rfl⟩
  have HK : Hid (K = keyI zs ∧ K.length = 64 ∧ ∀ z ∈ K, Fits8 z) := ⟨hK, by rw [hK, keyI_length], by rw [hK]; exact keyI_fits H.out.2.1.2.2.1⟩
  have hin : (Tryd.prog.info? 80).map (·.size) = some (u8s K).length := by rw [u8s_length, HK.out.2.1]; exact Tryd.info_a64
  clear hK
  obtain ⟨p0, p1, p2⟩ := pv
  have HP : Hid (GIn V ∧ BIn V a n zs) := ⟨H.out.1.below p1 HQ.out.2, H.out.2.1.below (by rw [← HQ.out.1]; exact p1)⟩
  go_upto_region 2 with (first
    | (go_at_call 38; refine (keyBlock_of a n c zs V HP.out.1 HP.out.2 hn H.out.2.2.1).mono ?_; rintro e w1 ⟨rfl, b1⟩; rw [← HK.out.1])
    | (refine wpList_store_mid rfl 80 (.tmp 5) (.tmp 12) rfl w1.heap.size 0 (u8s K).toArray rfl rfl ((Blk.new' (L := u8s (List.replicate 64 0)) rfl (by kernel_rfl)).there 0 _ (by simp [u8s_length, HK.out.2.1])) (by simpa using hin) (all_oneCell_toArray (u8s_one _)) ?_))
  generalize hU : World.setCells _ _ _ _ = U
  obtain ⟨m, hm⟩ : ∃ m, m = w1.heap.size := ⟨_, rfl⟩
  rw [← hm]
  have pu : Blk U q (u8s (List.replicate 32 0)) 59 ∧ Blk U m (u8s K) 80 ∧ Below q w U ∧ U.heap.size = m + 1 ∧ q < m := by
    have hsz := b1.size
    rw [← hU, ← hm]
    refine ⟨((p0.below b1 (by omega)).alloc _).setCells_other (by omega) _ _, (Blk.new' (L := u8s (List.replicate 64 0)) hm.symm (by kernel_rfl)).setAll (by simp [u8s_length, HK.out.2.1]), below_setCells (by omega) _ _ _ ((p1.trans (b1.mono (by omega))).alloc (by omega) _), by rw [size_setCells']; simp [hm], by omega⟩
  clear hU hm b1 p0 p1 p2 HP
  obtain ⟨u0, u1, u2, u3, u4⟩ := pu
  have HU : Hid (GIn U) := H.out.1.below u2 HQ.out.2
  go_upto_region 3 with (first
    | (refine wpList_load_mid rfl 80 (.tmp 5) rfl m 0 rfl _ _ u1.whole Tryd.underlying80 rfl hin ?_)
    | (go_at_call 40; refine (padded_of K 54 U HK.out.2.1).mono ?_; rintro e w2 ⟨rfl, b2⟩; obtain ⟨k2, hk2⟩ : ∃ k2, w2.heap.size = k2 := ⟨_, rfl⟩)
    | (go_at_call 39; refine (begun_of (xorI 54 K) w2 k2 hk2 (HU.out.below b2 HU.out.lt) (by rw [xorI_length, HK.out.2.1]) (xorI_fits (by unfold Fits8; omega) HK.out.2.2)).mono ?_; rintro e w3 ⟨rfl, h3, b3⟩))
  obtain ⟨g, hg⟩ : ∃ g, g = k2 + 1 := ⟨_, rfl⟩
  rw [← hg] at h3 ⊢
  obtain ⟨s1, hs1⟩ : ∃ s1, s1 = takeI st0 (xorI 54 K) := ⟨_, rfl⟩
  rw [← hs1] at h3
  have HS1 : Hid (s1 = takeI st0 (xorI 54 K) ∧ s1.T = 64) := ⟨hs1, by rw [hs1, takeI_T, xorI_length, HK.out.2.1]; rfl⟩
  have pw : Blk w3 q (u8s (List.replicate 32 0)) 59 ∧ Blk w3 m (u8s K) 80 ∧ Below q w w3 ∧ m + 1 < g := by
    have hs2 := b2.size
    exact ⟨(u0.below b2 u0.lt).below b3 (by omega), (u1.below b2 u1.lt).below b3 (by omega), (u2.trans (b2.mono (by omega))).trans (b3.mono (by omega)), by omega⟩
  clear hg hs1 b2 b3 u0 u1 u2 u3 hk2 HU
  obtain ⟨v0, v1, v2, v3⟩ := pw
  go_wp2
  go_loopw [18] (fun i wr => ∃ k : Nat, k ≤ ll ∧ i = .int .i64 k ∧ HIn wr g (takeI s1 (joinN P k)) ∧ Blk wr q (u8s (List.replicate 32 0)) 59 ∧ Blk wr m (u8s K) 80 ∧ Below q w wr)
    (fun i _ => ll - (intOf i).toNat)
  case atStart => exact ⟨0, by omega, rfl, h3, v0, v1, v2⟩
  case round =>
    clear h3 v0 v1 v2
    obtain ⟨k, hk, rfl, hh, b0, b1, hb⟩ := hrel
    have HT : Hid ((takeI s1 (joinN P k)).T ≤ 64 + 1000 * 1000000) := by
      have h1 := joinN_length H.out.2.2.2.2 k hk
      have h2 : k * 1000000 ≤ 1000 * 1000000 := Nat.mul_le_mul_right _ (by omega)
      show _ ≤ _
      rw [takeI_T, HS1.out.2]; omega
    by_cases hlt : k < ll
    · have hlt' : (k : Int) < ll := by omega
      obtain ⟨b, off, ha, hrow⟩ := H.out.2.2.2.1.resolve_left (by omega)
      subst ha
      obtain ⟨A, L, C, hcell, hB, hLC, hnil⟩ := hrow k hlt
      have hck : wr.cell? ⟨b, off + k, none⟩ = some (.slice A L C) := by rw [hb.cell (by rw [HQ.out.1]; exact old_block hcell)]; exact hcell
      have HB : Hid (LIn wr g A L (P k) ∧ L ≤ C ∧ KIn wr ∧ L ≤ 1000000) := by
        refine ⟨hB.lin (by rw [← HQ.out.1]; exact hb) (by have := HQ.out; omega), hLC, (H.out.1.below hb HQ.out.2).2, ?_⟩
        have := H.out.2.2.2.2 k hlt
        rwa [hB.1] at this
      clear hrow hcell hB hLC hnil
      go_wp2_with (go_at_call 41; refine (write_of g L C A (P k) (takeI s1 (joinN P k)) wr hh HB.out.1 HB.out.2.2.1 (by have := HQ.out; omega) (by have := HT.out; have := HB.out.2.2.2; omega) HB.out.2.1).mono ?_; rintro e w4 ⟨rfl, h4, o4⟩)
      have r0 := b0.only o4 (by omega)
      have r1 := b1.only o4 (by omega)
      have r2 : Below q w w4 := hb.trans (o4.below (by omega) (by have := b0.lt; omega))
      have r3 : HIn w4 g (takeI s1 (joinN P (k + 1))) := by rw [joinN, takeI_append]; exact h4
      go_roundw
      case rel => exact ⟨k + 1, by omega, by go_num, r3, r0, r1, r2⟩
      case measure => simp [intOf]; omega
    · have hge : (ll : Int) ≤ k := by omega
      obtain ⟨s2, hs2⟩ : ∃ s2, s2 = takeI s1 (joinN P k) := ⟨_, rfl⟩
      rw [← hs2] at hh HT
      obtain ⟨D, hD⟩ : ∃ D, D = sumI s2 := ⟨_, rfl⟩
      have hke : k = ll := by omega
      have HD : Hid (D = sumI s2 ∧ D.length = 32 ∧ (∀ z ∈ D, Fits8 z) ∧ D = innerI zs (joinN P ll)) := ⟨hD, by rw [hD, sumI_length], by rw [hD]; exact sumI_fits _, by rw [hD, hs2, hke, HS1.out.1, HK.out.1]; rfl⟩
      have hid : (Tryd.prog.info? 59).map (·.size) = some (u8s D).length := by rw [u8s_length, HD.out.2.1]; exact Tryd.info_digest
      have HKW : Hid (KIn wr) := (H.out.1.below hb HQ.out.2).2
      clear hs2 hD hke
      go_upto_region 9 with (first
        | (go_at_call 42; refine (digest_of wr g s2 hh HKW.out (by have := HQ.out; omega) (by have := HT.out; omega)).mono ?_; rintro e w4 ⟨rfl, b4⟩; rw [← HD.out.1])
        | (refine wpList_store_mid rfl 59 (.tmp 9) (.tmp 27) rfl w4.heap.size 0 (u8s D).toArray rfl rfl ((Blk.new' (L := u8s (List.replicate 32 0)) rfl (by kernel_rfl)).there 0 _ (by simp [u8s_length, HD.out.2.1])) (by simpa using hid) (all_oneCell_toArray (u8s_one _)) ?_))
      generalize hX : World.setCells _ _ _ _ = X
      obtain ⟨d, hd⟩ : ∃ d, d = w4.heap.size := ⟨_, rfl⟩
      rw [← hd]
      have px : Blk X q (u8s (List.replicate 32 0)) 59 ∧ Blk X m (u8s K) 80 ∧ Blk X d (u8s D) 59 ∧ Below q w X ∧ X.heap.size = d + 1 ∧ m < d := by
        have hsz := b4.size
        have l0 := b0.lt
        have l1 := b1.lt
        rw [← hX, ← hd]
        refine ⟨((b0.below b4 l0).alloc _).setCells_other (by omega) _ _, ((b1.below b4 l1).alloc _).setCells_other (by omega) _ _, (Blk.new' (L := u8s (List.replicate 32 0)) hd.symm (by kernel_rfl)).setAll (by simp [u8s_length, HD.out.2.1]), below_setCells (by omega) _ _ _ ((hb.trans (b4.mono (by omega))).alloc (by omega) _), by rw [size_setCells']; simp [hd], by omega⟩
      clear hX hd b4 b0 b1 hb hh HKW HT
      obtain ⟨x0, x1, x2, x3, x4, x5⟩ := px
      have HX : Hid (GIn X) := H.out.1.below x3 HQ.out.2
      go_upto_region 10 with (first
        | (refine wpList_load_mid rfl 80 (.tmp 5) rfl m 0 rfl _ _ x1.whole Tryd.underlying80 rfl hin ?_)
        | (go_at_call 40; refine (padded_of K 92 X HK.out.2.1).mono ?_; rintro e w5 ⟨rfl, b5⟩; obtain ⟨k5, hk5⟩ : ∃ k5, w5.heap.size = k5 := ⟨_, rfl⟩)
        | (go_at_call 39; refine (begun_of (xorI 92 K) w5 k5 hk5 (HX.out.below b5 HX.out.lt) (by rw [xorI_length, HK.out.2.1]) (xorI_fits (by unfold Fits8; omega) HK.out.2.2)).mono ?_; rintro e w6 ⟨rfl, h6, b6⟩))
      obtain ⟨g2, hg2⟩ : ∃ g2, g2 = k5 + 1 := ⟨_, rfl⟩
      rw [← hg2] at h6 ⊢
      obtain ⟨s3, hs3⟩ : ∃ s3, s3 = takeI st0 (xorI 92 K) := ⟨_, rfl⟩
      rw [← hs3] at h6
      have HS3 : Hid (s3 = takeI st0 (xorI 92 K) ∧ s3.T = 64) := ⟨hs3, by rw [hs3, takeI_T, xorI_length, HK.out.2.1]; rfl⟩
      have py : Blk w6 q (u8s (List.replicate 32 0)) 59 ∧ Blk w6 d (u8s D) 59 ∧ Below q w w6 ∧ d < g2 := by
        have hs5 := b5.size
        exact ⟨(x0.below b5 x0.lt).below b6 (by omega), (x2.below b5 x2.lt).below b6 (by omega), (x3.trans (b5.mono (by omega))).trans (b6.mono (by omega)), by omega⟩
      clear hg2 hs3 b5 b6 x0 x1 x2 x3 x4 hk5 HX
      obtain ⟨y0, y1, y2, y3⟩ := py
      have hsl := fun w => run_whole (P := Tryd.prog) Tryd.underlying59 Tryd.byte1 w d 0 (by omega)
      have HY : Hid (KIn w6 ∧ LIn w6 g2 (some ⟨d, 0, none⟩) 32 D) := ⟨(H.out.1.below y2 HQ.out.2).2, y1.lin HD.out.2.2.1 HD.out.2.1 (by unfold maxLen; omega) (by omega)⟩
      go_upto_region 11 with (go_at_call 41; refine (write_of g2 32 32 (some ⟨d, 0, none⟩) D s3 w6 h6 HY.out.2 HY.out.1 (by have := HQ.out; omega) (by rw [HS3.out.2]; omega) (Nat.le_refl _)).mono ?_; rintro e w7 ⟨rfl, h7, o7⟩)
      have z0 := y0.only o7 (by omega)
      have z1 : Below q w w7 := y2.trans (o7.below (by omega) (by have := y0.lt; omega))
      have HZ : Hid (KIn w7) := (H.out.1.below z1 HQ.out.2).2
      obtain ⟨s4, hs4⟩ : ∃ s4, s4 = takeI s3 D := ⟨_, rfl⟩
      rw [← hs4] at h7
      obtain ⟨E, hE⟩ : ∃ E, E = sumI s4 := ⟨_, rfl⟩
      have HE : Hid (E = sumI s4 ∧ E.length = 32 ∧ E = ofI zs (joinN P ll) ∧ s4.T = 96) := ⟨hE, by rw [hE, sumI_length], by rw [hE, hs4, HS3.out.1, HK.out.1, HD.out.2.2.2]; rfl, by rw [hs4, takeI_T, HS3.out.2, HD.out.2.1]⟩
      have hie : (Tryd.prog.info? 59).map (·.size) = some (u8s E).length := by rw [u8s_length, HE.out.2.1]; exact Tryd.info_digest
      clear hs4 hE y0 y1 y2 o7 h6 HY
      go_wp2_with (first
        | (go_at_call 42; refine (digest_of w7 g2 s4 h7 HZ.out (by have := HQ.out; omega) (by rw [HE.out.2.2.2]; omega)).mono ?_; rintro e w8 ⟨rfl, b8⟩; rw [← HE.out.1]; have z8 := z0.below b8 z0.lt)
        | (refine wpList_store_mid rfl 59 (.tmp 4) (.tmp 35) rfl q 0 (u8s E).toArray rfl rfl (z8.there 0 _ (by simp [u8s_length, HE.out.2.1])) (by simpa using hie) (all_oneCell_toArray (u8s_one _)) ?_))
      have b9 := z8.setAll (vs := u8s E) (by simp [u8s_length, HE.out.2.1])
      refine bodyPost_ret (v := .agg (u8s E).toArray) (results_cell_one (p := 4) (ty := 59) rfl _ _ q _ _ _ rfl b9 Tryd.underlying59 rfl hie) rfl ⟨by rw [HE.out.2.2.1], ?_⟩
      rw [← HQ.out.1]
      exact below_setCells (by omega) _ _ _ (z1.trans (b8.mono (by have := z0.lt; omega)))
end Go.Proofs.YtpliokkmiijieaaDoor
