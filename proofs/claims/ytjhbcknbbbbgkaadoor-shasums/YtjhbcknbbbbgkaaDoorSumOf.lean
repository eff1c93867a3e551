/- What one call of the statements' own sum does: the digest of the bytes; nothing that was there is touched. -/
import Derived.Test.YtjhbcknbbbbgkaaDoorKnown
namespace Go.Proofs.YtjhbcknbbbbgkaaDoor
open Go.RowKit
set_option linter.unusedVariables false

/-- A list of bytes that lies in the world. -/
def BIn (w : World) (a : Option Addr) (len : Nat) (zs : List Int) : Prop :=
  zs.length = len ∧ len ≤ maxLen ∧ (∀ z ∈ zs, Fits8 z) ∧
  (len = 0 ∨ ∃ b off, a = some ⟨b, off, none⟩ ∧ ∀ i, i < len → w.cell? ⟨b, off + i, none⟩ = some (.int .u8 (zs.getD i 0)))
theorem BIn.lin {w w' : World} {g : Nat} {a : Option Addr} {len : Nat} {zs : List Int} (h : BIn w a len zs) (hb : Below w.heap.size w w') (hg : w.heap.size ≤ g) : LIn w' g a len zs := by
  obtain ⟨h1, h2, h3, h4⟩ := h
  refine ⟨h1, h2, h3, ?_⟩
  rcases h4 with h4 | ⟨b, off, ha, hc⟩
  · exact .inl h4
  · by_cases h0 : len = 0
    · exact .inl h0
    · have hlt : b < w.heap.size := old_block (hc 0 (by omega))
      exact .inr ⟨b, off, ha, by omega, fun i hi => by rw [hb.cell (by exact hlt)]; exact hc i hi⟩
theorem BIn.below {w w' : World} {a : Option Addr} {len : Nat} {zs : List Int} (h : BIn w a len zs) (hb : Below w.heap.size w w') : BIn w' a len zs := by
  obtain ⟨h1, h2, h3, h4⟩ := h
  refine ⟨h1, h2, h3, ?_⟩
  rcases h4 with h4 | ⟨b, off, ha, hc⟩
  · exact .inl h4
  · exact .inr ⟨b, off, ha, fun i hi => by rw [hb.cell (old_block (hc i hi))]; exact hc i hi⟩

set_option maxHeartbeats 1000000 in
theorem sum_of (a : Option Addr) (n c : Nat) (zs : List Int) (w : World) (hG : GIn w) (hl : BIn w a n zs) (hn : n ≤ 1000000) (hc : n ≤ c) :
    Calls Tryd.prog 8 #[.slice a n c] w fun e w' => e = .returned (.agg (u8s (sumI (takeI st0 zs))).toArray) ∧ Below w.heap.size w w' := by
  have H : Hid (GIn w ∧ BIn w a n zs) := ⟨hG, hl⟩
  clear hG hl
  go_enter Tryd.func8, Tryd.ntmps8
  go_upto_region 1 with fail
  generalize hV : World.alloc _ _ = V
  have pv : Blk V w.heap.size (u8s (List.replicate 32 0)) 25 ∧ Below w.heap.size w V ∧ V.heap.size = w.heap.size + 1 := by
    rw [← hV]
    exact ⟨Blk.new' rfl (by kernel_rfl), (Below.refl _ _).alloc (Nat.le_refl _) _, by simp⟩
  obtain ⟨q, hq⟩ : ∃ q, q = w.heap.size := ⟨_, rfl⟩
  rw [← hq] at pv ⊢
  have HQ : Hid (q = w.heap.size ∧ 1 < q) := ⟨hq, by have := H.out.1.lt; omega⟩
  clear hq hV
  obtain ⟨pz, pb, ps⟩ := pv
  have hg : GIn V := H.out.1.below pb (by have := HQ.out; omega)
  go_upto_region 2 with (go_at_call 10; refine (new_of V (q + 1) ps hg.1).mono ?_; rintro e w1 ⟨rfl, h1, b1, z1⟩)
  have b01 : Below q w w1 := pb.trans (b1.mono (by omega))
  have HL : Hid (LIn w1 (q + 1) a n zs) := H.out.2.lin (by rw [← HQ.out.1]; exact b01) (by have := HQ.out; omega)
  have HK : Hid (KIn w1) := (hg.below b1 (by have := HQ.out; omega)).2
  have p1 : Blk w1 q (u8s (List.replicate 32 0)) 25 := pz.below b1 (by omega)
  clear hg pz pb ps b1
  go_upto_region 3 with (go_at_call 11; refine (write_of (q + 1) n c a zs st0 w1 h1 HL.out HK.out (by have := HQ.out; omega) (by show 0 + n < _; omega) hc).mono ?_; rintro e w2 ⟨rfl, h2, o2⟩)
  have b02 : Below q w w2 := b01.trans (o2.below (by omega) (by omega))
  have p2 : Blk w2 q (u8s (List.replicate 32 0)) 25 := p1.only o2 (by omega)
  have HK2 : Hid (KIn w2) := HK.out.only o2 (by have := HQ.out; omega)
  obtain ⟨s2, hs2⟩ : ∃ s2, s2 = takeI st0 zs := ⟨_, rfl⟩
  rw [← hs2] at h2
  have HS : Hid (s2.T = n ∧ s2 = takeI st0 zs) := ⟨by rw [hs2, takeI_T, H.out.2.1]; show 0 + n = n; omega, hs2⟩
  have hlt2 := h2.1.lt
  clear hs2 h1 b01 p1 o2 z1
  obtain ⟨D, hD⟩ : ∃ D, D = sumI s2 := ⟨_, rfl⟩
  have hin : (Tryd.prog.info? 25).map (·.size) = some (u8s D).length := by rw [u8s_length, hD, sumI_length]; exact Tryd.info_digest
  have HD : Hid (D = sumI s2 ∧ D.length = 32) := ⟨hD, by rw [hD, sumI_length]⟩
  clear hD
  go_wp2_with (first
    | (go_at_call 12; refine (digest_of w2 (q + 1) s2 h2 HK2.out (by have := HQ.out; omega) (by rw [HS.out.1]; omega)).mono ?_; rintro e w3 ⟨rfl, b3⟩; rw [← HD.out.1]; have p3 := p2.below b3 (by omega))
    | (refine wpList_store_mid rfl 25 (.tmp 2) (.tmp 9) rfl q 0 (u8s D).toArray rfl rfl (p3.there 0 _ (by simp [u8s_length, HD.out.2])) (by simpa using hin) (all_oneCell_toArray (u8s_one _)) ?_))
  have b9 := p3.setAll (vs := u8s D) (by simp [u8s_length, HD.out.2])
  refine bodyPost_ret (v := .agg (u8s D).toArray) (results_cell_one (p := 2) (ty := 25) rfl _ _ q _ _ _ rfl b9 Tryd.underlying25 rfl hin) rfl ⟨by rw [HD.out.1, HS.out.2], ?_⟩
  rw [← HQ.out.1]
  exact below_setCells (by omega) _ _ _ (b02.trans (b3.mono (by omega)))
end Go.Proofs.YtjhbcknbbbbgkaaDoor
