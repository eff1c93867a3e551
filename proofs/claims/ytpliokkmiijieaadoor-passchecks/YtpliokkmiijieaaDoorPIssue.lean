/- What one call of Issue does. -/
import Derived.Test.YtpliokkmiijieaaDoorPTok
import Derived.Test.YtpliokkmiijieaaDoorFar
namespace Go.Proofs.YtpliokkmiijieaaDoor
open Go.RowKit
set_option linter.unusedVariables false
set_option maxRecDepth 4000

theorem own_same {w w' : World} {base : Nat} {v : Value} {n : Nat} {xs : List Value} (h : w.ownsRow base 5 1 v n xs) (hs : ∀ g, v.ownBlock = some g → w'.heap[g]? = w.heap[g]?) : w'.ownsRow base 5 1 v n xs := by
  obtain ⟨h1, h2⟩ := h
  refine ⟨h1, ?_⟩
  rcases h2 with h2 | ⟨k, cap, cur, hv, hbk, hk, hr⟩
  · exact .inl h2
  · exact .inr ⟨k, cap, cur, hv, hbk, by rw [hs k (by rw [hv]; rfl)]; exact hk, hr⟩
theorem own_setCells {w : World} {base g o : Nat} {v : Value} {n : Nat} {xs vs : List Value} (h : w.ownsRow base 5 1 v n xs) (hg : v.ownBlock ≠ some g) : (w.setCells g o vs).ownsRow base 5 1 v n xs :=
  own_same h fun k hk => World.heap_setCells_other w g o vs (h.lt k hk).2 (by intro e; subst e; exact hg hk)
theorem join_one (Y : List Int) : joinN (fun _ => Y) 1 = Y := by simp [joinN]
theorem Tryd.info_tag : (Tryd.prog.info? 59).map (·.size) = some 32 := by kernel_rfl

set_option maxHeartbeats 1000000 in
theorem passIssue_of (a : Option Addr) (n c : Nat) (key : List Int) (t : Tok) (w : World) (hG : GIn w) (hk : BIn w a n key) (hn : n ≤ 1000000) (hc : n ≤ c) (ht : t.Fits) :
    Calls Tryd.prog 10 #[.slice a n c, tokV t] w fun e w' => e = .returned (.string (strOfNums (issueI key t))) ∧ Below w.heap.size w w' := by
  obtain ⟨q, hq⟩ : ∃ q, q = w.heap.size := ⟨_, rfl⟩
  have H : Hid (q = w.heap.size ∧ GIn w ∧ BIn w a n key ∧ n ≤ c ∧ t.Fits) := ⟨hq, hG, hk, hc, ht⟩
  rw [← hq]
  clear hG hk hc ht
  have hb0 : Blk (w.alloc (.cells (tokL t).toArray 26)) q (tokL t) 26 := Blk.new' hq.symm rfl
  have B := bodyOf_of t (w.alloc (.cells (tokL t).toArray 26)) H.out.2.2.2.2
  rw [World.size_alloc, ← hq] at B
  have HW : Hid (Below q w (w.alloc (.cells (tokL t).toArray 26))) := (Below.refl q w).alloc (by omega) _
  have e : tokV t = .agg (tokL t).toArray := rfl
  rw [e] at B ⊢
  go_enter Tryd.func10, Tryd.ntmps10
  go_upto_region 1 with fail
  rw [← hq]
  go_upto_region 2 with (first
    | (refine wpList_load_mid rfl 26 (.tmp 3) rfl q 0 rfl _ _ hb0.whole Tryd.underlying26 rfl Tryd.info_token ?_)
    | (go_at_call 23; refine B.mono ?_; rintro e w1 ⟨a1, c1, rfl, ow1, b1⟩))
  obtain ⟨X, hX⟩ : ∃ X, X = bodyI t := ⟨_, rfl⟩
  rw [← hX] at ow1
  have HX : Hid (X = bodyI t ∧ X.length = 18 ∧ ∀ z ∈ X, Fits8 z) := ⟨hX, by rw [hX, bodyI_length], by rw [hX]; exact bodyI_fits t⟩
  obtain ⟨D, hD⟩ : ∃ D, D = ofI key X := ⟨_, rfl⟩
  have HD : Hid (D = ofI key X ∧ D.length = 32 ∧ (∀ z ∈ D, Fits8 z) ∧ issueI key t = wrI (X ++ D)) := ⟨hD, by rw [hD, ofI_length], by rw [hD]; exact sumI_fits _, by rw [hD, hX]; rfl⟩
  have hid : (Tryd.prog.info? 59).map (·.size) = some (u8s D).length := by rw [u8s_length, HD.out.2.1]; exact Tryd.info_tag
  have H1 : Hid (w1.ownsRow (q + 1) 5 1 (.slice a1 18 c1) 18 (u8s X) ∧ Below q w w1 ∧ q + 1 ≤ w1.heap.size ∧ GIn w1 ∧ BIn w1 a n key) := by
    have b : Below q w w1 := HW.out.trans (b1.mono (by omega))
    have b' : Below w.heap.size w w1 := by rw [← H.out.1]; exact b
    refine ⟨ow1, b, ?_, H.out.2.1.below b' H.out.2.1.lt, H.out.2.2.1.below b'⟩
    have := b1.size; simp at this; omega
  have F : Hid (∀ o, BIn (w1.alloc o) a1 18 X) := fun o => (own_bin H1.out.1 (by unfold maxLen; omega) HX.out.2.2).alloc o
  have O := of_of a n c key (some ⟨w1.heap.size, 0, none⟩) 1 1 (fun _ => X) (w1.alloc (.cells #[.slice a1 18 c1] 22)) (H1.out.2.2.2.1.alloc _) (H1.out.2.2.2.2.alloc _) hn H.out.2.2.2.1 (one_ps rfl (own_bin H1.out.1 (by unfold maxLen; omega) HX.out.2.2) (own_cap1 H1.out.1) (own_nil H1.out.1)) (by omega) (fun r _ => by show X.length ≤ _; rw [HX.out.2.1]; omega)
  rw [join_one, ← HD.out.1] at O
  clear hX hD ow1 b1 B hb0 e HW
  go_upto_region 3 with (first
    | (go_at_call 24; refine O.mono ?_; rintro e w2 ⟨rfl, b2⟩)
    | (refine wpList_store_mid rfl 59 (.tmp 6) (.tmp 12) rfl w2.heap.size 0 (u8s D).toArray rfl rfl ((Blk.new' (L := u8s (List.replicate 32 0)) rfl (by kernel_rfl)).there 0 _ (by simp [u8s_length, HD.out.2.1])) (by simpa using hid) (all_oneCell_toArray (u8s_one _)) ?_))
  generalize hU : World.setCells _ _ _ _ = U
  obtain ⟨m, hm⟩ : ∃ m, m = w2.heap.size := ⟨_, rfl⟩
  rw [← hm]
  have H2 : Hid (U.ownsRow (q + 1) 5 1 (.slice a1 18 c1) 18 (u8s X) ∧ BIn U (some ⟨m, 0, none⟩) 32 D ∧ Below q w U ∧ q + 1 ≤ U.heap.size) := by
    have hs := H1.out.2.2.1
    have hb2 := b2.size
    simp only [World.size_alloc] at hb2
    have bw : Below (w1.heap.size + 1) (w1.alloc (.cells #[.slice a1 18 c1] 22)) w2 := by simpa using b2
    have o2 : w2.ownsRow (q + 1) 5 1 (.slice a1 18 c1) 18 (u8s X) := own_below (H1.out.1.alloc _) b2
    have bl : Below q w w2 := (H1.out.2.1.alloc (by omega) _).trans (bw.mono (by omega))
    rw [← hU]
    refine ⟨own_setCells (o2.alloc _) ?_, ?_, below_setCells (by omega) _ _ _ (bl.alloc (by omega) _), by rw [size_setCells']; simp; omega⟩
    · intro h
      have := (o2.lt _ h).2
      omega
    · have hb := (Blk.new' (w := w2) (t := 59) (L := u8s (List.replicate 32 0)) (C := (u8s (List.replicate 32 0)).toArray) hm.symm rfl).setAll (vs := u8s D) (by simp [u8s_length, HD.out.2.1])
      have := Blk.bin hb HD.out.2.2.1 (by rw [HD.out.2.1]; unfold maxLen; omega)
      rw [HD.out.2.1] at this
      rw [← hm]
      exact this
  clear hU hm b2 O
  have hsl := fun w => run_whole (P := Tryd.prog) Tryd.underlying59 Tryd.byte1 w m 0 (by omega)
  go_wp2_with (first
    | (at_builtin; refine wpList_append_bin rfl (.tmp 13) (.tmp 14) rfl (q + 1) a1 18 c1 X rfl H2.out.1 (some ⟨m, 0, none⟩) 32 32 D rfl H2.out.2.1 (fun h => by cases h) (by omega) H2.out.2.2.2 ?_; intro a3 c3 w3 ow3 bl3; have H3 : Hid (BIn w3 a3 50 (X ++ D) ∧ Below q w w3 ∧ q ≤ w3.heap.size) := ⟨own_bin ow3 (by unfold maxLen; omega) (fun z hz => (List.mem_append.1 hz).elim (HX.out.2.2 z) (HD.out.2.2.1 z)), H2.out.2.2.1.trans (bl3.mono (by omega)), by have := bl3.size; have := H2.out.2.2.2; omega⟩)
    | (go_at_call 25; refine (spWrite_of a3 50 c3 (X ++ D) w3 H3.out.1 (by omega)).mono ?_; rintro e w4 ⟨rfl, b4⟩))
  go_ret
  exact ⟨by rw [HD.out.2.2.2]; rfl, H3.out.2.1.trans (b4.mono H3.out.2.2)⟩
end Go.Proofs.YtpliokkmiijieaaDoor
