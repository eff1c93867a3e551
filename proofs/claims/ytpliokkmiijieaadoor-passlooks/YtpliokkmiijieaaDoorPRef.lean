/- What one call of the document's big, body, Issue, number and Look does. -/
import Derived.Test.YtpliokkmiijieaaDoorPCheck
import Derived.Test.YtpliokkmiijieaaDoorSpRefRead
import Derived.Test.YtpliokkmiijieaaDoorRefOf
namespace Go.Proofs.YtpliokkmiijieaaDoor
open Go.RowKit
set_option linter.unusedVariables false
set_option maxRecDepth 4000

set_option maxHeartbeats 1000000 in
theorem refBig_of (v : Int) (k : Nat) (w : World) (v0 : 0 ≤ v) (v1 : v < 18446744073709551616) (hk : k ≤ 8) :
    Calls Tryd.prog 46 #[.int .u64 v, .int .i64 k] w fun e w' => ∃ a' c', e = .returned (.slice a' k c') ∧ w'.ownsRow w.heap.size 5 1 (.slice a' k c') k (u8s (bigI k v)) ∧ Below w.heap.size w w' := by
  obtain ⟨base, hb⟩ : ∃ base, base = w.heap.size := ⟨_, rfl⟩
  have H : Hid (base = w.heap.size) := hb
  rw [← hb]
  clear hb
  go_enter Tryd.func46, Tryd.ntmps46
  go_wp2
  go_loopw [5, 6] (fun s i wr => ∃ (j : Nat) (a' : Option Addr) (c' : Nat), j ≤ k ∧ i = .int .i64 ((k : Int) - 1 - j) ∧ s = .slice a' j c' ∧ wr.ownsRow base 5 1 (.slice a' j c') j (u8s ((bigI k v).take j)) ∧ Below base w wr ∧ base ≤ wr.heap.size)
    (fun _ i _ => (intOf i + 1).toNat)
  case atStart => exact ⟨0, none, 0, by omega, by simp, rfl, World.ownsRow_nil _ _ _ _, Below.refl _ _, by rw [H.out]; exact Nat.le_refl _⟩
  case round =>
    obtain ⟨j, a', c', hj, rfl, rfl, ow, bl, hs⟩ := hrel
    have HK : Hid (wr.ownsRow base 5 1 (.slice a' j c') j (u8s ((bigI k v).take j)) ∧ Below base w wr ∧ base ≤ wr.heap.size) := ⟨ow, bl, hs⟩
    clear ow bl hs
    by_cases hlt : j < k
    · have hlt' : (0 : Int) ≤ (k : Int) - 1 - j := by omega
      have hlt2 : (j : Int) < k := by omega
      obtain ⟨m, hm⟩ : ∃ m : Nat, (k : Int) - 1 - j = m := ⟨k - 1 - j, by omega⟩
      have HM : Hid (m = k - 1 - j ∧ (k : Int) - 1 - j = m) := ⟨by omega, hm⟩
      have hm8 : m < 8 := by omega
      rw [hm] at hlt' ⊢
      clear hm
      go_wp2_with (at_builtin; refine wpList_append_bin rfl (.tmp 13) (.tmp 20) rfl base a' j c' _ rfl (HK.out.1.alloc _) (some ⟨wr.heap.size, 0, none⟩) 1 1 [v / 2 ^ (8 * m) % 256] rfl (new_bin rfl rfl rfl (byte_one _) (by unfold maxLen; omega)) (fun h => by cases h) (by omega) (by have := HK.out.2.2; simp; omega) ?_; intro a2 c2 w2 ow2 bl2)
      go_roundw
      case rel =>
        have hbl : Below base w w2 := (HK.out.2.1.alloc HK.out.2.2 _).trans bl2
        refine ⟨j + 1, a2, c2, by omega, ?_, by rfl, ?_, hbl, by have := bl2.size; have := HK.out.2.2; simp at *; omega⟩
        · have := HM.out.2; go_num
        · rw [HM.out.1, big_take k v hlt] at ow2
          exact ow2
      case measure => have := HM.out.2; simp [intOf]
    · have hge : (k : Int) - 1 - j < 0 := by omega
      have hjk : j = k := by omega
      subst hjk
      go_wp2
      go_ret
      refine ⟨a', c', rfl, ?_, HK.out.2.1⟩
      have := HK.out.1
      rwa [List.take_of_length_le (by rw [bigI_length]; exact Nat.le_refl _)] at this

set_option maxHeartbeats 1000000 in
theorem refBody_of (t : Tok) (w : World) (ht : t.Fits) :
    Calls Tryd.prog 26 #[tokV t] w fun e w' => ∃ a c, e = .returned (.slice a 18 c) ∧ w'.ownsRow w.heap.size 5 1 (.slice a 18 c) 18 (u8s (bodyI t)) ∧ Below w.heap.size w w' := by
  obtain ⟨q, hq⟩ : ∃ q, q = w.heap.size := ⟨_, rfl⟩
  have H : Hid (q = w.heap.size ∧ t.Fits) := ⟨hq, ht⟩
  rw [← hq]
  clear ht
  obtain ⟨te, se, ro, sz⟩ := t
  unfold tokV
  dsimp only
  obtain ⟨t0, t1⟩ := H.out.2.1
  obtain ⟨s0, s1⟩ := H.out.2.2.1
  obtain ⟨z0, z1⟩ := H.out.2.2.2
  dsimp only at t0 t1 s0 s1 z0 z1
  go_enter Tryd.func26, Tryd.ntmps26
  go_upto_region 2 with fail
  generalize hV : World.alloc (World.alloc w _) _ = V
  rw [← hq]
  have HV : Hid (Blk V q [.int .u32 te, .int .u32 se, .bool ro, .int .u64 sz] 26 ∧ V.ownsRow (q + 1) 5 1 (.slice (some ⟨q + 1, 0, none⟩) 1 1) 1 (u8s [1]) ∧ Below q w V ∧ q + 2 ≤ V.heap.size) := by
    rw [← hV]
    refine ⟨(Blk.new' hq.symm rfl).alloc _, ⟨rfl, .inr ⟨q + 1, 1, #[.int .u8 1], rfl, Nat.le_refl _, ?_, Nat.le_refl _, by unfold maxLen; omega, rfl, rfl⟩⟩, ((Below.refl _ _).alloc (by omega) _).alloc (by simp; omega) _, by simp [hq]⟩
    exact Blk.new' (L := u8s [1]) (by simp [hq]) rfl
  have k0 : V.cell? ⟨q, 0, none⟩ = some (.int .u32 te) := HV.out.1.cell 0
  clear hV hq
  have B2 := refBig_of te 4 V (by omega) (by omega) (by omega)
  go_upto_region 3 with (first
    | (go_at_call 46; refine B2.mono ?_; rintro e w2 ⟨a2, d2, rfl, ow2, bl2⟩)
    | (at_builtin; refine wpList_append_bin rfl (.tmp 5) (.tmp 9) rfl (q + 1) (some ⟨q + 1, 0, none⟩) 1 1 [1] rfl (own_below HV.out.2.1 bl2) a2 4 d2 (bigI 4 te) rfl (own_bin ow2 (by unfold maxLen; omega) (bigI_fits _ _)) (own_nil ow2) (by omega) (by have := bl2.size; have := HV.out.2.2.2; omega) ?_; intro a3 d3 w3 ow3 bl3))
  have H3 : Hid (Blk w3 q [.int .u32 te, .int .u32 se, .bool ro, .int .u64 sz] 26 ∧ w3.ownsRow (q + 1) 5 1 (.slice a3 5 d3) 5 (u8s ([1] ++ bigI 4 te)) ∧ Below q w w3 ∧ q + 2 ≤ w3.heap.size) := by
    have hs := HV.out.2.2.2
    have b2 := bl2.size
    have bb : Below (q + 1) V w3 := (bl2.mono (by omega)).trans bl3
    exact ⟨HV.out.1.below bb (by omega), ow3, HV.out.2.2.1.trans (bb.mono (by omega)), by have := bb.size; omega⟩
  have k3 : w3.cell? ⟨q, 1, none⟩ = some (.int .u32 se) := H3.out.1.cell 1
  clear ow2 bl2 ow3 bl3 B2 HV k0
  have B4 := refBig_of se 4 w3 (by omega) (by omega) (by omega)
  go_upto_region 4 with (first
    | (go_at_call 46; refine B4.mono ?_; rintro e w4 ⟨a4, d4, rfl, ow4, bl4⟩)
    | (at_builtin; refine wpList_append_bin rfl (.tmp 11) (.tmp 15) rfl (q + 1) a3 5 d3 ([1] ++ bigI 4 te) rfl (own_below H3.out.2.1 bl4) a4 4 d4 (bigI 4 se) rfl (own_bin ow4 (by unfold maxLen; omega) (bigI_fits _ _)) (own_nil ow4) (by omega) (by have := bl4.size; have := H3.out.2.2.2; omega) ?_; intro a5 d5 w5 ow5 bl5))
  have H5 : Hid (Blk w5 q [.int .u32 te, .int .u32 se, .bool ro, .int .u64 sz] 26 ∧ w5.ownsRow (q + 1) 5 1 (.slice a5 9 d5) 9 (u8s ([1] ++ bigI 4 te ++ bigI 4 se)) ∧ Below q w w5 ∧ q + 2 ≤ w5.heap.size) := by
    have hs := H3.out.2.2.2
    have b2 := bl4.size
    have bb : Below (q + 1) w3 w5 := (bl4.mono (by omega)).trans bl5
    exact ⟨H3.out.1.below bb (by omega), ow5, H3.out.2.2.1.trans (bb.mono (by omega)), by have := bb.size; omega⟩
  have k5 : w5.cell? ⟨q, 3, none⟩ = some (.int .u64 sz) := H5.out.1.cell 3
  clear ow4 bl4 ow5 bl5 B4 H3 k3
  have B6 := refBig_of sz 8 w5 (by omega) (by omega) (by omega)
  go_upto_region 5 with (first
    | (go_at_call 46; refine B6.mono ?_; rintro e w6 ⟨a6, d6, rfl, ow6, bl6⟩)
    | (at_builtin; refine wpList_append_bin rfl (.tmp 17) (.tmp 20) rfl (q + 1) a5 9 d5 ([1] ++ bigI 4 te ++ bigI 4 se) rfl (own_below H5.out.2.1 bl6) a6 8 d6 (bigI 8 sz) rfl (own_bin ow6 (by unfold maxLen; omega) (bigI_fits _ _)) (own_nil ow6) (by omega) (by have := bl6.size; have := H5.out.2.2.2; omega) ?_; intro a7 d7 w7 ow7 bl7))
  have H7 : Hid (w7.ownsRow (q + 1) 5 1 (.slice a7 17 d7) 17 (u8s ([1] ++ bigI 4 te ++ bigI 4 se ++ bigI 8 sz)) ∧ Below q w w7 ∧ q + 2 ≤ w7.heap.size ∧ w7.cell? ⟨q, 2, none⟩ = some (.bool ro)) := by
    have hs := H5.out.2.2.2
    have b2 := bl6.size
    have bb : Below (q + 1) w5 w7 := (bl6.mono (by omega)).trans bl7
    exact ⟨ow7, H5.out.2.2.1.trans (bb.mono (by omega)), by have := bb.size; omega, (H5.out.1.below bb (by omega)).cell 2⟩
  have k7 := H7.out.2.2.2
  clear ow6 bl6 ow7 bl7 B6 H5 k5
  have fin : ∀ (x : Int) (a8 : Option Addr) (d8 : Nat) (w8 : World), x = roI ro → w8.ownsRow (q + 1) 5 1 (.slice a8 (17 + 1) d8) (17 + 1) (u8s (([1] ++ bigI 4 te ++ bigI 4 se ++ bigI 8 sz) ++ [x])) → Below (q + 1) (w7.alloc (.cells #[.int .u8 x] 5)) w8 →
      ∃ a c, Ending.returned (.slice a8 18 d8) = .returned (.slice a 18 c) ∧ w8.ownsRow q 5 1 (.slice a 18 c) 18 (u8s (bodyI ⟨te, se, ro, sz⟩)) ∧ Below q w w8 := by
    intro x a8 d8 w8 hx ow8 bl8
    subst hx
    refine ⟨a8, d8, rfl, own_lower ow8 (by omega), ?_⟩
    exact H7.out.2.1.trans (((Below.refl _ _).alloc (by have := H7.out.2.2.1; omega) _).trans (bl8.mono (by omega)))
  cases ro with
  | true =>
    go_wp2_with (at_builtin; refine wpList_append_bin rfl (.tmp 24) (.tmp 25) rfl (q + 1) a7 17 d7 _ rfl (H7.out.1.alloc _) (some ⟨w7.heap.size, 0, none⟩) 1 1 [1] rfl (new_bin rfl rfl rfl (by simp [Fits8]) (by unfold maxLen; omega)) (fun h => by cases h) (by omega) (by have := H7.out.2.2; simp; omega) ?_; intro a8 d8 w8 ow8 bl8)
    go_ret
    exact fin 1 a8 d8 w8 rfl ow8 bl8
  | false =>
    go_wp2_with (at_builtin; refine wpList_append_bin rfl (.tmp 27) (.tmp 28) rfl (q + 1) a7 17 d7 _ rfl (H7.out.1.alloc _) (some ⟨w7.heap.size, 0, none⟩) 1 1 [0] rfl (new_bin rfl rfl rfl (by simp [Fits8]) (by unfold maxLen; omega)) (fun h => by cases h) (by omega) (by have := H7.out.2.2; simp; omega) ?_; intro a8 d8 w8 ow8 bl8)
    go_ret
    exact fin 0 a8 d8 w8 rfl ow8 bl8

set_option maxHeartbeats 1000000 in
theorem refIssue_of (a : Option Addr) (n c : Nat) (key : List Int) (t : Tok) (w : World) (hk : BIn w a n key) (hn : n ≤ 90000) (hc : a = none → n = 0 ∧ c = 0) (ht : t.Fits) :
    Calls Tryd.prog 11 #[.slice a n c, tokV t] w fun e w' => e = .returned (.string (strOfNums (issueI key t))) ∧ Below w.heap.size w w' := by
  obtain ⟨q, hq⟩ : ∃ q, q = w.heap.size := ⟨_, rfl⟩
  have H : Hid (q = w.heap.size ∧ BIn w a n key ∧ (a = none → n = 0 ∧ c = 0) ∧ t.Fits) := ⟨hq, hk, hc, ht⟩
  rw [← hq]
  clear hk hc ht
  have hb0 : Blk (w.alloc (.cells (tokL t).toArray 26)) q (tokL t) 26 := Blk.new' hq.symm rfl
  have B := refBody_of t (w.alloc (.cells (tokL t).toArray 26)) H.out.2.2.2
  rw [World.size_alloc, ← hq] at B
  have HW : Hid (Below q w (w.alloc (.cells (tokL t).toArray 26))) := (Below.refl q w).alloc (by omega) _
  have e : tokV t = .agg (tokL t).toArray := rfl
  rw [e] at B ⊢
  go_enter Tryd.func11, Tryd.ntmps11
  go_upto_region 1 with fail
  rw [← hq]
  go_upto_region 2 with (first
    | (refine wpList_load_mid rfl 26 (.tmp 3) rfl q 0 rfl _ _ hb0.whole Tryd.underlying26 rfl Tryd.info_token ?_)
    | (go_at_call 26; refine B.mono ?_; rintro e w1 ⟨a1, c1, rfl, ow1, b1⟩))
  obtain ⟨X, hX⟩ : ∃ X, X = bodyI t := ⟨_, rfl⟩
  rw [← hX] at ow1
  have HX : Hid (X = bodyI t ∧ X.length = 18 ∧ ∀ z ∈ X, Fits8 z) := ⟨hX, by rw [hX, bodyI_length], by rw [hX]; exact bodyI_fits t⟩
  obtain ⟨D, hD⟩ : ∃ D, D = ofI key X := ⟨_, rfl⟩
  have HD : Hid (D = ofI key X ∧ D.length = 32 ∧ (∀ z ∈ D, Fits8 z) ∧ issueI key t = wrI (X ++ D)) := ⟨hD, by rw [hD, ofI_length], by rw [hD]; exact sumI_fits _, by rw [hD, hX]; rfl⟩
  have hid : (Tryd.prog.info? 59).map (·.size) = some (u8s D).toArray.size := by simp only [List.size_toArray]; rw [u8s_length, HD.out.2.1]; exact Tryd.info_tag
  have H1 : Hid (w1.ownsRow (q + 1) 5 1 (.slice a1 18 c1) 18 (u8s X) ∧ Below q w w1 ∧ q + 1 ≤ w1.heap.size ∧ BIn w1 a n key) := by
    have b : Below q w w1 := HW.out.trans (b1.mono (by omega))
    have b' : Below w.heap.size w w1 := by rw [← H.out.1]; exact b
    refine ⟨ow1, b, ?_, H.out.2.1.below b'⟩
    have := b1.size; simp at this; omega
  have O := refOf_of a n c key a1 18 c1 X w1 H1.out.2.2.2 H.out.2.2.1 (own_bin H1.out.1 (by unfold maxLen; omega) HX.out.2.2) (own_nil H1.out.1) hn (by omega)
  rw [← HD.out.1] at O
  clear hX hD ow1 b1 B hb0 e HW
  go_upto_region 3 with (first
    | (go_at_call 27; refine O.mono ?_; rintro e w2 ⟨rfl, b2⟩)
    | (refine wpList_store_mid rfl 59 (.tmp 6) (.tmp 11) rfl w2.heap.size 0 (u8s D).toArray rfl rfl ?hT hid (all_oneCell_toArray (u8s_one _)) ?_; (case hT => exact (Blk.new' (L := u8s (List.replicate 32 0)) rfl (by kernel_rfl)).there 0 _ (by simp [u8s_length, HD.out.2.1]))))
  generalize hU : World.setCells _ _ _ _ = U
  obtain ⟨m, hm⟩ : ∃ m, m = w2.heap.size := ⟨_, rfl⟩
  rw [← hm]
  have H2 : Hid (U.ownsRow (q + 1) 5 1 (.slice a1 18 c1) 18 (u8s X) ∧ BIn U (some ⟨m, 0, none⟩) 32 D ∧ Below q w U ∧ q + 1 ≤ U.heap.size) := by
    have hs := H1.out.2.2.1
    have hb2 := b2.size
    have o2 : w2.ownsRow (q + 1) 5 1 (.slice a1 18 c1) 18 (u8s X) := own_below H1.out.1 b2
    have bl : Below q w w2 := H1.out.2.1.trans (b2.mono (by omega))
    rw [← hU]
    refine ⟨own_setCells (o2.alloc _) ?_, ?_, below_setCells (by omega) _ _ _ (bl.alloc (by omega) _), by rw [size_setCells']; simp; omega⟩
    · intro h
      have := (o2.lt _ h).2
      omega
    · have hb := (Blk.new' (w := w2) (t := 59) (L := u8s (List.replicate 32 0)) (C := (u8s (List.replicate 32 0)).toArray) hm.symm rfl).setAll (vs := u8s D) (by simp [u8s_length, HD.out.2.1])
      have := Blk.bin hb HD.out.2.2.1 (by rw [HD.out.2.1]; unfold maxLen; omega)
      rw [HD.out.2.1] at this
      rw [← hm]
      exact this
  clear hU hm b2 O
  have hsl := fun w => run_whole (P := Tryd.prog) Tryd.underlying59 Tryd.byte1 w m 0 (by omega)
  go_wp2_with (first
    | (at_builtin; refine wpList_append_bin rfl (.tmp 12) (.tmp 13) rfl (q + 1) a1 18 c1 X rfl H2.out.1 (some ⟨m, 0, none⟩) 32 32 D rfl H2.out.2.1 (fun h => by cases h) (by omega) H2.out.2.2.2 ?_; intro a3 c3 w3 ow3 bl3; have H3 : Hid (BIn w3 a3 50 (X ++ D) ∧ Below q w w3 ∧ q ≤ w3.heap.size) := ⟨own_bin ow3 (by unfold maxLen; omega) (fun z hz => (List.mem_append.1 hz).elim (HX.out.2.2 z) (HD.out.2.2.1 z)), H2.out.2.2.1.trans (bl3.mono (by omega)), by have := bl3.size; have := H2.out.2.2.2; omega⟩)
    | (go_at_call 28; refine (refWrite_of a3 50 c3 (X ++ D) w3 H3.out.1 (by omega)).mono ?_; rintro e w4 ⟨rfl, b4⟩))
  go_ret
  exact ⟨by rw [HD.out.2.2.2]; rfl, H3.out.2.1.trans (b4.mono H3.out.2.2)⟩

set_option maxHeartbeats 1000000 in
theorem refnumber_of (a : Option Addr) (n c : Nat) (bs : List Int) (w : World) (h : BIn w a n bs) (hn : n ≤ 8) :
    Calls Tryd.prog 32 #[.slice a n c] w fun e w' => e = .returned (.int .u64 (numI bs)) ∧ w' = w := by
  have H : Hid (BIn w a n bs) := h
  clear h
  go_enter Tryd.func32, Tryd.ntmps32
  go_wp2
  go_loopw [3, 4] (fun v i wr => ∃ j : Nat, j ≤ n ∧ i = .int .i64 j ∧ v = .int .u64 (numI (bs.take j)) ∧ wr = w)
    (fun _ i _ => n - (intOf i).toNat)
  case atStart => exact ⟨0, by omega, rfl, rfl, rfl⟩
  case round =>
    obtain ⟨j, hj, rfl, rfl, rfl⟩ := hrel
    by_cases hlt : j < n
    · have hlt' : (j : Int) < n := by omega
      obtain ⟨b, off, ha, hcell⟩ := H.out.2.2.2.resolve_left (by omega)
      subst ha
      have hc := hcell j hlt
      clear hcell
      have hx : Fits8 (bs.getD j 0) := byte_fits H.out.2.2.1 j
      obtain ⟨x, ex⟩ : ∃ x, x = bs.getD j 0 := ⟨_, rfl⟩
      rw [← ex] at hc hx
      obtain ⟨r0, r1, _⟩ := numI_range j (bs.take j) (by rw [List.length_take, H.out.1]; omega) (fun z hz => H.out.2.2.1 z (List.mem_of_mem_take hz))
      have r2 : numI (bs.take j) < 72057594037927936 := by
        have := p256 j (by omega)
        omega
      have hnx : numI (bs.take j) * 256 + x = numI (bs.take (j + 1)) := by
        have hl : j < bs.length := by rw [H.out.1]; exact hlt
        rw [List.take_succ_eq_append_getElem hl, numI_snoc, ex]
        simp [List.getD, hl]
      obtain ⟨N, eN⟩ : ∃ N, N = numI (bs.take j) := ⟨_, rfl⟩
      rw [← eN] at r0 r2 hnx ⊢
      have hor := shl8 r0 r2 hx
      have HE : Hid (N * 256 + x = numI (bs.take (j + 1))) := hnx
      clear hnx eN ex r1
      obtain ⟨hx0, hx1⟩ := hx
      go_wp2
      go_roundw
      case rel => exact ⟨j + 1, by omega, by go_num, by rw [← HE.out], trivial⟩
      case measure => simp [intOf]; omega
    · have hge : (n : Int) ≤ j := by omega
      have e : bs.take j = bs := List.take_of_length_le (by rw [H.out.1]; omega)
      rw [e]
      go_wp2
      go_ret
      exact ⟨rfl, rfl⟩

set_option maxHeartbeats 1000000 in
theorem refLook_bad (s : ByteArray) (cs : List Int) (n : Nat) (w : World) (hs : s = strOfNums cs) (hf : ∀ z ∈ cs, Fits8 z) (hl : cs.length = n) (hn : n ≤ 100000) (hg : ¬ Good cs) :
    Calls Tryd.prog 13 #[.string s] w fun e w' => e = .returned (.tuple #[tokV tok0, .int .i64 50]) ∧ Below w.heap.size w w' := by
  obtain ⟨q, hq⟩ : ∃ q, q = w.heap.size := ⟨_, rfl⟩
  rw [← hq]
  have C := fun o => refRead_at s cs n (w.alloc o) hs hf hl hn
  simp only [World.size_alloc, ← hq] at C
  have HG : Hid (¬ Good cs) := hg
  clear hs hf hl hg
  have fin : ∀ (w1 : World) (o : Obj), o = .cells #[.int .u32 0, .int .u32 0, .bool false, .int .u64 0] 26 → Below (q + 1) (w.alloc o) w1 → Blk w1 q (tokL tok0) 26 ∧ Below q w w1 := by
    intro w1 o ho b1
    subst ho
    exact ⟨(Blk.new' (L := tokL tok0) hq.symm rfl).below b1 (by omega), ((Below.refl q w).alloc (by omega) _).trans (b1.mono (by omega))⟩
  by_cases hr : Reads cs
  · have hE : readE cs = 0 := by unfold readE; rw [if_pos hr]
    rw [hE] at C
    have HR : Hid (Reads cs) := hr
    clear hE hr
    go_enter Tryd.func13, Tryd.ntmps13
    go_wp2_with fail
    refine (C _).mono ?_
    rintro e w1 ⟨a, m, c, rfl, hb, -, hc, b1⟩
    clear C
    have HB : Hid (Blk w1 q (tokL tok0) 26 ∧ Below q w w1) := fin w1 _ rfl b1
    rw [← hq]
    clear b1 hc fin hq
    by_cases hm : m = 50
    · subst hm
      obtain ⟨b, off, ha, hcell⟩ := hb.2.2.2.resolve_left (by omega)
      subst ha
      have c0 := hcell 0 (by omega)
      have c17 := hcell 17 (by omega)
      rw [Nat.add_zero] at c0
      have f0 := byte_fits hb.2.2.1 0
      have f17 := byte_fits hb.2.2.1 17
      have HL : Hid ((readI cs).length = 50) := hb.1
      obtain ⟨x0, e0⟩ : ∃ x, x = (readI cs).getD 0 0 := ⟨_, rfl⟩
      obtain ⟨x, ex⟩ : ∃ x, x = (readI cs).getD 17 0 := ⟨_, rfl⟩
      rw [← ex] at c17 f17
      rw [← e0] at c0 f0
      obtain ⟨f00, f01⟩ := f0
      obtain ⟨f70, f71⟩ := f17
      have HE : Hid (x0 = (readI cs).getD 0 0 ∧ x = (readI cs).getD 17 0) := ⟨e0, ex⟩
      clear hcell hb e0 ex
      by_cases h0 : x0 = 1
      · subst h0
        have h1 : 1 < x := by
          by_cases h : 1 < x
          · exact h
          · exact absurd ⟨HR.out, HL.out, HE.out.1.symm, by rw [← HE.out.2]; omega⟩ HG.out
        go_wp2_with (refine wpList_store_mid rfl 26 (.tmp 2) (.tmp 30) rfl q 0 (tokL tok0).toArray rfl rfl ?hT (tok_size _) (tok_all _) ?_; (case hT => exact HB.out.1.there 0 4 (by decide)))
        have b3 := HB.out.1.setAll (vs := tokL tok0) (by rfl)
        refine bodyPost_ret (v := .tuple #[.agg (tokL tok0).toArray, .int .i64 50]) (results_cell_two (p := 2) (u := 3) (ty := 26) rfl _ _ q _ _ _ rfl b3 Tryd.underlying26 rfl Tryd.info_token _ rfl) rfl ⟨rfl, below_setCells (Nat.le_refl _) _ _ _ HB.out.2⟩
      · have h0' : ¬ (x0 == 1) = true := by simpa using h0
        go_wp2_with (refine wpList_store_mid rfl 26 (.tmp 2) (.tmp 30) rfl q 0 (tokL tok0).toArray rfl rfl ?hT (tok_size _) (tok_all _) ?_; (case hT => exact HB.out.1.there 0 4 (by decide)))
        have b3 := HB.out.1.setAll (vs := tokL tok0) (by rfl)
        refine bodyPost_ret (v := .tuple #[.agg (tokL tok0).toArray, .int .i64 50]) (results_cell_two (p := 2) (u := 3) (ty := 26) rfl _ _ q _ _ _ rfl b3 Tryd.underlying26 rfl Tryd.info_token _ rfl) rfl ⟨rfl, below_setCells (Nat.le_refl _) _ _ _ HB.out.2⟩
    · have hm' : ¬ (m : Int) = 50 := by omega
      clear hb hm
      go_wp2_with (refine wpList_store_mid rfl 26 (.tmp 2) (.tmp 30) rfl q 0 (tokL tok0).toArray rfl rfl ?hT (tok_size _) (tok_all _) ?_; (case hT => exact HB.out.1.there 0 4 (by decide)))
      have b3 := HB.out.1.setAll (vs := tokL tok0) (by rfl)
      refine bodyPost_ret (v := .tuple #[.agg (tokL tok0).toArray, .int .i64 50]) (results_cell_two (p := 2) (u := 3) (ty := 26) rfl _ _ q _ _ _ rfl b3 Tryd.underlying26 rfl Tryd.info_token _ rfl) rfl ⟨rfl, below_setCells (Nat.le_refl _) _ _ _ HB.out.2⟩
  · have hE : readE cs = 40 := by unfold readE; rw [if_neg hr]
    rw [hE] at C
    clear hr hE
    go_enter Tryd.func13, Tryd.ntmps13
    go_wp2_with fail
    refine (C _).mono ?_
    rintro e w1 ⟨a, m, c, rfl, hb, -, hc, b1⟩
    clear C hb hc
    have HB : Hid (Blk w1 q (tokL tok0) 26 ∧ Below q w w1) := fin w1 _ rfl b1
    rw [← hq]
    clear b1 fin hq
    go_wp2_with (refine wpList_store_mid rfl 26 (.tmp 2) (.tmp 30) rfl q 0 (tokL tok0).toArray rfl rfl ?hT (tok_size _) (tok_all _) ?_; (case hT => exact HB.out.1.there 0 4 (by decide)))
    have b3 := HB.out.1.setAll (vs := tokL tok0) (by rfl)
    refine bodyPost_ret (v := .tuple #[.agg (tokL tok0).toArray, .int .i64 50]) (results_cell_two (p := 2) (u := 3) (ty := 26) rfl _ _ q _ _ _ rfl b3 Tryd.underlying26 rfl Tryd.info_token _ rfl) rfl ⟨rfl, below_setCells (Nat.le_refl _) _ _ _ HB.out.2⟩

set_option maxHeartbeats 1000000 in
set_option maxRecDepth 100000 in
theorem refLook_good (s : ByteArray) (cs : List Int) (n : Nat) (w : World) (hs : s = strOfNums cs) (hf : ∀ z ∈ cs, Fits8 z) (hl : cs.length = n) (hn : n ≤ 100000) (hg : Good cs) :
    Calls Tryd.prog 13 #[.string s] w fun e w' => e = .returned (.tuple #[tokV (tokI (lookB cs)), .int .i64 0]) ∧ Below w.heap.size w w' := by
  obtain ⟨q, hq⟩ : ∃ q, q = w.heap.size := ⟨_, rfl⟩
  rw [← hq]
  have hE : readE cs = 0 := by unfold readE; rw [if_pos hg.1]
  have C := fun o => refRead_at s cs n (w.alloc o) hs hf hl hn
  simp only [World.size_alloc, ← hq, hE] at C
  have hgb := good_body hg
  have HG : Hid (Good cs ∧ (tokI (lookB cs)).Fits) := ⟨hg, tokI_fits hgb.1 hgb.2.2.1⟩
  clear hs hf hl hg hE hgb
  go_enter Tryd.func13, Tryd.ntmps13
  go_wp2_with fail
  refine (C _).mono ?_
  rintro e w1 ⟨a, m, c, rfl, hb, -, hc, b1⟩
  clear C
  rw [← hq]
  have HB : Hid (Blk w1 q (tokL tok0) 26 ∧ Below q w w1) := ⟨(Blk.new' (L := tokL tok0) hq.symm rfl).below b1 (by omega), ((Below.refl q w).alloc (by omega) _).trans (b1.mono (by omega))⟩
  have hm : m = 50 := by rw [← hb.1]; exact HG.out.1.2.1
  subst hm
  obtain ⟨b, off, ha, hcell⟩ := hb.2.2.2.resolve_left (by omega)
  subst ha
  have c0 := hcell 0 (by omega)
  have c17 := hcell 17 (by omega)
  rw [Nat.add_zero, HG.out.1.2.2.1] at c0
  have l17 := HG.out.1.2.2.2
  have l0 := (byte_fits hb.2.2.1 17).1
  obtain ⟨x, ex⟩ : ∃ x, x = (readI cs).getD 17 0 := ⟨_, rfl⟩
  rw [← ex] at c17 l17 l0
  have hbs : BIn w1 (some ⟨b, off, none⟩) 18 (lookB cs) := by
    have := hb.part 0 18 (by omega)
    rw [Nat.add_zero, List.drop_zero] at this
    exact this
  have hx : x = (lookB cs).getD 17 0 := by rw [ex]; unfold lookB; simp [List.getD]
  clear hcell hb b1 ex hq
  have c5 : (5 : Int) ≤ c := by omega
  have c9 : (9 : Int) ≤ c := by omega
  have c17' : (17 : Int) ≤ c := by omega
  have n1 : ¬ c = 1 := by omega
  have n5 : ¬ c = 5 := by omega
  have n9 : ¬ c = 9 := by omega
  obtain ⟨N1, e1⟩ : ∃ N, N = numI (((lookB cs).drop 1).take 4) := ⟨_, rfl⟩
  obtain ⟨N2, e2⟩ : ∃ N, N = numI (((lookB cs).drop 5).take 4) := ⟨_, rfl⟩
  obtain ⟨N3, e3⟩ : ∃ N, N = numI (((lookB cs).drop 9).take 8) := ⟨_, rfl⟩
  have f1 : 0 ≤ N1 ∧ N1 < 4294967296 := by rw [e1]; exact HG.out.2.1
  have f2 : 0 ≤ N2 ∧ N2 < 4294967296 := by rw [e2]; exact HG.out.2.2.1
  obtain ⟨f10, f11⟩ := f1
  obtain ⟨f20, f21⟩ := f2
  have HE : Hid (N1 = numI (((lookB cs).drop 1).take 4) ∧ N2 = numI (((lookB cs).drop 5).take 4) ∧ N3 = numI (((lookB cs).drop 9).take 8) ∧ x = (lookB cs).getD 17 0) := ⟨e1, e2, e3, hx⟩
  have C1 := refnumber_of (some ⟨b, off + 1, none⟩) 4 (c - 1) (((lookB cs).drop 1).take 4) w1.drew (hbs.drawn.part 1 4 (by omega)) (by omega)
  have C2 := refnumber_of (some ⟨b, off + 5, none⟩) 4 (c - 5) (((lookB cs).drop 5).take 4) w1.drew (hbs.drawn.part 5 4 (by omega)) (by omega)
  have C3 := refnumber_of (some ⟨b, off + 9, none⟩) 8 (c - 9) (((lookB cs).drop 9).take 8) w1.drew (hbs.drawn.part 9 8 (by omega)) (by omega)
  rw [← e1] at C1
  rw [← e2] at C2
  rw [← e3] at C3
  clear e1 e2 e3 hbs hc hx
  have x1 : IntKind.u32.wrap N1 = N1 := by rw [IntKind.wrap_u32]; omega
  have x2 : IntKind.u32.wrap N2 = N2 := by rw [IntKind.wrap_u32]; omega
  go_wp2
  refine region_tail 16 (by kernel_rfl) (by kernel_rfl) ?_
  simp only [List.take_succ_cons, List.take_zero, List.drop_succ_cons, List.drop_zero]
  iterate 2 still_step
  still_call C1
  iterate 3 still_step
  still_call C2
  iterate 3 still_step
  still_call C3
  iterate 5 still_step
  refine wpStill_nil ?_
  go_wp2_with (refine wpList_store_mid rfl 26 (.tmp 2) (.tmp 46) rfl q 0 (tokL ⟨N1, N2, x == 1, N3⟩).toArray rfl rfl ?hT (tok_size _) (tok_all _) ?_; (case hT => exact HB.out.1.drew.there 0 4 (by decide)))
  have b3 := HB.out.1.drew.setAll (vs := tokL ⟨N1, N2, x == 1, N3⟩) (by rfl)
  refine bodyPost_ret (v := .tuple #[.agg (tokL ⟨N1, N2, x == 1, N3⟩).toArray, .int .i64 0]) (results_cell_two (p := 2) (u := 3) (ty := 26) rfl _ _ q _ _ _ rfl b3 Tryd.underlying26 rfl Tryd.info_token _ rfl) rfl ⟨?_, below_setCells (Nat.le_refl _) _ _ _ HB.out.2.drew⟩
  rw [HE.out.1, HE.out.2.1, HE.out.2.2.1, HE.out.2.2.2]
  rfl

theorem refLook_of (s : ByteArray) (cs : List Int) (n : Nat) (w : World) (hs : s = strOfNums cs) (hf : ∀ z ∈ cs, Fits8 z) (hl : cs.length = n) (hn : n ≤ 100000) :
    Calls Tryd.prog 13 #[.string s] w fun e w' => e = .returned (.tuple #[tokV (lookI cs), .int .i64 (lookE cs)]) ∧ Below w.heap.size w w' := by
  unfold lookI lookE
  by_cases hg : Good cs
  · rw [if_pos hg, if_pos hg]
    exact refLook_good s cs n w hs hf hl hn hg
  · rw [if_neg hg, if_neg hg]
    exact refLook_bad s cs n w hs hf hl hn hg
end Go.Proofs.YtpliokkmiijieaaDoor
