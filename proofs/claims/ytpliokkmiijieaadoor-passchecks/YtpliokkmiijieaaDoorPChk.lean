/- What PassChecks needs, in one text: the document's Issue, Look, New, Tenant, Check; lists of tenants; what was lent out. (PRef, PLaw, PTs, PRt, PRc, PRn, PRl, PRk, PRm, one behind the other: a claim's folder holds sixty files.) -/
import Derived.Test.YtpliokkmiijieaaDoorPCheck
import Derived.Test.YtpliokkmiijieaaDoorSpRefRead
import Derived.Test.YtpliokkmiijieaaDoorRefOf
import Derived.Test.YtpliokkmiijieaaDoorPOpen
import Derived.BigQuiet
import Derived.Deep.Slices
import Derived.Deep.RegionLaw
namespace Go.Proofs.YtpliokkmiijieaaDoor
open Go.RowKit
set_option linter.unusedVariables false
set_option maxRecDepth 4000

set_option maxHeartbeats 1000000 in
theorem refBig_of (v : Int) (k : Nat) (w : World) (v0 : 0 ≤ v) (v1 : v < 18446744073709551616) (hk : k ≤ 8) :
    Calls Tryd.prog 46 #[.int .u64 v, .int .i64 k] w fun e w' => ∃ a' c', e = .returned (.slice a' k c') ∧ w'.ownsRow w.heap.size 5 1 (.slice a' k c') k (u8s (bigI k v)) ∧ Below w.heap.size w w' := by
  obtain ⟨base, hb⟩ : ∃ base, base = w.heap.size := ⟨_, rfl⟩
  have H : Hid (base = w.heap.size) := hb
  rw [← hb]
  clear hb
  go_enter Tryd.func46, Tryd.ntmps46
  go_wp2
  go_loopw [5, 6] (fun s i wr => ∃ (j : Nat) (a' : Option Addr) (c' : Nat), j ≤ k ∧ i = .int .i64 ((k : Int) - 1 - j) ∧ s = .slice a' j c' ∧ wr.ownsRow base 5 1 (.slice a' j c') j (u8s ((bigI k v).take j)) ∧ Below base w wr ∧ base ≤ wr.heap.size)
    (fun _ i _ => (intOf i + 1).toNat)
  case atStart => exact ⟨0, none, 0, by omega, by simp, rfl, World.ownsRow_nil _ _ _ _, Below.refl _ _, by rw [H.out]; exact Nat.le_refl _⟩
  case round =>
    obtain ⟨j, a', c', hj, rfl, rfl, ow, bl, hs⟩ := hrel
    have HK : Hid (wr.ownsRow base 5 1 (.slice a' j c') j (u8s ((bigI k v).take j)) ∧ Below base w wr ∧ base ≤ wr.heap.size) := ⟨ow, bl, hs⟩
    clear ow bl hs
    by_cases hlt : j < k
    · have hlt' : (0 : Int) ≤ (k : Int) - 1 - j := by omega
      have hlt2 : (j : Int) < k := by omega
      obtain ⟨m, hm⟩ : ∃ m : Nat, (k : Int) - 1 - j = m := ⟨k - 1 - j, by omega⟩
      have HM : Hid (m = k - 1 - j ∧ (k : Int) - 1 - j = m) := ⟨by omega, hm⟩
      have hm8 : m < 8 := by omega
      rw [hm] at hlt' ⊢
      clear hm
      go_wp2_with (at_builtin; refine wpList_append_bin rfl (.tmp 13) (.tmp 20) rfl base a' j c' _ rfl (HK.out.1.alloc _) (some ⟨wr.heap.size, 0, none⟩) 1 1 [v / 2 ^ (8 * m) % 256] rfl (new_bin rfl rfl rfl (byte_one _) (by unfold maxLen; omega)) (fun h => by cases h) (by omega) (by have := HK.out.2.2; simp; omega) ?_; intro a2 c2 w2 ow2 bl2)
      go_roundw
      case rel =>
        have hbl : Below base w w2 := (HK.out.2.1.alloc HK.out.2.2 _).trans bl2
        refine ⟨j + 1, a2, c2, by omega, ?_, by rfl, ?_, hbl, by have := bl2.size; have := HK.out.2.2; simp at *; omega⟩
        · have := HM.out.2; go_num
        · rw [HM.out.1, big_take k v hlt] at ow2
          exact ow2
      case measure => have := HM.out.2; simp [intOf]
    · have hge : (k : Int) - 1 - j < 0 := by omega
      have hjk : j = k := by omega
      subst hjk
      go_wp2
      go_ret
      refine ⟨a', c', rfl, ?_, HK.out.2.1⟩
      have := HK.out.1
      rwa [List.take_of_length_le (by rw [bigI_length]; exact Nat.le_refl _)] at this

set_option maxHeartbeats 1000000 in
theorem refBody_of (t : Tok) (w : World) (ht : t.Fits) :
    Calls Tryd.prog 26 #[tokV t] w fun e w' => ∃ a c, e = .returned (.slice a 18 c) ∧ w'.ownsRow w.heap.size 5 1 (.slice a 18 c) 18 (u8s (bodyI t)) ∧ Below w.heap.size w w' := by
  obtain ⟨q, hq⟩ : ∃ q, q = w.heap.size := ⟨_, rfl⟩
  have H : Hid (q = w.heap.size ∧ t.Fits) := ⟨hq, ht⟩
  rw [← hq]
  clear ht
  obtain ⟨te, se, ro, sz⟩ := t
  unfold tokV
  dsimp only
  obtain ⟨t0, t1⟩ := H.out.2.1
  obtain ⟨s0, s1⟩ := H.out.2.2.1
  obtain ⟨z0, z1⟩ := H.out.2.2.2
  dsimp only at t0 t1 s0 s1 z0 z1
  go_enter Tryd.func26, Tryd.ntmps26
  go_upto_region 2 with fail
  generalize hV : World.alloc (World.alloc w _) _ = V
  rw [← hq]
  have HV : Hid (Blk V q [.int .u32 te, .int .u32 se, .bool ro, .int .u64 sz] 26 ∧ V.ownsRow (q + 1) 5 1 (.slice (some ⟨q + 1, 0, none⟩) 1 1) 1 (u8s [1]) ∧ Below q w V ∧ q + 2 ≤ V.heap.size) := by
    rw [← hV]
    refine ⟨(Blk.new' hq.symm rfl).alloc _, ⟨rfl, .inr ⟨q + 1, 1, #[.int .u8 1], rfl, Nat.le_refl _, ?_, Nat.le_refl _, by unfold maxLen; omega, rfl, rfl⟩⟩, ((Below.refl _ _).alloc (by omega) _).alloc (by simp; omega) _, by simp [hq]⟩
    exact Blk.new' (L := u8s [1]) (by simp [hq]) rfl
  have k0 : V.cell? ⟨q, 0, none⟩ = some (.int .u32 te) := HV.out.1.cell 0
  clear hV hq
  have B2 := refBig_of te 4 V (by omega) (by omega) (by omega)
  go_upto_region 3 with (first
    | (go_at_call 46; refine B2.mono ?_; rintro e w2 ⟨a2, d2, rfl, ow2, bl2⟩)
    | (at_builtin; refine wpList_append_bin rfl (.tmp 5) (.tmp 9) rfl (q + 1) (some ⟨q + 1, 0, none⟩) 1 1 [1] rfl (own_below HV.out.2.1 bl2) a2 4 d2 (bigI 4 te) rfl (own_bin ow2 (by unfold maxLen; omega) (bigI_fits _ _)) (own_nil ow2) (by omega) (by have := bl2.size; have := HV.out.2.2.2; omega) ?_; intro a3 d3 w3 ow3 bl3))
  have H3 : Hid (Blk w3 q [.int .u32 te, .int .u32 se, .bool ro, .int .u64 sz] 26 ∧ w3.ownsRow (q + 1) 5 1 (.slice a3 5 d3) 5 (u8s ([1] ++ bigI 4 te)) ∧ Below q w w3 ∧ q + 2 ≤ w3.heap.size) := by
    have hs := HV.out.2.2.2
    have b2 := bl2.size
    have bb : Below (q + 1) V w3 := (bl2.mono (by omega)).trans bl3
    exact ⟨HV.out.1.below bb (by omega), ow3, HV.out.2.2.1.trans (bb.mono (by omega)), by have := bb.size; omega⟩
  have k3 : w3.cell? ⟨q, 1, none⟩ = some (.int .u32 se) := H3.out.1.cell 1
  clear ow2 bl2 ow3 bl3 B2 HV k0
  have B4 := refBig_of se 4 w3 (by omega) (by omega) (by omega)
  go_upto_region 4 with (first
    | (go_at_call 46; refine B4.mono ?_; rintro e w4 ⟨a4, d4, rfl, ow4, bl4⟩)
    | (at_builtin; refine wpList_append_bin rfl (.tmp 11) (.tmp 15) rfl (q + 1) a3 5 d3 ([1] ++ bigI 4 te) rfl (own_below H3.out.2.1 bl4) a4 4 d4 (bigI 4 se) rfl (own_bin ow4 (by unfold maxLen; omega) (bigI_fits _ _)) (own_nil ow4) (by omega) (by have := bl4.size; have := H3.out.2.2.2; omega) ?_; intro a5 d5 w5 ow5 bl5))
  have H5 : Hid (Blk w5 q [.int .u32 te, .int .u32 se, .bool ro, .int .u64 sz] 26 ∧ w5.ownsRow (q + 1) 5 1 (.slice a5 9 d5) 9 (u8s ([1] ++ bigI 4 te ++ bigI 4 se)) ∧ Below q w w5 ∧ q + 2 ≤ w5.heap.size) := by
    have hs := H3.out.2.2.2
    have b2 := bl4.size
    have bb : Below (q + 1) w3 w5 := (bl4.mono (by omega)).trans bl5
    exact ⟨H3.out.1.below bb (by omega), ow5, H3.out.2.2.1.trans (bb.mono (by omega)), by have := bb.size; omega⟩
  have k5 : w5.cell? ⟨q, 3, none⟩ = some (.int .u64 sz) := H5.out.1.cell 3
  clear ow4 bl4 ow5 bl5 B4 H3 k3
  have B6 := refBig_of sz 8 w5 (by omega) (by omega) (by omega)
  go_upto_region 5 with (first
    | (go_at_call 46; refine B6.mono ?_; rintro e w6 ⟨a6, d6, rfl, ow6, bl6⟩)
    | (at_builtin; refine wpList_append_bin rfl (.tmp 17) (.tmp 20) rfl (q + 1) a5 9 d5 ([1] ++ bigI 4 te ++ bigI 4 se) rfl (own_below H5.out.2.1 bl6) a6 8 d6 (bigI 8 sz) rfl (own_bin ow6 (by unfold maxLen; omega) (bigI_fits _ _)) (own_nil ow6) (by omega) (by have := bl6.size; have := H5.out.2.2.2; omega) ?_; intro a7 d7 w7 ow7 bl7))
  have H7 : Hid (w7.ownsRow (q + 1) 5 1 (.slice a7 17 d7) 17 (u8s ([1] ++ bigI 4 te ++ bigI 4 se ++ bigI 8 sz)) ∧ Below q w w7 ∧ q + 2 ≤ w7.heap.size ∧ w7.cell? ⟨q, 2, none⟩ = some (.bool ro)) := by
    have hs := H5.out.2.2.2
    have b2 := bl6.size
    have bb : Below (q + 1) w5 w7 := (bl6.mono (by omega)).trans bl7
    exact ⟨ow7, H5.out.2.2.1.trans (bb.mono (by omega)), by have := bb.size; omega, (H5.out.1.below bb (by omega)).cell 2⟩
  have k7 := H7.out.2.2.2
  clear ow6 bl6 ow7 bl7 B6 H5 k5
  have fin : ∀ (x : Int) (a8 : Option Addr) (d8 : Nat) (w8 : World), x = roI ro → w8.ownsRow (q + 1) 5 1 (.slice a8 (17 + 1) d8) (17 + 1) (u8s (([1] ++ bigI 4 te ++ bigI 4 se ++ bigI 8 sz) ++ [x])) → Below (q + 1) (w7.alloc (.cells #[.int .u8 x] 5)) w8 →
      ∃ a c, Ending.returned (.slice a8 18 d8) = .returned (.slice a 18 c) ∧ w8.ownsRow q 5 1 (.slice a 18 c) 18 (u8s (bodyI ⟨te, se, ro, sz⟩)) ∧ Below q w w8 := by
    intro x a8 d8 w8 hx ow8 bl8
    subst hx
    refine ⟨a8, d8, rfl, own_lower ow8 (by omega), ?_⟩
    exact H7.out.2.1.trans (((Below.refl _ _).alloc (by have := H7.out.2.2.1; omega) _).trans (bl8.mono (by omega)))
  cases ro with
  | true =>
    go_wp2_with (at_builtin; refine wpList_append_bin rfl (.tmp 24) (.tmp 25) rfl (q + 1) a7 17 d7 _ rfl (H7.out.1.alloc _) (some ⟨w7.heap.size, 0, none⟩) 1 1 [1] rfl (new_bin rfl rfl rfl (by simp [Fits8]) (by unfold maxLen; omega)) (fun h => by cases h) (by omega) (by have := H7.out.2.2; simp; omega) ?_; intro a8 d8 w8 ow8 bl8)
    go_ret
    exact fin 1 a8 d8 w8 rfl ow8 bl8
  | false =>
    go_wp2_with (at_builtin; refine wpList_append_bin rfl (.tmp 27) (.tmp 28) rfl (q + 1) a7 17 d7 _ rfl (H7.out.1.alloc _) (some ⟨w7.heap.size, 0, none⟩) 1 1 [0] rfl (new_bin rfl rfl rfl (by simp [Fits8]) (by unfold maxLen; omega)) (fun h => by cases h) (by omega) (by have := H7.out.2.2; simp; omega) ?_; intro a8 d8 w8 ow8 bl8)
    go_ret
    exact fin 0 a8 d8 w8 rfl ow8 bl8

set_option maxHeartbeats 1000000 in
theorem refIssue_of (a : Option Addr) (n c : Nat) (key : List Int) (t : Tok) (w : World) (hk : BIn w a n key) (hn : n ≤ 90000) (hc : a = none → n = 0 ∧ c = 0) (ht : t.Fits) :
    Calls Tryd.prog 11 #[.slice a n c, tokV t] w fun e w' => e = .returned (.string (strOfNums (issueI key t))) ∧ Below w.heap.size w w' := by
  obtain ⟨q, hq⟩ : ∃ q, q = w.heap.size := ⟨_, rfl⟩
  have H : Hid (q = w.heap.size ∧ BIn w a n key ∧ (a = none → n = 0 ∧ c = 0) ∧ t.Fits) := ⟨hq, hk, hc, ht⟩
  rw [← hq]
  clear hk hc ht
  have hb0 : Blk (w.alloc (.cells (tokL t).toArray 26)) q (tokL t) 26 := Blk.new' hq.symm rfl
  have B := refBody_of t (w.alloc (.cells (tokL t).toArray 26)) H.out.2.2.2
  rw [World.size_alloc, ← hq] at B
  have HW : Hid (Below q w (w.alloc (.cells (tokL t).toArray 26))) := (Below.refl q w).alloc (by omega) _
  have e : tokV t = .agg (tokL t).toArray := rfl
  rw [e] at B ⊢
  go_enter Tryd.func11, Tryd.ntmps11
  go_upto_region 1 with fail
  rw [← hq]
  go_upto_region 2 with (first
    | (refine wpList_load_mid rfl 26 (.tmp 3) rfl q 0 rfl _ _ hb0.whole Tryd.underlying26 rfl Tryd.info_token ?_)
    | (go_at_call 26; refine B.mono ?_; rintro e w1 ⟨a1, c1, rfl, ow1, b1⟩))
  obtain ⟨X, hX⟩ : ∃ X, X = bodyI t := ⟨_, rfl⟩
  rw [← hX] at ow1
  have HX : Hid (X = bodyI t ∧ X.length = 18 ∧ ∀ z ∈ X, Fits8 z) := ⟨hX, by rw [hX, bodyI_length], by rw [hX]; exact bodyI_fits t⟩
  obtain ⟨D, hD⟩ : ∃ D, D = ofI key X := ⟨_, rfl⟩
  have HD : Hid (D = ofI key X ∧ D.length = 32 ∧ (∀ z ∈ D, Fits8 z) ∧ issueI key t = wrI (X ++ D)) := ⟨hD, by rw [hD, ofI_length], by rw [hD]; exact sumI_fits _, by rw [hD, hX]; rfl⟩
  have hid : (Tryd.prog.info? 59).map (·.size) = some (u8s D).toArray.size := by simp only [List.size_toArray]; rw [u8s_length, HD.out.2.1]; exact Tryd.info_tag
  have H1 : Hid (w1.ownsRow (q + 1) 5 1 (.slice a1 18 c1) 18 (u8s X) ∧ Below q w w1 ∧ q + 1 ≤ w1.heap.size ∧ BIn w1 a n key) := by
    have b : Below q w w1 := HW.out.trans (b1.mono (by omega))
    have b' : Below w.heap.size w w1 := by rw [← H.out.1]; exact b
    refine ⟨ow1, b, ?_, H.out.2.1.below b'⟩
    have := b1.size; simp at this; omega
  have O := refOf_of a n c key a1 18 c1 X w1 H1.out.2.2.2 H.out.2.2.1 (own_bin H1.out.1 (by unfold maxLen; omega) HX.out.2.2) (own_nil H1.out.1) hn (by omega)
  rw [← HD.out.1] at O
  clear hX hD ow1 b1 B hb0 e HW
  go_upto_region 3 with (first
    | (go_at_call 27; refine O.mono ?_; rintro e w2 ⟨rfl, b2⟩)
    | (refine wpList_store_mid rfl 59 (.tmp 6) (.tmp 11) rfl w2.heap.size 0 (u8s D).toArray rfl rfl ?hT hid (all_oneCell_toArray (u8s_one _)) ?_; (case hT => exact (Blk.new' (L := u8s (List.replicate 32 0)) rfl (by kernel_rfl)).there 0 _ (by simp [u8s_length, HD.out.2.1]))))
  generalize hU : World.setCells _ _ _ _ = U
  obtain ⟨m, hm⟩ : ∃ m, m = w2.heap.size := ⟨_, rfl⟩
  rw [← hm]
  have H2 : Hid (U.ownsRow (q + 1) 5 1 (.slice a1 18 c1) 18 (u8s X) ∧ BIn U (some ⟨m, 0, none⟩) 32 D ∧ Below q w U ∧ q + 1 ≤ U.heap.size) := by
    have hs := H1.out.2.2.1
    have hb2 := b2.size
    have o2 : w2.ownsRow (q + 1) 5 1 (.slice a1 18 c1) 18 (u8s X) := own_below H1.out.1 b2
    have bl : Below q w w2 := H1.out.2.1.trans (b2.mono (by omega))
    rw [← hU]
    refine ⟨own_setCells (o2.alloc _) ?_, ?_, below_setCells (by omega) _ _ _ (bl.alloc (by omega) _), by rw [size_setCells']; simp; omega⟩
    · intro h
      have := (o2.lt _ h).2
      omega
    · have hb := (Blk.new' (w := w2) (t := 59) (L := u8s (List.replicate 32 0)) (C := (u8s (List.replicate 32 0)).toArray) hm.symm rfl).setAll (vs := u8s D) (by simp [u8s_length, HD.out.2.1])
      have := Blk.bin hb HD.out.2.2.1 (by rw [HD.out.2.1]; unfold maxLen; omega)
      rw [HD.out.2.1] at this
      rw [← hm]
      exact this
  clear hU hm b2 O
  have hsl := fun w => run_whole (P := Tryd.prog) Tryd.underlying59 Tryd.byte1 w m 0 (by omega)
  go_wp2_with (first
    | (at_builtin; refine wpList_append_bin rfl (.tmp 12) (.tmp 13) rfl (q + 1) a1 18 c1 X rfl H2.out.1 (some ⟨m, 0, none⟩) 32 32 D rfl H2.out.2.1 (fun h => by cases h) (by omega) H2.out.2.2.2 ?_; intro a3 c3 w3 ow3 bl3; have H3 : Hid (BIn w3 a3 50 (X ++ D) ∧ Below q w w3 ∧ q ≤ w3.heap.size) := ⟨own_bin ow3 (by unfold maxLen; omega) (fun z hz => (List.mem_append.1 hz).elim (HX.out.2.2 z) (HD.out.2.2.1 z)), H2.out.2.2.1.trans (bl3.mono (by omega)), by have := bl3.size; have := H2.out.2.2.2; omega⟩)
    | (go_at_call 28; refine (refWrite_of a3 50 c3 (X ++ D) w3 H3.out.1 (by omega)).mono ?_; rintro e w4 ⟨rfl, b4⟩))
  go_ret
  exact ⟨by rw [HD.out.2.2.2]; rfl, H3.out.2.1.trans (b4.mono H3.out.2.2)⟩

set_option maxHeartbeats 1000000 in
theorem refnumber_of (a : Option Addr) (n c : Nat) (bs : List Int) (w : World) (h : BIn w a n bs) (hn : n ≤ 8) :
    Calls Tryd.prog 32 #[.slice a n c] w fun e w' => e = .returned (.int .u64 (numI bs)) ∧ w' = w := by
  have H : Hid (BIn w a n bs) := h
  clear h
  go_enter Tryd.func32, Tryd.ntmps32
  go_wp2
  go_loopw [3, 4] (fun v i wr => ∃ j : Nat, j ≤ n ∧ i = .int .i64 j ∧ v = .int .u64 (numI (bs.take j)) ∧ wr = w)
    (fun _ i _ => n - (intOf i).toNat)
  case atStart => exact ⟨0, by omega, rfl, rfl, rfl⟩
  case round =>
    obtain ⟨j, hj, rfl, rfl, rfl⟩ := hrel
    by_cases hlt : j < n
    · have hlt' : (j : Int) < n := by omega
      obtain ⟨b, off, ha, hcell⟩ := H.out.2.2.2.resolve_left (by omega)
      subst ha
      have hc := hcell j hlt
      clear hcell
      have hx : Fits8 (bs.getD j 0) := byte_fits H.out.2.2.1 j
      obtain ⟨x, ex⟩ : ∃ x, x = bs.getD j 0 := ⟨_, rfl⟩
      rw [← ex] at hc hx
      obtain ⟨r0, r1, _⟩ := numI_range j (bs.take j) (by rw [List.length_take, H.out.1]; omega) (fun z hz => H.out.2.2.1 z (List.mem_of_mem_take hz))
      have r2 : numI (bs.take j) < 72057594037927936 := by
        have := p256 j (by omega)
        omega
      have hnx : numI (bs.take j) * 256 + x = numI (bs.take (j + 1)) := by
        have hl : j < bs.length := by rw [H.out.1]; exact hlt
        rw [List.take_succ_eq_append_getElem hl, numI_snoc, ex]
        simp [List.getD, hl]
      obtain ⟨N, eN⟩ : ∃ N, N = numI (bs.take j) := ⟨_, rfl⟩
      rw [← eN] at r0 r2 hnx ⊢
      have hor := shl8 r0 r2 hx
      have HE : Hid (N * 256 + x = numI (bs.take (j + 1))) := hnx
      clear hnx eN ex r1
      obtain ⟨hx0, hx1⟩ := hx
      go_wp2
      go_roundw
      case rel => exact ⟨j + 1, by omega, by go_num, by rw [← HE.out], trivial⟩
      case measure => simp [intOf]; omega
    · have hge : (n : Int) ≤ j := by omega
      have e : bs.take j = bs := List.take_of_length_le (by rw [H.out.1]; omega)
      rw [e]
      go_wp2
      go_ret
      exact ⟨rfl, rfl⟩

set_option maxHeartbeats 1000000 in
theorem refLook_bad (s : ByteArray) (cs : List Int) (n : Nat) (w : World) (hs : s = strOfNums cs) (hf : ∀ z ∈ cs, Fits8 z) (hl : cs.length = n) (hn : n ≤ 100000) (hg : ¬ Good cs) :
    Calls Tryd.prog 13 #[.string s] w fun e w' => e = .returned (.tuple #[tokV tok0, .int .i64 50]) ∧ Below w.heap.size w w' := by
  obtain ⟨q, hq⟩ : ∃ q, q = w.heap.size := ⟨_, rfl⟩
  rw [← hq]
  have C := fun o => refRead_at s cs n (w.alloc o) hs hf hl hn
  simp only [World.size_alloc, ← hq] at C
  have HG : Hid (¬ Good cs) := hg
  clear hs hf hl hg
  have fin : ∀ (w1 : World) (o : Obj), o = .cells #[.int .u32 0, .int .u32 0, .bool false, .int .u64 0] 26 → Below (q + 1) (w.alloc o) w1 → Blk w1 q (tokL tok0) 26 ∧ Below q w w1 := by
    intro w1 o ho b1
    subst ho
    exact ⟨(Blk.new' (L := tokL tok0) hq.symm rfl).below b1 (by omega), ((Below.refl q w).alloc (by omega) _).trans (b1.mono (by omega))⟩
  by_cases hr : Reads cs
  · have hE : readE cs = 0 := by unfold readE; rw [if_pos hr]
    rw [hE] at C
    have HR : Hid (Reads cs) := hr
    clear hE hr
    go_enter Tryd.func13, Tryd.ntmps13
    go_wp2_with fail
    refine (C _).mono ?_
    rintro e w1 ⟨a, m, c, rfl, hb, -, hc, b1⟩
    clear C
    have HB : Hid (Blk w1 q (tokL tok0) 26 ∧ Below q w w1) := fin w1 _ rfl b1
    rw [← hq]
    clear b1 hc fin hq
    by_cases hm : m = 50
    · subst hm
      obtain ⟨b, off, ha, hcell⟩ := hb.2.2.2.resolve_left (by omega)
      subst ha
      have c0 := hcell 0 (by omega)
      have c17 := hcell 17 (by omega)
      rw [Nat.add_zero] at c0
      have f0 := byte_fits hb.2.2.1 0
      have f17 := byte_fits hb.2.2.1 17
      have HL : Hid ((readI cs).length = 50) := hb.1
      obtain ⟨x0, e0⟩ : ∃ x, x = (readI cs).getD 0 0 := ⟨_, rfl⟩
      obtain ⟨x, ex⟩ : ∃ x, x = (readI cs).getD 17 0 := ⟨_, rfl⟩
      rw [← ex] at c17 f17
      rw [← e0] at c0 f0
      obtain ⟨f00, f01⟩ := f0
      obtain ⟨f70, f71⟩ := f17
      have HE : Hid (x0 = (readI cs).getD 0 0 ∧ x = (readI cs).getD 17 0) := ⟨e0, ex⟩
      clear hcell hb e0 ex
      by_cases h0 : x0 = 1
      · subst h0
        have h1 : 1 < x := by
          by_cases h : 1 < x
          · exact h
          · exact absurd ⟨HR.out, HL.out, HE.out.1.symm, by rw [← HE.out.2]; omega⟩ HG.out
        go_wp2_with (refine wpList_store_mid rfl 26 (.tmp 2) (.tmp 30) rfl q 0 (tokL tok0).toArray rfl rfl ?hT (tok_size _) (tok_all _) ?_; (case hT => exact HB.out.1.there 0 4 (by decide)))
        have b3 := HB.out.1.setAll (vs := tokL tok0) (by rfl)
        refine bodyPost_ret (v := .tuple #[.agg (tokL tok0).toArray, .int .i64 50]) (results_cell_two (p := 2) (u := 3) (ty := 26) rfl _ _ q _ _ _ rfl b3 Tryd.underlying26 rfl Tryd.info_token _ rfl) rfl ⟨rfl, below_setCells (Nat.le_refl _) _ _ _ HB.out.2⟩
      · have h0' : ¬ (x0 == 1) = true := by simpa using h0
        go_wp2_with (refine wpList_store_mid rfl 26 (.tmp 2) (.tmp 30) rfl q 0 (tokL tok0).toArray rfl rfl ?hT (tok_size _) (tok_all _) ?_; (case hT => exact HB.out.1.there 0 4 (by decide)))
        have b3 := HB.out.1.setAll (vs := tokL tok0) (by rfl)
        refine bodyPost_ret (v := .tuple #[.agg (tokL tok0).toArray, .int .i64 50]) (results_cell_two (p := 2) (u := 3) (ty := 26) rfl _ _ q _ _ _ rfl b3 Tryd.underlying26 rfl Tryd.info_token _ rfl) rfl ⟨rfl, below_setCells (Nat.le_refl _) _ _ _ HB.out.2⟩
    · have hm' : ¬ (m : Int) = 50 := by omega
      clear hb hm
      go_wp2_with (refine wpList_store_mid rfl 26 (.tmp 2) (.tmp 30) rfl q 0 (tokL tok0).toArray rfl rfl ?hT (tok_size _) (tok_all _) ?_; (case hT => exact HB.out.1.there 0 4 (by decide)))
      have b3 := HB.out.1.setAll (vs := tokL tok0) (by rfl)
      refine bodyPost_ret (v := .tuple #[.agg (tokL tok0).toArray, .int .i64 50]) (results_cell_two (p := 2) (u := 3) (ty := 26) rfl _ _ q _ _ _ rfl b3 Tryd.underlying26 rfl Tryd.info_token _ rfl) rfl ⟨rfl, below_setCells (Nat.le_refl _) _ _ _ HB.out.2⟩
  · have hE : readE cs = 40 := by unfold readE; rw [if_neg hr]
    rw [hE] at C
    clear hr hE
    go_enter Tryd.func13, Tryd.ntmps13
    go_wp2_with fail
    refine (C _).mono ?_
    rintro e w1 ⟨a, m, c, rfl, hb, -, hc, b1⟩
    clear C hb hc
    have HB : Hid (Blk w1 q (tokL tok0) 26 ∧ Below q w w1) := fin w1 _ rfl b1
    rw [← hq]
    clear b1 fin hq
    go_wp2_with (refine wpList_store_mid rfl 26 (.tmp 2) (.tmp 30) rfl q 0 (tokL tok0).toArray rfl rfl ?hT (tok_size _) (tok_all _) ?_; (case hT => exact HB.out.1.there 0 4 (by decide)))
    have b3 := HB.out.1.setAll (vs := tokL tok0) (by rfl)
    refine bodyPost_ret (v := .tuple #[.agg (tokL tok0).toArray, .int .i64 50]) (results_cell_two (p := 2) (u := 3) (ty := 26) rfl _ _ q _ _ _ rfl b3 Tryd.underlying26 rfl Tryd.info_token _ rfl) rfl ⟨rfl, below_setCells (Nat.le_refl _) _ _ _ HB.out.2⟩

set_option maxHeartbeats 1000000 in
set_option maxRecDepth 100000 in
theorem refLook_good (s : ByteArray) (cs : List Int) (n : Nat) (w : World) (hs : s = strOfNums cs) (hf : ∀ z ∈ cs, Fits8 z) (hl : cs.length = n) (hn : n ≤ 100000) (hg : Good cs) :
    Calls Tryd.prog 13 #[.string s] w fun e w' => e = .returned (.tuple #[tokV (tokI (lookB cs)), .int .i64 0]) ∧ Below w.heap.size w w' := by
  obtain ⟨q, hq⟩ : ∃ q, q = w.heap.size := ⟨_, rfl⟩
  rw [← hq]
  have hE : readE cs = 0 := by unfold readE; rw [if_pos hg.1]
  have C := fun o => refRead_at s cs n (w.alloc o) hs hf hl hn
  simp only [World.size_alloc, ← hq, hE] at C
  have hgb := good_body hg
  have HG : Hid (Good cs ∧ (tokI (lookB cs)).Fits) := ⟨hg, tokI_fits hgb.1 hgb.2.2.1⟩
  clear hs hf hl hg hE hgb
  go_enter Tryd.func13, Tryd.ntmps13
  go_wp2_with fail
  refine (C _).mono ?_
  rintro e w1 ⟨a, m, c, rfl, hb, -, hc, b1⟩
  clear C
  rw [← hq]
  have HB : Hid (Blk w1 q (tokL tok0) 26 ∧ Below q w w1) := ⟨(Blk.new' (L := tokL tok0) hq.symm rfl).below b1 (by omega), ((Below.refl q w).alloc (by omega) _).trans (b1.mono (by omega))⟩
  have hm : m = 50 := by rw [← hb.1]; exact HG.out.1.2.1
  subst hm
  obtain ⟨b, off, ha, hcell⟩ := hb.2.2.2.resolve_left (by omega)
  subst ha
  have c0 := hcell 0 (by omega)
  have c17 := hcell 17 (by omega)
  rw [Nat.add_zero, HG.out.1.2.2.1] at c0
  have l17 := HG.out.1.2.2.2
  have l0 := (byte_fits hb.2.2.1 17).1
  obtain ⟨x, ex⟩ : ∃ x, x = (readI cs).getD 17 0 := ⟨_, rfl⟩
  rw [← ex] at c17 l17 l0
  have hbs : BIn w1 (some ⟨b, off, none⟩) 18 (lookB cs) := by
    have := hb.part 0 18 (by omega)
    rw [Nat.add_zero, List.drop_zero] at this
    exact this
  have hx : x = (lookB cs).getD 17 0 := by rw [ex]; unfold lookB; simp [List.getD]
  clear hcell hb b1 ex hq
  have c5 : (5 : Int) ≤ c := by omega
  have c9 : (9 : Int) ≤ c := by omega
  have c17' : (17 : Int) ≤ c := by omega
  have n1 : ¬ c = 1 := by omega
  have n5 : ¬ c = 5 := by omega
  have n9 : ¬ c = 9 := by omega
  obtain ⟨N1, e1⟩ : ∃ N, N = numI (((lookB cs).drop 1).take 4) := ⟨_, rfl⟩
  obtain ⟨N2, e2⟩ : ∃ N, N = numI (((lookB cs).drop 5).take 4) := ⟨_, rfl⟩
  obtain ⟨N3, e3⟩ : ∃ N, N = numI (((lookB cs).drop 9).take 8) := ⟨_, rfl⟩
  have f1 : 0 ≤ N1 ∧ N1 < 4294967296 := by rw [e1]; exact HG.out.2.1
  have f2 : 0 ≤ N2 ∧ N2 < 4294967296 := by rw [e2]; exact HG.out.2.2.1
  obtain ⟨f10, f11⟩ := f1
  obtain ⟨f20, f21⟩ := f2
  have HE : Hid (N1 = numI (((lookB cs).drop 1).take 4) ∧ N2 = numI (((lookB cs).drop 5).take 4) ∧ N3 = numI (((lookB cs).drop 9).take 8) ∧ x = (lookB cs).getD 17 0) := ⟨e1, e2, e3, hx⟩
  have C1 := refnumber_of (some ⟨b, off + 1, none⟩) 4 (c - 1) (((lookB cs).drop 1).take 4) w1.drew (hbs.drawn.part 1 4 (by omega)) (by omega)
  have C2 := refnumber_of (some ⟨b, off + 5, none⟩) 4 (c - 5) (((lookB cs).drop 5).take 4) w1.drew (hbs.drawn.part 5 4 (by omega)) (by omega)
  have C3 := refnumber_of (some ⟨b, off + 9, none⟩) 8 (c - 9) (((lookB cs).drop 9).take 8) w1.drew (hbs.drawn.part 9 8 (by omega)) (by omega)
  rw [← e1] at C1
  rw [← e2] at C2
  rw [← e3] at C3
  clear e1 e2 e3 hbs hc hx
  have x1 : IntKind.u32.wrap N1 = N1 := by rw [IntKind.wrap_u32]; omega
  have x2 : IntKind.u32.wrap N2 = N2 := by rw [IntKind.wrap_u32]; omega
  go_wp2
  refine region_tail 16 (by kernel_rfl) (by kernel_rfl) ?_
  simp only [List.take_succ_cons, List.take_zero, List.drop_succ_cons, List.drop_zero]
  iterate 2 still_step
  still_call C1
  iterate 3 still_step
  still_call C2
  iterate 3 still_step
  still_call C3
  iterate 5 still_step
  refine wpStill_nil ?_
  go_wp2_with (refine wpList_store_mid rfl 26 (.tmp 2) (.tmp 46) rfl q 0 (tokL ⟨N1, N2, x == 1, N3⟩).toArray rfl rfl ?hT (tok_size _) (tok_all _) ?_; (case hT => exact HB.out.1.drew.there 0 4 (by decide)))
  have b3 := HB.out.1.drew.setAll (vs := tokL ⟨N1, N2, x == 1, N3⟩) (by rfl)
  refine bodyPost_ret (v := .tuple #[.agg (tokL ⟨N1, N2, x == 1, N3⟩).toArray, .int .i64 0]) (results_cell_two (p := 2) (u := 3) (ty := 26) rfl _ _ q _ _ _ rfl b3 Tryd.underlying26 rfl Tryd.info_token _ rfl) rfl ⟨?_, below_setCells (Nat.le_refl _) _ _ _ HB.out.2.drew⟩
  rw [HE.out.1, HE.out.2.1, HE.out.2.2.1, HE.out.2.2.2]
  rfl

theorem refLook_of (s : ByteArray) (cs : List Int) (n : Nat) (w : World) (hs : s = strOfNums cs) (hf : ∀ z ∈ cs, Fits8 z) (hl : cs.length = n) (hn : n ≤ 100000) :
    Calls Tryd.prog 13 #[.string s] w fun e w' => e = .returned (.tuple #[tokV (lookI cs), .int .i64 (lookE cs)]) ∧ Below w.heap.size w w' := by
  unfold lookI lookE
  by_cases hg : Good cs
  · rw [if_pos hg, if_pos hg]
    exact refLook_good s cs n w hs hf hl hn hg
  · rw [if_neg hg, if_neg hg]
    exact refLook_bad s cs n w hs hf hl hn hg
end Go.Proofs.YtpliokkmiijieaaDoor
namespace Go.Proofs.YtpliokkmiijieaaDoor
open Go.RowKit
set_option linter.unusedVariables false
set_option maxRecDepth 4000

/-- Few enough tenants, with short lists. -/
def Few (ts : List Ten) : Prop := ts.length ≤ 70 ∧ ∀ t ∈ ts, t.key.length ≤ 200 ∧ t.gone.length ≤ 50
instance (ts : List Ten) : Decidable (Few ts) := by unfold Few; exact inferInstance

theorem passNew_any (lo : Nat) (a : Option Addr) (len cap : Nat) (ts : List Ten) (w : World) (h : TsIn lo w a len ts) (hl : len ≤ 1000) (hb : ∀ t ∈ ts, Small t) :
    Calls Tryd.prog 16 #[.slice a len cap] w fun e w' => ∃ (P : Value) (E : Int), e = .returned (.tuple #[P, .int .u16 E]) ∧ Below w.heap.size w w' ∧ ((newE ts = 0 ∧ E = 0 ∧ TabIn w.heap.size w' P ts) ∨ (newE ts ≠ 0 ∧ E = newE ts ∧ P = .pointer none)) := by
  refine (passNew_of lo a len cap ts w h hl hb).mono ?_
  rintro e w' ⟨hB, (⟨h0, p, rfl, hT⟩ | ⟨h0, rfl⟩)⟩
  · exact ⟨p, 0, rfl, hB, .inl ⟨h0, rfl, hT⟩⟩
  · exact ⟨_, _, rfl, hB, .inr ⟨h0, rfl, rfl⟩⟩

set_option maxHeartbeats 1000000 in
theorem tenants_of (lo : Nat) (a : Option Addr) (n c : Nat) (ts : List Ten) (w : World) (h : TsIn lo w a n ts) :
    Calls Tryd.prog 14 #[.slice a n c] w fun e w' => e = .returned (.bool (decide (Few ts))) ∧ w' = w := by
  have H : Hid (TsIn lo w a n ts) := h
  clear h
  by_cases h70 : (70 : Int) < n
  · have hd : decide (Few ts) = false := decide_eq_false (fun h => by have := h.1; rw [H.out.1] at this; omega)
    rw [hd]
    clear hd
    go_enter Tryd.func14, Tryd.ntmps14
    go_wp2
    go_ret
    exact ⟨rfl, rfl⟩
  · have h70' : (n : Int) ≤ 70 := by omega
    obtain ⟨F, hF⟩ : ∃ F, F = decide (Few ts) := ⟨_, rfl⟩
    have HF : Hid (F = decide (Few ts)) := hF
    rw [← hF]
    clear hF
    go_enter Tryd.func14, Tryd.ntmps14
    go_wp2
    go_loopw [3] (fun i wr => ∃ k : Nat, k ≤ n ∧ i = .int .i64 k ∧ (∀ t ∈ ts.take k, t.key.length ≤ 200 ∧ t.gone.length ≤ 50) ∧ wr = w)
      (fun i _ => n - (intOf i).toNat)
    case atStart => exact ⟨0, by omega, rfl, by simp, rfl⟩
    case round =>
      obtain ⟨k, hk, rfl, hall, rfl⟩ := hrel
      have HA : Hid (∀ t ∈ ts.take k, t.key.length ≤ 200 ∧ t.gone.length ≤ 50) := hall
      clear hall
      by_cases hlt : k < n
      · have hlt' : (k : Int) < n := by omega
        obtain ⟨b, off, ha, hlo, hrow⟩ := H.out.2.resolve_left (by omega)
        subst ha
        obtain ⟨t, ht⟩ : ∃ t, ts[k]? = some t := ⟨_, List.getElem?_eq_getElem (by rw [H.out.1]; exact hlt)⟩
        obtain ⟨L, hT, hR⟩ := hrow k t ht
        obtain ⟨ka, kn, kc, ga, gn, gc, hL, ⟨k1, k2, k3, k4⟩, ⟨g1, g2, g3, g4⟩, hf⟩ := hT
        subst hL
        have c1 : wr.cell? ⟨b, off + k * 5 + 1, none⟩ = some (.slice ka kn kc) := hR 1 _ rfl
        have c4 : wr.cell? ⟨b, off + k * 5 + 4, none⟩ = some (.slice ga gn gc) := hR 4 _ rfl
        have HT : Hid (ts[k]? = some t ∧ t.key.length = kn ∧ t.gone.length = gn) := ⟨ht, k1.1, g1.1⟩
        clear hrow ht hR k1 k2 k3 k4 g1 g2 g3 g4 hf
        by_cases hb1 : (200 : Int) < kn
        · have hd : F = false := by
            rw [HF.out]
            refine decide_eq_false (fun h => ?_)
            have := (h.2 t (List.mem_of_getElem? HT.out.1)).1
            rw [HT.out.2.1] at this
            omega
          subst hd
          go_wp2
          go_ret
          exact ⟨rfl, rfl⟩
        · have hb1' : (kn : Int) ≤ 200 := by omega
          have hx1 : decide ((200 : Int) < kn) = false := by simpa using hb1'
          by_cases hb2 : (50 : Int) < gn
          · have hd : F = false := by
              rw [HF.out]
              refine decide_eq_false (fun h => ?_)
              have := (h.2 t (List.mem_of_getElem? HT.out.1)).2
              rw [HT.out.2.2] at this
              omega
            subst hd
            go_wp2
            go_ret
            exact ⟨rfl, rfl⟩
          · have hb2' : (gn : Int) ≤ 50 := by omega
            have hx2 : decide ((50 : Int) < gn) = false := by simpa using hb2'
            go_wp2
            go_roundw
            case rel =>
              refine ⟨k + 1, by omega, by go_num, ?_, trivial⟩
              rw [take_next HT.out.1]
              intro x hx
              rcases List.mem_append.1 hx with hx | hx
              · exact HA.out x hx
              · simp only [List.mem_cons, List.not_mem_nil, or_false] at hx
                subst hx
                have := HT.out.2
                omega
            case measure => simp [intOf]; omega
      · have hge : (n : Int) ≤ k := by omega
        have hd : F = true := by
          rw [HF.out]
          refine decide_eq_true ⟨by rw [H.out.1]; omega, ?_⟩
          have := HA.out
          rwa [List.take_of_length_le (by rw [H.out.1]; omega)] at this
        subst hd
        go_wp2
        go_ret
        exact ⟨rfl, rfl⟩

set_option maxHeartbeats 2000000 in
theorem sameTenant_of (lo lo' : Nat) (L L' : List Value) (t : Ten) (w : World) (h : TenIn lo w L t) (h' : TenIn lo' w L' t) (hg : t.gone.length ≤ 1000) :
    Calls Tryd.prog 22 #[.agg L.toArray, .agg L'.toArray] w fun e w' => e = .returned (.bool true) ∧ Below w.heap.size w w' := by
  obtain ⟨ka, kn, kc, ga, gn, gc, hL, ⟨k1, k2, k3, k4⟩, ⟨g1, g2, g3, g4⟩, hf⟩ := h
  obtain ⟨ka', kn', kc', ga', gn', gc', hL', ⟨k1', k2', k3', k4'⟩, ⟨g1', g2', g3', g4'⟩, hf'⟩ := h'
  subst hL
  subst hL'
  have e1 : kn' = kn := by rw [← k1.1, ← k1'.1]
  have e2 : gn' = gn := by rw [← g1.1, ← g1'.1]
  subst e1
  subst e2
  obtain ⟨q, hq⟩ : ∃ q, q = w.heap.size := ⟨_, rfl⟩
  have lg : gn' ≤ 1000 := by rw [← g1.1]; exact hg
  have H : Hid (q = w.heap.size ∧ BIn w ka kn' t.key ∧ BIn w ka' kn' t.key ∧ UIn w ga gn' t.gone ∧ UIn w ga' gn' t.gone) := ⟨hq, k1, k1', g1, g1'⟩
  rw [← hq]
  clear k1 k2 k3 k4 g1 g2 g3 g4 hf k1' k2' k3' k4' g1' g2' g3' g4' hf' hg
  go_enter Tryd.func22, Tryd.ntmps22
  go_upto_region 1 with fail
  rw [← hq]
  generalize hV : World.alloc (World.alloc w _) _ = V
  have pv : Blk V q (tenL t ka kn' kc ga gn' gc) 49 ∧ Blk V (q + 1) (tenL t ka' kn' kc' ga' gn' gc') 49 ∧ Below q w V := by
    rw [← hV]
    exact ⟨(Blk.new' hq.symm rfl).alloc _, Blk.new' (by simp [hq]) rfl, ((Below.refl _ _).alloc (by omega) _).alloc (by simp; omega) _⟩
  clear hV hq
  obtain ⟨v0, v1, v2⟩ := pv
  have bw : Below w.heap.size w V := by rw [← H.out.1]; exact v2
  have HV : Hid (Below q w V ∧ UIn V ga gn' t.gone ∧ UIn V ga' gn' t.gone) := ⟨v2, H.out.2.2.2.1.keeps (Lo.zero _) (Keeps.of_below bw), H.out.2.2.2.2.keeps (Lo.zero _) (Keeps.of_below bw)⟩
  have c0 : V.cell? ⟨q, 0, none⟩ = some (.int .u32 t.id) := v0.cell 0
  have c1 : V.cell? ⟨q, 1, none⟩ = some (.slice ka kn' kc) := v0.cell 1
  have c2 : V.cell? ⟨q, 2, none⟩ = some (.int .u64 t.quota) := v0.cell 2
  have c3 : V.cell? ⟨q, 3, none⟩ = some (.int .u64 t.size) := v0.cell 3
  have c4 : V.cell? ⟨q, 4, none⟩ = some (.slice ga gn' gc) := v0.cell 4
  have d0 : V.cell? ⟨q + 1, 0, none⟩ = some (.int .u32 t.id) := v1.cell 0
  have d1 : V.cell? ⟨q + 1, 1, none⟩ = some (.slice ka' kn' kc') := v1.cell 1
  have d2 : V.cell? ⟨q + 1, 2, none⟩ = some (.int .u64 t.quota) := v1.cell 2
  have d3 : V.cell? ⟨q + 1, 3, none⟩ = some (.int .u64 t.size) := v1.cell 3
  have d4 : V.cell? ⟨q + 1, 4, none⟩ = some (.slice ga' gn' gc') := v1.cell 4
  have s1 := str_of V ka kn' kc t.key (H.out.2.1.below bw)
  have s2 := str_of V ka' kn' kc' t.key (H.out.2.2.1.below bw)
  clear v0 v1 v2 bw
  go_wp2
  go_loopw [5] (fun i wr => ∃ (k d : Nat), k ≤ gn' ∧ i = .int .i64 k ∧ wr = V.drewN d)
    (fun i _ => gn' - (intOf i).toNat)
  case atStart => exact ⟨0, 0, by omega, rfl, rfl⟩
  case round =>
    obtain ⟨k, d, hk, rfl, rfl⟩ := hrel
    clear s1 s2
    by_cases hlt : k < gn'
    · have hlt' : (k : Int) < gn' := by omega
      obtain ⟨b, off, ha, hcell⟩ := HV.out.2.1.2.2.2.resolve_left (by omega)
      obtain ⟨b', off', ha', hcell'⟩ := HV.out.2.2.2.2.2.resolve_left (by omega)
      subst ha
      subst ha'
      have hc := hcell k hlt
      have hc' := hcell' k hlt
      obtain ⟨x, ex⟩ : ∃ x, x = t.gone.getD k 0 := ⟨_, rfl⟩
      rw [← ex] at hc hc'
      clear hcell hcell' ex
      go_wp2
      go_quiet (fail)
      go_wp2
      go_roundw
      case rel => exact ⟨k + 1, _, by omega, by go_num, rfl⟩
      case measure => simp [intOf]; omega
    · have hge : (gn' : Int) ≤ k := by omega
      go_wp2
      go_ret
      exact ⟨rfl, below_drewN HV.out.1 _⟩
end Go.Proofs.YtpliokkmiijieaaDoor
namespace Go.Proofs.YtpliokkmiijieaaDoor
open Go.RowKit
set_option linter.unusedVariables false
set_option maxRecDepth 4000

/-- Five cells each, tenants one behind the other. -/
def TsC (lo : Nat) (w : World) (C : List Value) (ts : List Ten) : Prop :=
  C.length = ts.length * 5 ∧ (∀ v ∈ C, v.oneCell' = true) ∧ ∀ r t, ts[r]? = some t → TenIn lo w ((C.drop (r * 5)).take 5) t
theorem TsC.keeps {lo : Nat} {w w' : World} {C : List Value} {ts : List Ten} (h : TsC lo w C ts) (hk : Keeps lo w w') : TsC lo w' C ts := ⟨h.1, h.2.1, fun r t ht => (h.2.2 r t ht).keeps hk⟩
theorem TsC.below {lo : Nat} {w w' : World} {C : List Value} {ts : List Ten} (h : TsC lo w C ts) (hb : Below w.heap.size w w') : TsC lo w' C ts := h.keeps (Keeps.of_below hb)
theorem ten_len {lo : Nat} {w : World} {L : List Value} {t : Ten} (h : TenIn lo w L t) : L.length = 5 ∧ ∀ v ∈ L, v.oneCell' = true := by
  obtain ⟨ka, kn, kc, ga, gn, gc, rfl, _⟩ := h
  exact ⟨rfl, tenL_one _ _ _ _ _ _ _⟩
theorem TsC.append {lo : Nat} {w : World} {C D : List Value} {ts us : List Ten} (h : TsC lo w C ts) (k : TsC lo w D us) : TsC lo w (C ++ D) (ts ++ us) := by
  obtain ⟨h1, h2, h3⟩ := h
  obtain ⟨k1, k2, k3⟩ := k
  refine ⟨by simp [h1, k1]; omega, fun v hv => (List.mem_append.1 hv).elim (h2 v) (k2 v), fun r t ht => ?_⟩
  by_cases hr : r < ts.length
  · rw [List.getElem?_append_left hr] at ht
    have e : ((C ++ D).drop (r * 5)).take 5 = (C.drop (r * 5)).take 5 := by
      rw [List.drop_append_of_le_length (by rw [h1]; omega), List.take_append_of_le_length (by rw [List.length_drop, h1]; omega)]
    rw [e]
    exact h3 r t ht
  · have hr' : ts.length ≤ r := by omega
    rw [List.getElem?_append_right hr'] at ht
    have e : (C ++ D).drop (r * 5) = D.drop ((r - ts.length) * 5) := by
      rw [List.drop_append, List.drop_eq_nil_of_le (by rw [h1]; omega), List.nil_append, h1]
      congr 1
      omega
    rw [e]
    exact k3 _ t ht
theorem TsC.drop {lo : Nat} {w : World} {C : List Value} {ts : List Ten} (h : TsC lo w C ts) (n : Nat) : TsC lo w (C.drop (n * 5)) (ts.drop n) := by
  obtain ⟨h1, h2, h3⟩ := h
  refine ⟨by rw [List.length_drop, List.length_drop, h1]; omega, fun v hv => h2 v (List.mem_of_mem_drop hv), fun r t ht => ?_⟩
  rw [List.getElem?_drop] at ht
  have := h3 _ t ht
  rw [List.drop_drop]
  have e : n * 5 + r * 5 = (n + r) * 5 := by omega
  rw [e]
  exact this
theorem TsC.take {lo : Nat} {w : World} {C : List Value} {ts : List Ten} (h : TsC lo w C ts) (n : Nat) : TsC lo w (C.take (n * 5)) (ts.take n) := by
  obtain ⟨h1, h2, h3⟩ := h
  refine ⟨by rw [List.length_take, List.length_take, h1]; omega, fun v hv => h2 v (List.mem_of_mem_take hv), fun r t ht => ?_⟩
  have hr : r < n := by
    have := (List.getElem?_eq_some_iff.1 ht).1
    simp at this
    omega
  rw [List.getElem?_take_of_lt hr] at ht
  have e : ((C.take (n * 5)).drop (r * 5)).take 5 = (C.drop (r * 5)).take 5 := by
    rw [List.drop_take, List.take_take]
    congr 1
    omega
  rw [e]
  exact h3 r t ht
theorem TsC.one {lo : Nat} {w : World} {L : List Value} {t : Ten} (h : TenIn lo w L t) : TsC lo w L [t] := by
  obtain ⟨h1, h2⟩ := ten_len h
  refine ⟨by simpa using h1, h2, fun r u hu => ?_⟩
  cases r with
  | zero =>
    cases hu
    rw [Nat.zero_mul, List.drop_zero, List.take_of_length_le (by omega)]
    exact h
  | succ r => simp at hu
theorem TsC.nil (lo : Nat) (w : World) : TsC lo w [] [] := ⟨rfl, by simp, fun r t ht => by simp at ht⟩
/-- A list of tenants in the world, as its cells. -/
theorem ts_cells {lo : Nat} {w : World} {a : Option Addr} {n : Nat} {ts : List Ten} (h : TsIn lo w a n ts) : ∃ C, TsC lo w C ts ∧ (n = 0 ∨ ∃ b off, a = some ⟨b, off, none⟩ ∧ lo ≤ b ∧ ∀ j v, C[j]? = some v → w.cell? ⟨b, off + j, none⟩ = some v) := by
  obtain ⟨h1, h2⟩ := h
  rcases h2 with h2 | ⟨b, off, ha, hlo, hr⟩
  · subst h2
    obtain rfl := List.length_eq_zero_iff.1 h1
    exact ⟨[], TsC.nil lo w, .inl rfl⟩
  · suffices hs : ∀ k, k ≤ n → ∃ C, TsC lo w C (ts.take k) ∧ ∀ j v, C[j]? = some v → w.cell? ⟨b, off + j, none⟩ = some v by
      obtain ⟨C, hC, hc⟩ := hs n (Nat.le_refl _)
      rw [List.take_of_length_le (by omega)] at hC
      exact ⟨C, hC, .inr ⟨b, off, ha, hlo, hc⟩⟩
    intro k
    induction k with
    | zero => intro _; exact ⟨[], by simpa using TsC.nil lo w, fun j v hv => by simp at hv⟩
    | succ k ih =>
      intro hk
      obtain ⟨C, hC, hc⟩ := ih (by omega)
      obtain ⟨t, ht⟩ : ∃ t, ts[k]? = some t := ⟨_, List.getElem?_eq_getElem (by omega)⟩
      obtain ⟨L, hT, hL⟩ := hr k t ht
      refine ⟨C ++ L, ?_, fun j v hv => ?_⟩
      · rw [take_next ht]
        exact hC.append (TsC.one hT)
      · have hCl : C.length = k * 5 := by rw [hC.1, List.length_take]; omega
        by_cases hj : j < C.length
        · rw [List.getElem?_append_left hj] at hv
          exact hc j v hv
        · rw [List.getElem?_append_right (by omega)] at hv
          have := hL _ v hv
          rw [show off + k * 5 + (j - C.length) = off + j by omega] at this
          exact this
/-- Cells of tenants that lie in the world are a list of them. -/
theorem cells_ts {w : World} {b off n : Nat} {C : List Value} {ts : List Ten} (h : TsC 0 w C ts) (hn : ts.length = n) (hc : ∀ j v, C[j]? = some v → w.cell? ⟨b, off + j, none⟩ = some v) : TsIn 0 w (some ⟨b, off, none⟩) n ts := by
  refine ⟨hn, .inr ⟨b, off, rfl, Nat.zero_le _, fun r t ht => ⟨_, h.2.2 r t ht, fun j v hv => ?_⟩⟩⟩
  have hj := (List.getElem?_eq_some_iff.1 hv).1
  have hj5 : j < 5 := by simp at hj; omega
  rw [List.getElem?_take_of_lt hj5, List.getElem?_drop] at hv
  have := hc _ v hv
  rw [show off + r * 5 + j = off + (r * 5 + j) by omega]
  exact this
theorem Tryd.zero_ten : (Tryd.prog.info? 49).map (fun i => (i.zero, i.size, i.bytes)) = some (some (.agg ten0L.toArray), 5, 72) := by kernel_rfl
theorem wpList_append_tens {ops : Array Oper} {rest : List Oper} {o : Oper} {a : Act} {Q : Exit → Act → World → Prop} {w : World} (hgd : o.guard = none) (s x : Operand)
    (ho : o.op = .call { callee := .builtin .append, args := #[s, x], argTypes := #[37, 37] }) (base : Nat)
    (a0 : Option Addr) (n0 c0 : Nat) (C : List Value) (hs : a.eval s = .slice a0 n0 c0) (hown : w.ownsRow base 49 5 (.slice a0 n0 c0) n0 C)
    (ad : Addr) (n1 c1 : Nat) (D : List Value) (hx : a.eval x = .slice (some ad) n1 c1) (hl : D.length = n1 * 5) (hin : ∀ j u, D[j]? = some u → w.cell? (ad.add j) = some u) (h1 : ∀ v ∈ D, v.oneCell' = true)
    (hle : n0 + n1 ≤ 1000) (hbase : base ≤ w.heap.size)
    (h : ∀ a' c' w', w'.ownsRow base 49 5 (.slice a' (n0 + n1) c') (n0 + n1) (C ++ D) → w.grownBy w' (Value.slice a0 n0 c0).ownBlock → Below base w w' → wpList Tryd.prog ops Q rest (a.put o.dst (.slice a' (n0 + n1) c')) w') :
    wpList Tryd.prog ops Q (o :: rest) a w := by
  obtain ⟨i0, hi, hz0, hz1, hz2⟩ := info_parts Tryd.zero_ten
  refine wpList_append_own w hgd s x 37 ho base 49 i0 (.agg ten0L.toArray) 5 72 Tryd.underlying37 hi hz0 hz1 hz2 rfl (by decide) _ n0 C hs hown ad n1 c1 D hx hl hin h1 (by unfold maxLen; omega) (by omega) hbase ?_
  intro v' w' hown' hgrow _
  have hb : Below base w w' := (Below.refl base w).grown hgrow hbase (fun k hk => (hown.lt k hk).1)
  obtain ⟨a', c', rfl⟩ : ∃ a' c', v' = .slice a' (n0 + n1) c' := by
    rcases hown'.2 with ⟨hv, hn⟩ | ⟨g, cap, cur, hv, _⟩
    · exact ⟨none, 0, by rw [hv, hn]⟩
    · exact ⟨_, _, hv⟩
  exact h a' c' w' hown' hgrow hb
theorem own_ts {w : World} {base : Nat} {a : Option Addr} {n c : Nat} {C : List Value} {ts : List Ten} (h : w.ownsRow base 49 5 (.slice a n c) n C) (hT : TsC 0 w C ts) : TsIn 0 w a n ts := by
  have hn : ts.length = n := by have := h.1; rw [hT.1] at this; omega
  rcases h.2 with ⟨hv, h0⟩ | ⟨g, cap, cur, hv, hb, hg, hc, hcm, hsz, htake⟩
  · exact ⟨hn, .inl h0⟩
  · cases hv
    refine cells_ts hT hn fun j v hv => ?_
    have := h.cells (g := g) rfl j v hv
    rw [Addr.add_mid] at this
    exact this

/-! ### Another order -/
theorem mem_find {ts : List Ten} (h : TabOk ts) {t : Ten} (ht : t ∈ ts) : findT ts t.id = some t := by
  obtain ⟨i, hi, rfl⟩ := List.getElem_of_mem ht
  induction ts generalizing i with
  | nil => simp at hi
  | cons x r ih =>
    have hr : TabOk r := ⟨fun y hy => h.1 y (by simp [hy]), (List.pairwise_cons.1 h.2).2⟩
    cases i with
    | zero => unfold findT; simp
    | succ i =>
      have hi' : i < r.length := by simpa using hi
      have hne : x.id ≠ r[i].id := (List.pairwise_cons.1 h.2).1 _ (List.getElem_mem hi')
      have := ih hr i hi' (List.getElem_mem hi')
      unfold findT at this ⊢
      rw [List.find?_cons]
      simp only [List.getElem_cons_succ]
      rw [decide_eq_false hne]
      exact this
theorem perm_ok {ts us : List Ten} (h : TabOk ts) (hp : us.Perm ts) : TabOk us :=
  ⟨fun t ht => h.1 t (hp.mem_iff.1 ht), (hp.pairwise_iff (fun {a b} (h : a.id ≠ b.id) => h.symm)).2 h.2⟩
theorem perm_find {ts us : List Ten} (h : TabOk ts) (hp : us.Perm ts) (id : Int) : findT us id = findT ts id := by
  cases hf : findT ts id with
  | none =>
    unfold findT at hf ⊢
    rw [List.find?_eq_none] at hf ⊢
    intro t ht
    exact hf t (hp.mem_iff.1 ht)
  | some t =>
    obtain ⟨m1, m2⟩ := find_mem hf
    have := mem_find (perm_ok h hp) (hp.mem_iff.2 m1)
    rw [m2] at this
    exact this
theorem perm_check {ts us : List Ten} (h : TabOk ts) (hp : us.Perm ts) (cs : List Int) : checkI us cs = checkI ts cs := by
  unfold checkI
  rw [perm_find h hp]
theorem turned_perm (ts : List Ten) (n : Nat) : (ts.drop n ++ ts.take n).Perm ts := by
  have := List.perm_append_comm (l₁ := ts.drop n) (l₂ := ts.take n)
  rwa [List.take_append_drop] at this
theorem newE_ok {ts : List Ten} (h : newE ts = 0) : ts.length ≤ 64 ∧ TabOk ts := by
  unfold newE at h
  split at h
  · cases h
  · split at h
    · exact ⟨by omega, by assumption⟩
    · cases h
theorem ok_newE {ts : List Ten} (h1 : ts.length ≤ 64) (h2 : TabOk ts) : newE ts = 0 := by
  unfold newE
  rw [if_neg (by omega), if_pos h2]
/-- What one tenant alone says of a text. -/
theorem check_one {ts : List Ten} {t : Ten} (h : TabOk ts) (ht : t ∈ ts) (cs : List Int) :
    (checkI [t] cs = checkI ts cs ∧ (checkI ts cs).2 ≠ 51) ∨ (checkI [t] cs = (tok0, 51) ∧ ((checkI ts cs).2 = 0 → (checkI ts cs).1.tenant ≠ t.id)) := by
  unfold checkI
  by_cases hg : Good cs
  · rw [if_pos hg, if_pos hg]
    by_cases he : t.id = (lookI cs).tenant
    · left
      have e1 : findT [t] (lookI cs).tenant = some t := by unfold findT; simp [he]
      have e2 : findT ts (lookI cs).tenant = some t := by rw [← he]; exact mem_find h ht
      rw [e1, e2]
      refine ⟨rfl, ?_⟩
      rw [check_is]
      split
      · decide
      · split
        · show (0 : Int) ≠ 51; decide
        · show refE t (lookI cs) ≠ 51
          rcases refEis t (lookI cs) with h | h | h <;> rw [h] <;> decide
    · right
      have e1 : findT [t] (lookI cs).tenant = none := by unfold findT; simp [he]
      rw [e1]
      refine ⟨rfl, fun h0 => ?_⟩
      cases hf : findT ts (lookI cs).tenant with
      | none => rw [hf] at h0; exact absurd (show (51 : Int) = 0 from h0) (by decide)
      | some u =>
        rw [hf, check_is] at h0
        rw [check_is]
        split at h0
        · exact absurd (show (52 : Int) = 0 from h0) (by decide)
        · rename_i hx
          rw [if_neg hx]
          split at h0
          · rename_i hy
            rw [if_pos hy]
            exact fun h => he h.symm
          · rename_i hy
            exact absurd h0 hy
  · left
    rw [if_neg hg, if_neg hg]
    exact ⟨rfl, by decide⟩
end Go.Proofs.YtpliokkmiijieaaDoor
namespace Go.Proofs.YtpliokkmiijieaaDoor
open Go.RowKit
set_option linter.unusedVariables false
set_option maxRecDepth 4000

/-- The document's table in the world. -/
def RTab (lo : Nat) (w : World) (p : Value) (ts : List Ten) : Prop :=
  ∃ g A n c, p = .pointer (some ⟨g, 0, none⟩) ∧ lo ≤ g ∧ w.cell? ⟨g, 0, none⟩ = some (.slice A n c) ∧ TsIn lo w A n ts
theorem RTab.keeps {lo : Nat} {w w' : World} {p : Value} {ts : List Ten} (h : RTab lo w p ts) (hk : Keeps lo w w') : RTab lo w' p ts := by
  obtain ⟨g, A, n, c, hp, hg, hc, hT⟩ := h
  exact ⟨g, A, n, c, hp, hg, hk.cell hc hg, hT.keeps hk⟩
theorem RTab.below {lo : Nat} {w w' : World} {p : Value} {ts : List Ten} (h : RTab lo w p ts) (hb : Below w.heap.size w w') : RTab lo w' p ts := h.keeps (Keeps.of_below hb)

/-- A tenant's cells whose two lists were written anew. -/
theorem ten_copy {U w1 w2 : World} {g : Nat} {t : Ten} {ka : Option Addr} {kn kc : Nat} {ga : Option Addr} {gn gc : Nat} {a1 : Option Addr} {d1 : Nat} {a2 : Option Addr} {d2 : Nat}
    (u : Blk U g (tenL t ka kn kc ga gn gc) 49) (ow1 : w1.ownsRow U.heap.size 5 1 (.slice a1 kn d1) kn (u8s t.key)) (bl1 : Below U.heap.size U w1)
    (ow2 : w2.ownsRow w1.heap.size 23 1 (.slice a2 gn d2) gn (u32s t.gone)) (bl2 : Below w1.heap.size w1 w2) (hf : t.Fits) (fk : ∀ z ∈ t.key, Fits8 z) (fg : ∀ z ∈ t.gone, Fits32 z) (lk : kn ≤ 1000) (lg : gn ≤ 1000) :
    Blk ((w2.setCell ⟨g, 1, none⟩ (.slice a1 kn d1)).setCell ⟨g, 4, none⟩ (.slice a2 gn d2)) g (tenL t a1 kn d1 a2 gn d2) 49 ∧
    TenIn U.heap.size ((w2.setCell ⟨g, 1, none⟩ (.slice a1 kn d1)).setCell ⟨g, 4, none⟩ (.slice a2 gn d2)) (tenL t a1 kn d1 a2 gn d2) t ∧
    Below g U ((w2.setCell ⟨g, 1, none⟩ (.slice a1 kn d1)).setCell ⟨g, 4, none⟩ (.slice a2 gn d2)) ∧
    (∀ b, b ≠ g → b < U.heap.size → ((w2.setCell ⟨g, 1, none⟩ (.slice a1 kn d1)).setCell ⟨g, 4, none⟩ (.slice a2 gn d2)).heap[b]? = U.heap[b]?) ∧ U.heap.size ≤ ((w2.setCell ⟨g, 1, none⟩ (.slice a1 kn d1)).setCell ⟨g, 4, none⟩ (.slice a2 gn d2)).heap.size := by
  have hg := u.lt
  have h1 := bl1.size
  have h2 := bl2.size
  have bb : Below U.heap.size U w2 := bl1.trans (bl2.mono h1)
  have oth : ∀ b, b ≠ g → ((w2.setCell ⟨g, 1, none⟩ (.slice a1 kn d1)).setCell ⟨g, 4, none⟩ (.slice a2 gn d2)).heap[b]? = w2.heap[b]? := fun b hb => by
    rw [Below.heap_setCell _ _ _ b (by show b ≠ g; exact hb), Below.heap_setCell _ _ _ b (by show b ≠ g; exact hb)]
  have kp : Keeps U.heap.size w2 ((w2.setCell ⟨g, 1, none⟩ (.slice a1 kn d1)).setCell ⟨g, 4, none⟩ (.slice a2 gn d2)) := fun b hb _ => oth b (fun e => by rw [e] at hb; omega)
  have bx : Below g U ((w2.setCell ⟨g, 1, none⟩ (.slice a1 kn d1)).setCell ⟨g, 4, none⟩ (.slice a2 gn d2)) := by
    have b0 : Below g U w2 := bb.mono (Nat.le_of_lt hg)
    exact (b0.setCell (Nat.le_refl g) _).setCell (Nat.le_refl g) _
  refine ⟨?_, ⟨a1, kn, d1, a2, gn, d2, rfl, ⟨?_, own_cap1 ow1, own_nil ow1, own_lo ow1⟩, ⟨?_, (own_unil ow2).2, (own_unil ow2).1, (own_lo ow2).mono h1⟩, hf⟩, bx, fun b hb hlt => ?_, ?_⟩
  · exact ((u.below bb hg).set 1 (.slice a1 kn d1)).set 4 (.slice a2 gn d2)
  · exact ((own_bin ow1 (by unfold maxLen; omega) fk).below bl2).keeps (own_lo ow1) kp
  · exact (own_uin ow2 (by unfold maxLen; omega) fg).keeps ((own_lo ow2).mono h1) kp
  · rw [oth b hb, bb.block b hlt]
  · have := bb.size
    simp [World.setCell]
    omega

set_option maxHeartbeats 2000000 in
theorem refTenant_of (lo : Nat) (p : Value) (ts : List Ten) (id : Int) (w : World) (h : RTab lo w p ts) (hid : Fits32 id) (hs : ∀ t ∈ ts, Small t) (hl : ts.length ≤ 1000) :
    Calls Tryd.prog 21 #[p, .int .u32 id] w fun e w' => ∃ L', e = .returned (.tuple #[.agg L'.toArray, .bool (findT ts id).isSome]) ∧ TenIn w.heap.size w' L' ((findT ts id).getD ten0) ∧ Below w.heap.size w w' := by
  obtain ⟨q, hq⟩ : ∃ q, q = w.heap.size := ⟨_, rfl⟩
  obtain ⟨g, A, n, c, hp, h1, h2, h3⟩ := h
  subst hp
  have hn : n ≤ 1000 := by rw [← h3.1]; exact hl
  obtain ⟨B, hB⟩ : ∃ B, B = findT ts id := ⟨_, rfl⟩
  rw [← hB]
  have H : Hid (q = w.heap.size ∧ B = findT ts id ∧ w.cell? ⟨g, 0, none⟩ = some (.slice A n c) ∧ TsIn lo w A n ts) := ⟨hq, hB, h2, h3⟩
  rw [← hq]
  clear h1 h2 h3 hB hl
  go_enter Tryd.func21, Tryd.ntmps21
  go_upto_region 1 with fail
  rw [← hq]
  generalize hV : World.alloc w _ = V
  have HV : Hid (Blk V q ten0L 49 ∧ Below q w V ∧ V.heap.size = q + 1 ∧ TsIn lo V A n ts) := by
    have bw : Below w.heap.size w V := by rw [← hV]; exact (Below.refl _ _).alloc (Nat.le_refl _) _
    exact ⟨by rw [← hV]; exact Blk.new' hq.symm rfl, by rw [hq]; exact bw, by rw [← hV]; simp [hq], H.out.2.2.2.below bw⟩
  have hc : V.cell? ⟨g, 0, none⟩ = some (.slice A n c) := by
    have := H.out.2.2.1
    rw [← hV]
    exact cell_keep this ((Below.refl _ _).alloc (Nat.le_refl _) _) (old_block this)
  clear hV hq
  go_wp2
  go_loopw [6] (fun i wr => ∃ k : Nat, k ≤ n ∧ i = .int .i64 k ∧ findT (ts.take k) id = none ∧ wr = V) (fun i _ => n - (intOf i).toNat)
  case atStart => exact ⟨0, by omega, rfl, rfl, rfl⟩
  case round =>
    obtain ⟨k, hk, rfl, hno, rfl⟩ := hrel
    have HK : Hid (findT (ts.take k) id = none) := hno
    clear hno
    by_cases hlt : k < n
    · have hlt' : (k : Int) < n := by omega
      obtain ⟨b, off, ha, hlo, hrow⟩ := HV.out.2.2.2.2.resolve_left (by omega)
      subst ha
      obtain ⟨t, ht⟩ : ∃ t, ts[k]? = some t := ⟨_, List.getElem?_eq_getElem (by rw [HV.out.2.2.2.1]; exact hlt)⟩
      obtain ⟨L, hT, hR⟩ := hrow k t ht
      obtain ⟨ka, kn, kc, ga, gn, gc, hL, ⟨k1, k2, k3, k4⟩, ⟨g1, g2, g3, g4⟩, hf⟩ := hT
      subst hL
      have c0 : wr.cell? ⟨b, off + k * 5, none⟩ = some (.int .u32 t.id) := hR 0 _ rfl
      have HT : Hid (ts[k]? = some t ∧ BIn wr ka kn t.key ∧ (ka = none → kn = 0 ∧ kc = 0) ∧ UIn wr ga gn t.gone ∧ (ga = none → gn = 0 ∧ gc = 0) ∧ t.Fits ∧ kn ≤ 1000 ∧ gn ≤ 1000 ∧ findT ts id = if t.id = id then some t else findT ts id) := by
        have hsm := hs t (List.mem_of_getElem? ht)
        refine ⟨ht, k1, k3, g1, g3, hf, by rw [← k1.1]; exact hsm.1, by rw [← g1.1]; exact hsm.2, ?_⟩
        by_cases he : t.id = id
        · rw [if_pos he]
          have e : ts = ts.take k ++ t :: ts.drop (k + 1) := by
            obtain ⟨hkl, hkt⟩ := List.getElem?_eq_some_iff.1 ht
            rw [← hkt, ← List.drop_eq_getElem_cons hkl, List.take_append_drop]
          have hno := HK.out
          unfold findT at hno ⊢
          rw [e, List.find?_append, hno]
          simp [he]
        · rw [if_neg he]
      clear hrow ht k1 k2 k3 k4 g1 g2 g3 g4 hf
      by_cases he : t.id = id
      · have hkn := HT.out.2.2.2.2.2.2.1
        have hgn := HT.out.2.2.2.2.2.2.2.1
        have hB : B = some t := by rw [H.out.2.1, HT.out.2.2.2.2.2.2.2.2, if_pos he]
        subst hB
        go_upto_region 6 with (first
          | (refine wpList_load_mid rfl 49 (.tmp 34) rfl b (off + k * 5) rfl _ _ hR Tryd.underlying49 rfl Tryd.info_tenant ?_)
          | (refine wpList_store_mid rfl 49 (.tmp 7) (.tmp 35) rfl wr.heap.size 0 (tenL t ka kn kc ga gn gc).toArray rfl rfl ?hT (ten_size _ _ _ _ _ _ _) (ten_all _ _ _ _ _ _ _) ?_; (case hT => exact ten_there _)))
        generalize hU : World.setCells _ _ _ _ = U
        obtain ⟨g7, hg7⟩ : ∃ g7, g7 = wr.heap.size := ⟨_, rfl⟩
        rw [← hg7]
        have u0 : Blk U g7 (tenL t ka kn kc ga gn gc) 49 := by rw [← hU, hg7]; exact (Blk.new' (L := ten0L) rfl rfl).setAll (by rfl)
        have HU : Hid (Below q w U ∧ Blk U q ten0L 49 ∧ BIn U ka kn t.key ∧ UIn U ga gn t.gone ∧ g7 = q + 1 ∧ q + 2 ≤ U.heap.size) := by
          have u1 : Below wr.heap.size wr U := by rw [← hU]; exact below_setCells (Nat.le_refl _) _ _ _ ((Below.refl _ _).alloc (Nat.le_refl _) _)
          have h1 := HV.out.2.2.1
          exact ⟨HV.out.2.1.trans (u1.mono (by omega)), HV.out.1.below u1 (by omega), HT.out.2.1.below u1, HT.out.2.2.2.1.keeps (Lo.zero _) (Keeps.of_below u1), by omega, by have := u0.lt; omega⟩
        clear hU hg7 hR c0 hc
        have y1 : U.cell? ⟨g7, 1, none⟩ = some (.slice ka kn kc) := u0.cell 1
        go_upto_region 9 with (at_builtin; refine wpList_append_bin rfl (.tmp 36) (.tmp 38) rfl U.heap.size none 0 0 [] rfl (World.ownsRow_nil _ _ _ _) ka kn kc t.key rfl HU.out.2.2.1 HT.out.2.2.1 (by omega) (Nat.le_refl _) ?_; intro a1 d1 w1 ow1 bl1; simp only [Nat.zero_add, List.nil_append] at ow1 ⊢)
        have y4 : w1.cell? ⟨g7, 4, none⟩ = some (.slice ga gn gc) := (u0.below bl1 u0.lt).cell 4
        have HW : Hid (UIn w1 ga gn t.gone) := HU.out.2.2.2.1.keeps (Lo.zero _) (Keeps.of_below bl1)
        clear y1
        go_upto_region 10 with (at_builtin; refine wpList_append_uin rfl (.tmp 40) (.tmp 42) rfl w1.heap.size none 0 0 [] rfl (World.ownsRow_nil _ _ _ _) ga gn gc t.gone rfl HW.out HT.out.2.2.2.2.1 (by omega) (Nat.le_refl _) ?_; intro a2 d2 w2 ow2 bl2; simp only [Nat.zero_add, List.nil_append] at ow2 ⊢)
        have v0 : Blk w2 g7 (tenL t ka kn kc ga gn gc) 49 := (u0.below bl1 u0.lt).below bl2 (by have := u0.lt; have := bl1.size; omega)
        have e1 : w2.cell? ⟨g7, 1, none⟩ = some (.slice ka kn kc) := v0.cell 1
        have z1 := v0.frozen 1
        clear y4
        go_upto_region 11 with fail
        have v1 := v0.set 1 (.slice a1 kn d1)
        have e4 : (w2.setCell ⟨g7, 1, none⟩ (.slice a1 kn d1)).cell? ⟨g7, 4, none⟩ = some (.slice ga gn gc) := v1.cell 4
        have z4 := v1.frozen 4
        clear e1 z1
        go_upto_region 12 with fail
        obtain ⟨x0, x1, x2, x3, x4⟩ := ten_copy u0 ow1 bl1 ow2 bl2 HT.out.2.2.2.2.2.1 HT.out.2.1.2.2.1 HT.out.2.2.2.1.2.2.1 hkn hgn
        generalize hX : World.setCell (World.setCell w2 _ _) _ _ = X at x0 x1 x2 x3 x4 ⊢
        have HX : Hid (Blk X q ten0L 49 ∧ Below q w X ∧ TenIn U.heap.size X (tenL t a1 kn d1 a2 gn d2) t) := by
          have h7 := HU.out.2.2.2.2.1
          refine ⟨?_, HU.out.1.trans (x2.mono (by omega)), x1⟩
          have := HU.out.2.1
          unfold Blk at this ⊢
          rw [x3 q (by omega) (by have := HU.out.2.2.2.2.2; omega)]
          exact this
        have r2 := HX.out.1
        clear hX x1 x2 x3 x4 v0 v1 e4 z4 ow1 ow2 bl1 bl2 HW
        go_wp2_with (first
          | (refine wpList_load_mid rfl 49 (.tmp 7) rfl g7 0 rfl _ _ x0.whole Tryd.underlying49 rfl Tryd.info_tenant ?_)
          | (refine wpList_store_mid rfl 49 (.tmp 4) (.tmp 48) rfl q 0 (tenL t a1 kn d1 a2 gn d2).toArray rfl rfl ?hT (ten_size _ _ _ _ _ _ _) (ten_all _ _ _ _ _ _ _) ?_; (case hT => exact r2.there 0 5 (by decide))))
        have b3 := r2.setAll (vs := tenL t a1 kn d1 a2 gn d2) (by rfl)
        refine bodyPost_ret (v := .tuple #[.agg (tenL t a1 kn d1 a2 gn d2).toArray, .bool true]) (results_cell_two (p := 4) (u := 5) (ty := 49) rfl _ _ q _ _ _ rfl b3 Tryd.underlying49 rfl Tryd.info_tenant _ rfl) rfl ⟨_, rfl, ?_, ?_⟩
        · refine (HX.out.2.2.keeps (fun x hx hlt => World.heap_setCells_other X q 0 _ hlt ?_)).lower (by have := HU.out.2.2.2.2.2; omega)
          have := HU.out.2.2.2.2.2
          omega
        · exact below_setCells (Nat.le_refl _) _ _ _ HX.out.2.1
      · have hne : (t.id == id) = false := by simpa using he
        go_wp2
        go_roundw
        case rel =>
          refine ⟨k + 1, by omega, by go_num, ?_, trivial⟩
          rw [take_next HT.out.1]
          have hno := HK.out
          unfold findT at hno ⊢
          rw [List.find?_append, hno]
          simp [he]
        case measure => simp [intOf]; omega
    · have hge : (n : Int) ≤ k := by omega
      have hB : B = none := by
        rw [H.out.2.1]
        have := HK.out
        rwa [List.take_of_length_le (by rw [HV.out.2.2.2.1]; omega)] at this
      subst hB
      have r2 := HV.out.1
      go_wp2_with (refine wpList_store_mid rfl 49 (.tmp 4) (.tmp 49) rfl q 0 (tenL ten0 none 0 0 none 0 0).toArray rfl rfl ?hT (ten_size ten0 none 0 0 none 0 0) (ten_all ten0 none 0 0 none 0 0) ?_; (case hT => exact r2.there 0 5 (by decide)))
      have b3 := r2.setAll (vs := tenL ten0 none 0 0 none 0 0) (by rfl)
      refine bodyPost_ret (v := .tuple #[.agg (tenL ten0 none 0 0 none 0 0).toArray, .bool false]) (results_cell_two (p := 4) (u := 5) (ty := 49) rfl _ _ q _ _ _ rfl b3 Tryd.underlying49 rfl Tryd.info_tenant _ rfl) rfl ⟨_, rfl, ten0_in _ _, ?_⟩
      exact below_setCells (Nat.le_refl _) _ _ _ HV.out.2.1
end Go.Proofs.YtpliokkmiijieaaDoor
namespace Go.Proofs.YtpliokkmiijieaaDoor
open Go.RowKit
set_option linter.unusedVariables false
set_option maxRecDepth 4000

set_option maxHeartbeats 4000000 in
theorem refCheck_of (lo : Nat) (p : Value) (ts : List Ten) (s : ByteArray) (cs : List Int) (n : Nat) (w : World) (h : RTab lo w p ts) (hs : s = strOfNums cs) (hf : ∀ z ∈ cs, Fits8 z) (hl : cs.length = n) (hn : n ≤ 100000) (hsm : ∀ t ∈ ts, Small t) (hlt : ts.length ≤ 1000) :
    Calls Tryd.prog 19 #[p, .string s] w fun e w' => e = .returned (.tuple #[tokV (checkI ts cs).1, .int .i64 (checkI ts cs).2]) ∧ Below w.heap.size w w' := by
  obtain ⟨q, hq⟩ : ∃ q, q = w.heap.size := ⟨_, rfl⟩
  obtain ⟨R, hR⟩ : ∃ R, R = checkI ts cs := ⟨_, rfl⟩
  rw [← hR]
  have H : Hid (q = w.heap.size ∧ RTab lo w p ts ∧ s = strOfNums cs ∧ (∀ z ∈ cs, Fits8 z) ∧ (∀ t ∈ ts, Small t) ∧ ts.length ≤ 1000 ∧ R = checkI ts cs) := ⟨hq, h, hs, hf, hsm, hlt, hR⟩
  rw [← hq]
  have LK := fun w => refLook_of s cs n w hs hf hl hn
  obtain ⟨K, hK⟩ : ∃ K, K = lookI cs := ⟨_, rfl⟩
  obtain ⟨E, hE⟩ : ∃ E, E = lookE cs := ⟨_, rfl⟩
  rw [← hK, ← hE] at LK
  have HK : Hid (K = lookI cs ∧ E = lookE cs) := ⟨hK, hE⟩
  clear h hs hf hl hn hsm hlt hR hK hE
  go_enter Tryd.func19, Tryd.ntmps19
  go_upto_region 1 with fail
  rw [← hq]
  generalize hV : World.alloc w _ = V
  have HV : Hid (Blk V q (tokL tok0) 26 ∧ Below q w V ∧ V.heap.size = q + 1 ∧ RTab lo V p ts) := by
    have bw : Below w.heap.size w V := by rw [← hV]; exact (Below.refl _ _).alloc (Nat.le_refl _) _
    exact ⟨by rw [← hV]; exact Blk.new' (L := tokL tok0) hq.symm rfl, by rw [hq]; exact bw, by rw [← hV]; simp [hq], H.out.2.1.below bw⟩
  clear hV hq
  go_upto_region 2 with (first
    | (go_at_call 13; refine (LK V).mono ?_; rintro e w1 ⟨rfl, b1⟩)
    | (refine wpList_store_mid rfl 26 (.tmp 6) (.tmp 14) rfl w1.heap.size 0 (tokL K).toArray rfl rfl ?hT (tok_size _) (tok_all _) ?_; (case hT => exact tok_there _)))
  generalize hU : World.setCells _ _ _ _ = U
  obtain ⟨g6, hg6⟩ : ∃ g6, g6 = w1.heap.size := ⟨_, rfl⟩
  rw [← hg6]
  have HU : Hid (Blk U q (tokL tok0) 26 ∧ Below q w U ∧ RTab lo U p ts ∧ Blk U g6 (tokL K) 26 ∧ q < g6) := by
    have h1 := b1.size
    have h2 := HV.out.2.2.1
    have bu : Below w1.heap.size w1 U := by rw [← hU]; exact below_setCells (Nat.le_refl _) _ _ _ ((Below.refl _ _).alloc (Nat.le_refl _) _)
    have bb : Below V.heap.size V U := b1.trans (bu.mono h1)
    exact ⟨HV.out.1.below bb HV.out.1.lt, HV.out.2.1.trans (bb.mono (by omega)), HV.out.2.2.2.below bb, by rw [← hU, hg6]; exact (Blk.new' (L := tokL tok0) rfl rfl).setAll (by rfl), by omega⟩
  clear hU hg6 b1 LK HV
  by_cases hg : Good cs
  · have hE : E = 0 := by rw [HK.out.2]; unfold lookE; rw [if_pos hg]
    subst hE
    have hKe : K = tokI (lookB cs) := by rw [HK.out.1]; unfold lookI; rw [if_pos hg]
    have hgb := good_body hg
    obtain ⟨O, hO⟩ : ∃ O, O = findT ts K.tenant := ⟨_, rfl⟩
    have HG : Hid (Good cs ∧ K = tokI (lookB cs) ∧ K.Fits ∧ O = findT ts K.tenant ∧ R = checkT O cs) := by
      refine ⟨hg, hKe, by rw [hKe]; exact tokI_fits hgb.1 hgb.2.2.1, hO, ?_⟩
      rw [H.out.2.2.2.2.2.2]
      unfold checkI
      rw [if_pos hg, hO, HK.out.1]
    have RT := refTenant_of lo p ts K.tenant U HU.out.2.2.1 HG.out.2.2.1.1 H.out.2.2.2.2.1 H.out.2.2.2.2.2.1
    rw [← hO] at RT
    obtain ⟨B, hB⟩ : ∃ B, B = O.isSome := ⟨_, rfl⟩
    obtain ⟨t, ht⟩ : ∃ t, t = O.getD ten0 := ⟨_, rfl⟩
    rw [← hB, ← ht] at RT
    have HO : Hid (B = O.isSome ∧ t = O.getD ten0 ∧ Small t) := ⟨hB, ht, by rw [ht, hO]; exact small_find H.out.2.2.2.2.1 _⟩
    have k0 : U.cell? ⟨g6, 0, none⟩ = some (.int .u32 K.tenant) := HU.out.2.2.2.1.cell 0
    clear hg hKe hgb hO hB ht
    go_upto_region 5 with (first
      | (go_at_call 21; refine RT.mono ?_; rintro e w2 ⟨L2, rfl, hT2, b2⟩; obtain ⟨ka, kn, kc, ga, gn, gc, hL2, _⟩ := _root_.id hT2; subst hL2)
      | (refine wpList_store_mid rfl 49 (.tmp 8) (.tmp 25) rfl w2.heap.size 0 (tenL t ka kn kc ga gn gc).toArray rfl rfl ?hT (ten_size _ _ _ _ _ _ _) (ten_all _ _ _ _ _ _ _) ?_; (case hT => exact ten_there _)))
    generalize hX : World.setCells _ _ _ _ = X
    obtain ⟨g8, hg8⟩ : ∃ g8, g8 = w2.heap.size := ⟨_, rfl⟩
    rw [← hg8]
    have HX : Hid (Blk X q (tokL tok0) 26 ∧ Below q w X ∧ Blk X g6 (tokL K) 26 ∧ Blk X g8 (tenL t ka kn kc ga gn gc) 49 ∧ TenIn U.heap.size X (tenL t ka kn kc ga gn gc) t ∧ q ≤ X.heap.size) := by
      have h1 := b2.size
      have bu : Below w2.heap.size w2 X := by rw [← hX]; exact below_setCells (Nat.le_refl _) _ _ _ ((Below.refl _ _).alloc (Nat.le_refl _) _)
      have bb : Below U.heap.size U X := b2.trans (bu.mono h1)
      have h2 := HU.out.2.1.size
      have h3 := HU.out.1.lt
      exact ⟨HU.out.1.below bb HU.out.1.lt, HU.out.2.1.trans (bb.mono (by omega)), HU.out.2.2.2.1.below bb HU.out.2.2.2.1.lt, by rw [← hX, hg8]; exact (Blk.new' (L := ten0L) rfl rfl).setAll (by rfl), hT2.below bu, by have := bb.size; omega⟩
    clear hX hg8 b2 hT2 RT HU k0
    cases O with
    | none =>
      have hB : B = false := HO.out.1
      subst hB
      have HQ : Hid (R = (tok0, 51)) := HG.out.2.2.2.2
      go_wp2_with (refine wpList_store_mid rfl 26 (.tmp 4) (.tmp 29) rfl q 0 (tokL tok0).toArray rfl rfl ?hT (tok_size _) (tok_all _) ?_; (case hT => exact HX.out.1.there 0 4 (by decide)))
      have b3 := HX.out.1.setAll (vs := tokL tok0) (by rfl)
      refine bodyPost_ret (v := .tuple #[.agg (tokL tok0).toArray, .int .i64 51]) (results_cell_two (p := 4) (u := 5) (ty := 26) rfl _ _ q _ _ _ rfl b3 Tryd.underlying26 rfl Tryd.info_token _ rfl) rfl ⟨?_, ?_⟩
      · rw [HQ.out]; rfl
      · exact below_setCells (Nat.le_refl _) _ _ _ HX.out.2.1
    | some t' =>
      have hB : B = true := HO.out.1
      subst hB
      obtain rfl : t = t' := HO.out.2.1
      have hpt := ten_parts HX.out.2.2.2.2.1
      have hkn : kn ≤ 1000 := by rw [← hpt.1.1.1]; exact HO.out.2.2.1
      have hgn : gn ≤ 1000 := by rw [← hpt.2.1.1.1]; exact HO.out.2.2.2
      have IS := refIssue_of ka kn kc t.key K X hpt.1.1 (by omega) hpt.1.2.2.1 HG.out.2.2.1
      have k6 := HX.out.2.2.1
      have e1 : X.cell? ⟨g8, 1, none⟩ = some (.slice ka kn kc) := HX.out.2.2.2.1.cell 1
      clear hpt
      by_cases hD : ofI t.key (lookB cs) = lookG cs
      · have hsame : strOfNums (issueI t.key K) = s := by rw [H.out.2.2.1, HG.out.2.1, (issue_iff HG.out.1 t.key).2 hD]
        rw [hsame] at IS
        have HC : Hid (R = if refE t K = 0 then (K, 0) else (tok0, refE t K)) := by
          have := check_is t cs
          rw [if_neg (fun h => h hD), ← HK.out.1] at this
          exact HG.out.2.2.2.2.trans this
        clear hD hsame
        go_upto_region 9 with (first
          | (refine wpList_load_mid rfl 26 (.tmp 6) rfl g6 0 rfl _ _ k6.whole Tryd.underlying26 rfl Tryd.info_token ?_)
          | (go_at_call 11; refine IS.mono ?_; rintro e Y ⟨rfl, bY⟩))
        have HY : Hid (Blk Y q (tokL tok0) 26 ∧ Below q w Y ∧ UIn Y ga gn t.gone) :=
          ⟨HX.out.1.below bY HX.out.1.lt, HX.out.2.1.trans (bY.mono HX.out.2.2.2.2.2), (ten_parts HX.out.2.2.2.2.1).2.1.1.keeps (Lo.zero _) (Keeps.of_below bY)⟩
        replace k6 := k6.below bY k6.lt
        have k8 := HX.out.2.2.2.1.below bY HX.out.2.2.2.1.lt
        have y1 : Y.cell? ⟨g6, 1, none⟩ = some (.int .u32 K.serial) := k6.cell 1
        have y3 : Y.cell? ⟨g6, 3, none⟩ = some (.int .u64 K.size) := k6.cell 3
        have y4 : Y.cell? ⟨g8, 4, none⟩ = some (.slice ga gn gc) := k8.cell 4
        have y5 : Y.cell? ⟨g8, 3, none⟩ = some (.int .u64 t.size) := k8.cell 3
        have HF : Hid (Blk Y g6 (tokL K) 26 ∧ (0 ≤ t.size ∧ t.size < 18446744073709551616) ∧ 0 ≤ K.size ∧ K.size < 18446744073709551616) := ⟨k6, (ten_parts HX.out.2.2.2.2.1).2.2.2.2, HG.out.2.2.1.2.2⟩
        clear bY IS HX e1 k8 k6
        go_wp2
        go_loopw [10] (fun i wr => ∃ (k d : Nat), k ≤ gn ∧ i = .int .i64 k ∧ ¬ K.serial ∈ t.gone.take k ∧ wr = Y.drewN d) (fun i _ => gn - (intOf i).toNat)
        case atStart => exact ⟨0, 0, by omega, rfl, by simp, rfl⟩
        case round =>
          obtain ⟨k, d, hk, rfl, hno, rfl⟩ := hrel
          have HN0 : Hid (¬ K.serial ∈ t.gone.take k) := hno
          clear hno
          by_cases hlt : k < gn
          · have hlt' : (k : Int) < gn := by omega
            obtain ⟨b, off, ha, hcell⟩ := HY.out.2.2.2.2.2.resolve_left (by omega)
            subst ha
            have hc := hcell k hlt
            obtain ⟨x, ex⟩ : ∃ x, x = t.gone.getD k 0 := ⟨_, rfl⟩
            rw [← ex] at hc
            have HN : Hid (K.serial ∈ t.gone.take (k + 1) ↔ K.serial ∈ t.gone.take k ∨ x = K.serial) := by
              have hl : k < t.gone.length := by rw [HY.out.2.2.1]; exact hlt
              show _ ↔ _
              rw [List.take_succ_eq_append_getElem hl, List.mem_append, List.mem_singleton, ex]
              simp only [List.getD, List.getElem?_eq_getElem hl, Option.getD_some]
              constructor
              · rintro (h | h)
                · exact .inl h
                · exact .inr h.symm
              · rintro (h | h)
                · exact .inl h
                · exact .inr h.symm
            clear hcell ex
            by_cases he : x = K.serial
            · have HQ : Hid (R = (tok0, 53)) := by
                have hin : K.serial ∈ t.gone := List.mem_of_mem_take (HN.out.2 (.inr he))
                have : refE t K = 53 := by unfold refE; rw [if_pos hin]
                show R = _
                rw [HC.out, this, if_neg (by decide)]
              subst he
              go_wp2
              go_quiet (fail)
              go_wp2_with (refine wpList_store_mid rfl 26 (.tmp 4) (.tmp 52) rfl q 0 (tokL tok0).toArray rfl rfl ?hT (tok_size _) (tok_all _) ?_; (case hT => exact (HY.out.1.drewN _).there 0 4 (by decide)))
              refine bodyPost_ret (v := .tuple #[.agg (tokL tok0).toArray, .int .i64 53]) (results_cell_two (p := 4) (u := 5) (ty := 26) rfl _ _ q _ _ _ rfl (Blk.setAll (vs := tokL tok0) (HY.out.1.drewN _) (by rfl)) Tryd.underlying26 rfl Tryd.info_token _ rfl) rfl ⟨?_, ?_⟩
              · rw [HQ.out]; rfl
              · exact below_setCells (Nat.le_refl _) _ _ _ (below_drewN HY.out.2.1 _)
            · have hb : (x == K.serial) = false := by simpa using he
              have HE : Hid (¬ x = K.serial) := he
              clear he
              go_wp2
              go_quiet (fail)
              go_wp2
              go_roundw
              case rel => exact ⟨k + 1, _, by omega, by go_num, fun h => (HN.out.1 h).elim HN0.out HE.out, rfl⟩
              case measure => simp [intOf]; omega
          · have hge : (gn : Int) ≤ k := by omega
            have hnot : ¬ K.serial ∈ t.gone := by
              have := HN0.out
              rwa [List.take_of_length_le (by rw [HY.out.2.2.1]; omega)] at this
            have hE : refE t K = if K.size = 0 ∨ t.size < K.size then 54 else 0 := by unfold refE; rw [if_neg hnot]
            have hC := HC.out
            rw [hE] at hC
            obtain ⟨S, hS⟩ : ∃ S, S = t.size := ⟨_, rfl⟩
            obtain ⟨Z, hZ⟩ : ∃ Z, Z = K.size := ⟨_, rfl⟩
            have hr := HF.out.2
            rw [← hS, ← hZ] at hr
            obtain ⟨⟨s0, s1⟩, z0, z1⟩ := hr
            rw [← hS] at hC y5
            rw [← hZ] at hC y3
            have k6 := HF.out.1
            clear hS hZ hE hnot
            by_cases h0 : Z = 0
            · subst h0
              rw [if_pos (Or.inl rfl), if_neg (by decide)] at hC
              have HQ : Hid (R = (tok0, 54)) := hC
              clear hC k6
              go_wp2_with (refine wpList_store_mid rfl 26 (.tmp 4) (.tmp 63) rfl q 0 (tokL tok0).toArray rfl rfl ?hT (tok_size _) (tok_all _) ?_; (case hT => exact (HY.out.1.drewN _).there 0 4 (by decide)))
              refine bodyPost_ret (v := .tuple #[.agg (tokL tok0).toArray, .int .i64 54]) (results_cell_two (p := 4) (u := 5) (ty := 26) rfl _ _ q _ _ _ rfl (Blk.setAll (vs := tokL tok0) (HY.out.1.drewN _) (by rfl)) Tryd.underlying26 rfl Tryd.info_token _ rfl) rfl ⟨?_, ?_⟩
              · rw [HQ.out]; rfl
              · exact below_setCells (Nat.le_refl _) _ _ _ (below_drewN HY.out.2.1 _)
            · have hb : (Z == 0) = false := by simpa using h0
              by_cases h1 : S < Z
              · rw [if_pos (Or.inr h1), if_neg (by decide)] at hC
                have HQ : Hid (R = (tok0, 54)) := hC
                clear hC k6
                go_wp2_with (refine wpList_store_mid rfl 26 (.tmp 4) (.tmp 63) rfl q 0 (tokL tok0).toArray rfl rfl ?hT (tok_size _) (tok_all _) ?_; (case hT => exact (HY.out.1.drewN _).there 0 4 (by decide)))
                refine bodyPost_ret (v := .tuple #[.agg (tokL tok0).toArray, .int .i64 54]) (results_cell_two (p := 4) (u := 5) (ty := 26) rfl _ _ q _ _ _ rfl (Blk.setAll (vs := tokL tok0) (HY.out.1.drewN _) (by rfl)) Tryd.underlying26 rfl Tryd.info_token _ rfl) rfl ⟨?_, ?_⟩
                · rw [HQ.out]; rfl
                · exact below_setCells (Nat.le_refl _) _ _ _ (below_drewN HY.out.2.1 _)
              · have hz : ¬ (Z = 0 ∨ S < Z) := by omega
                rw [if_neg hz, if_pos rfl] at hC
                have HQ : Hid (R = (K, 0)) := hC
                have hb2 : decide (S < Z) = false := by simpa using h1
                clear hC
                go_wp2_with (first | (refine wpList_load_mid rfl 26 (.tmp 6) rfl g6 0 rfl _ _ (Blk.drewN k6 _).whole Tryd.underlying26 rfl Tryd.info_token ?_) | (refine wpList_store_mid rfl 26 (.tmp 4) (.tmp 64) rfl q 0 (tokL K).toArray rfl rfl ?hT (tok_size _) (tok_all _) ?_; (case hT => exact (HY.out.1.drewN _).there 0 4 (by decide))))
                refine bodyPost_ret (v := .tuple #[.agg (tokL K).toArray, .int .i64 0]) (results_cell_two (p := 4) (u := 5) (ty := 26) rfl _ _ q _ _ _ rfl (Blk.setAll (vs := tokL K) (HY.out.1.drewN _) (by rfl)) Tryd.underlying26 rfl Tryd.info_token _ rfl) rfl ⟨?_, ?_⟩
                · rw [HQ.out]; rfl
                · exact below_setCells (Nat.le_refl _) _ _ _ (below_drewN HY.out.2.1 _)
      · have hne : ((strOfNums (issueI t.key K)).toList == s.toList) = false := by
          rw [H.out.2.2.1]
          exact str_other (issueI_fits _ _) H.out.2.2.2.1 (fun e => hD ((issue_iff HG.out.1 t.key).1 (by rw [← HG.out.2.1]; exact e)))
        have HQ : Hid (R = (tok0, 52)) := by
          have := check_is t cs
          rw [if_pos hD] at this
          exact HG.out.2.2.2.2.trans this
        obtain ⟨s', hs'⟩ : ∃ s', s' = strOfNums (issueI t.key K) := ⟨_, rfl⟩
        rw [← hs'] at IS hne
        clear hD hs'
        go_upto_region 8 with (first
          | (refine wpList_load_mid rfl 26 (.tmp 6) rfl g6 0 rfl _ _ k6.whole Tryd.underlying26 rfl Tryd.info_token ?_)
          | (go_at_call 11; refine IS.mono ?_; rintro e Y ⟨rfl, bY⟩))
        have HY : Hid (Blk Y q (tokL tok0) 26 ∧ Below q w Y) := ⟨HX.out.1.below bY HX.out.1.lt, HX.out.2.1.trans (bY.mono HX.out.2.2.2.2.2)⟩
        clear bY IS HX e1 k6
        go_wp2_with (refine wpList_store_mid rfl 26 (.tmp 4) (.tmp 36) rfl q 0 (tokL tok0).toArray rfl rfl ?hT (tok_size _) (tok_all _) ?_; (case hT => exact HY.out.1.there 0 4 (by decide)))
        have b3 := HY.out.1.setAll (vs := tokL tok0) (by rfl)
        refine bodyPost_ret (v := .tuple #[.agg (tokL tok0).toArray, .int .i64 52]) (results_cell_two (p := 4) (u := 5) (ty := 26) rfl _ _ q _ _ _ rfl b3 Tryd.underlying26 rfl Tryd.info_token _ rfl) rfl ⟨?_, ?_⟩
        · rw [HQ.out]; rfl
        · exact below_setCells (Nat.le_refl _) _ _ _ HY.out.2
  · have hE : E = 50 := by rw [HK.out.2]; unfold lookE; rw [if_neg hg]
    subst hE
    have HQ : Hid (R = (tok0, 50)) := by
      show R = _
      rw [H.out.2.2.2.2.2.2]
      unfold checkI
      rw [if_neg hg]
    clear hg
    go_wp2_with (refine wpList_store_mid rfl 26 (.tmp 4) (.tmp 18) rfl q 0 (tokL tok0).toArray rfl rfl ?hT (tok_size _) (tok_all _) ?_; (case hT => exact HU.out.1.there 0 4 (by decide)))
    have b3 := HU.out.1.setAll (vs := tokL tok0) (by rfl)
    refine bodyPost_ret (v := .tuple #[.agg (tokL tok0).toArray, .int .i64 50]) (results_cell_two (p := 4) (u := 5) (ty := 26) rfl _ _ q _ _ _ rfl b3 Tryd.underlying26 rfl Tryd.info_token _ rfl) rfl ⟨?_, ?_⟩
    · rw [HQ.out]; rfl
    · exact below_setCells (Nat.le_refl _) _ _ _ HU.out.2.1
end Go.Proofs.YtpliokkmiijieaaDoor
namespace Go.Proofs.YtpliokkmiijieaaDoor
open Go.RowKit
set_option linter.unusedVariables false
set_option maxRecDepth 4000

theorem own_ts_lo {w : World} {base lo : Nat} {a : Option Addr} {n c : Nat} {C : List Value} {ts : List Ten} (h : w.ownsRow base 49 5 (.slice a n c) n C) (hT : TsC lo w C ts) (hlo : lo ≤ base) : TsIn lo w a n ts := by
  have hn : ts.length = n := by have := h.1; rw [hT.1] at this; omega
  rcases h.2 with ⟨hv, h0⟩ | ⟨g, cap, cur, hv, hb, hg, hc, hcm, hsz, htake⟩
  · exact ⟨hn, .inl h0⟩
  · cases hv
    refine ⟨hn, .inr ⟨g, 0, rfl, by omega, fun r t ht => ⟨_, hT.2.2 r t ht, fun j v hv => ?_⟩⟩⟩
    have hj := (List.getElem?_eq_some_iff.1 hv).1
    have hj5 : j < 5 := by simp at hj; omega
    rw [List.getElem?_take_of_lt hj5, List.getElem?_drop] at hv
    have := h.cells (g := g) rfl _ v hv
    rw [Addr.add_mid] at this
    rw [show 0 + r * 5 + j = 0 + (r * 5 + j) by omega]
    exact this
/-- The lists that cells name lie in blocks of their own kind, not among tenants. -/
def Lab (lo : Nat) (w : World) (C : List Value) : Prop := ∀ v ∈ C, ∀ x n c, v = .slice (some x) n c → n = 0 ∨ ∃ cur e, lo ≤ x.block ∧ w.heap[x.block]? = some (.cells cur e (0, 0)) ∧ e ≠ 49
theorem Lab.nil (lo : Nat) (w : World) : Lab lo w [] := fun v hv => by cases hv
theorem Lab.append {lo : Nat} {w : World} {C D : List Value} (h : Lab lo w C) (k : Lab lo w D) : Lab lo w (C ++ D) := fun v hv => (List.mem_append.1 hv).elim (h v) (k v)
theorem Lab.keep {lo : Nat} {w w' : World} {C : List Value} (h : Lab lo w C) (hk : ∀ b cur e, lo ≤ b → w.heap[b]? = some (.cells cur e (0, 0)) → e ≠ 49 → w'.heap[b]? = w.heap[b]?) : Lab lo w' C := fun v hv x n c hx => by
  rcases h v hv x n c hx with h0 | ⟨cur, e, hl, h1, h2⟩
  · exact .inl h0
  · exact .inr ⟨cur, e, hl, by rw [hk _ cur e hl h1 h2]; exact h1, h2⟩
theorem Lab.lower {lo lo' : Nat} {w : World} {C : List Value} (h : Lab lo w C) (hl : lo' ≤ lo) : Lab lo' w C := fun v hv x n c hx => by
  rcases h v hv x n c hx with h0 | ⟨cur, e, h3, h1, h2⟩
  · exact .inl h0
  · exact .inr ⟨cur, e, Nat.le_trans hl h3, h1, h2⟩
theorem Lab.below {lo : Nat} {w w' : World} {C : List Value} (h : Lab lo w C) (hb : Below w.heap.size w w') : Lab lo w' C := h.keep fun b _ _ _ h1 _ => hb.block b (Array.getElem?_eq_some_iff.1 h1).1
theorem own_lab {w : World} {base : Nat} {e : TypeId} {a : Option Addr} {n c : Nat} {zs : List Value} (h : w.ownsRow base e 1 (.slice a n c) n zs) (he : e ≠ 49) : ∀ x m d, (Value.slice a n c) = .slice (some x) m d → m = 0 ∨ ∃ cur e, w.heap[x.block]? = some (.cells cur e (0, 0)) ∧ e ≠ 49 := by
  intro x m d hx
  rcases h.2 with ⟨hv, hn⟩ | ⟨g, cap, cur, hv, hb, hg, _⟩
  · rw [hv] at hx; cases hx
  · cases hx
    cases hv
    exact .inr ⟨cur, e, hg, he⟩
theorem ten_lab {U w1 w2 : World} {g : Nat} {t : Ten} {kn gn : Nat} {a1 : Option Addr} {d1 : Nat} {a2 : Option Addr} {d2 : Nat} (hg : g < U.heap.size)
    (ow1 : w1.ownsRow U.heap.size 5 1 (.slice a1 kn d1) kn (u8s t.key)) (bl1 : Below U.heap.size U w1) (ow2 : w2.ownsRow w1.heap.size 23 1 (.slice a2 gn d2) gn (u32s t.gone)) (bl2 : Below w1.heap.size w1 w2) :
    Lab U.heap.size ((w2.setCell ⟨g, 1, none⟩ (.slice a1 kn d1)).setCell ⟨g, 4, none⟩ (.slice a2 gn d2)) (tenL t a1 kn d1 a2 gn d2) := by
  have oth : ∀ b, b ≠ g → ((w2.setCell ⟨g, 1, none⟩ (.slice a1 kn d1)).setCell ⟨g, 4, none⟩ (.slice a2 gn d2)).heap[b]? = w2.heap[b]? := fun b hb => by
    rw [Below.heap_setCell _ _ _ b (by show b ≠ g; exact hb), Below.heap_setCell _ _ _ b (by show b ≠ g; exact hb)]
  have h1 := bl1.size
  intro v hv x n c hx
  subst hx
  simp only [tenL, List.mem_cons, List.not_mem_nil, or_false, reduceCtorEq, false_or] at hv
  rcases hv with hv | hv
  · have hlo := own_lo ow1 x (by cases hv; rfl)
    rcases own_lab ow1 (by decide) x n c hv.symm with h0 | ⟨cur, e, k1, k2⟩
    · exact .inl h0
    · refine .inr ⟨cur, e, hlo, ?_, k2⟩
      rw [oth _ (by omega), bl2.block _ (Array.getElem?_eq_some_iff.1 k1).1]
      exact k1
  · have hlo := own_lo ow2 x (by cases hv; rfl)
    rcases own_lab ow2 (by decide) x n c hv.symm with h0 | ⟨cur, e, k1, k2⟩
    · exact .inl h0
    · refine .inr ⟨cur, e, by omega, ?_, k2⟩
      rw [oth _ (by omega)]
      exact k1
theorem TsC.grown {lo : Nat} {w w' : World} {row : Option Nat} {C : List Value} {ts : List Ten} {lo' : Nat} (h : TsC lo w C ts) (hl : Lab lo' w C) (hg : w.grownBy w' row) (hr : ∀ g, row = some g → ∃ cur z, w.heap[g]? = some (.cells cur 49 z)) : TsC lo w' C ts ∧ Lab lo' w' C := by
  have key : ∀ (b : Nat) (cur : Array Value) (e : TypeId), w.heap[b]? = some (Obj.cells cur e (0, 0)) → e ≠ 49 → w'.heap[b]? = w.heap[b]? := fun b cur e h1 h2 => by
    refine hg.block b (Array.getElem?_eq_some_iff.1 h1).1 fun hb => ?_
    obtain ⟨cur', z, h3⟩ := hr b hb.symm
    rw [h1] at h3
    cases h3
    exact h2 rfl
  refine ⟨⟨h.1, h.2.1, fun r t ht => ?_⟩, hl.keep fun b cur e _ => key b cur e⟩
  obtain ⟨ka, kn, kc, ga, gn, gc, hL, ⟨k1, k2, k3, k4⟩, ⟨g1, g2, g3, g4⟩, hf⟩ := h.2.2 r t ht
  have hm : ∀ v ∈ tenL t ka kn kc ga gn gc, v ∈ C := fun v hv => by rw [← hL] at hv; exact List.mem_of_mem_drop (List.mem_of_mem_take hv)
  refine ⟨ka, kn, kc, ga, gn, gc, hL, ⟨⟨k1.1, k1.2.1, k1.2.2.1, ?_⟩, k2, k3, k4⟩, ⟨⟨g1.1, g1.2.1, g1.2.2.1, ?_⟩, g2, g3, g4⟩, hf⟩
  · rcases k1.2.2.2 with h0 | ⟨b, off, ha, hc⟩
    · exact .inl h0
    · subst ha
      rcases hl _ (hm (.slice (some ⟨b, off, none⟩) kn kc) (by simp [tenL])) _ _ _ rfl with h0 | ⟨cur, e, _, h1, h2⟩
      · exact .inl h0
      · exact .inr ⟨b, off, rfl, fun i hi => by rw [cell_same (key b cur e h1 h2)]; exact hc i hi⟩
  · rcases g1.2.2.2 with h0 | ⟨b, off, ha, hc⟩
    · exact .inl h0
    · subst ha
      rcases hl _ (hm (.slice (some ⟨b, off, none⟩) gn gc) (by simp [tenL])) _ _ _ rfl with h0 | ⟨cur, e, _, h1, h2⟩
      · exact .inl h0
      · exact .inr ⟨b, off, rfl, fun i hi => by rw [cell_same (key b cur e h1 h2)]; exact hc i hi⟩
theorem ownTen_row {w : World} {base : Nat} {v : Value} {n : Nat} {xs : List Value} (h : w.ownsRow base 49 5 v n xs) : ∀ g, v.ownBlock = some g → ∃ cur z, w.heap[g]? = some (.cells cur 49 z) := by
  intro g hg
  rcases h.2 with ⟨rfl, _⟩ | ⟨g', cap, cur, rfl, hb, hgg, _⟩
  · cases hg
  · cases hg; exact ⟨cur, _, hgg⟩
theorem ownTen_same {w w' : World} {base : Nat} {v : Value} {n : Nat} {xs : List Value} (h : w.ownsRow base 49 5 v n xs) (hs : ∀ g, base ≤ g → g < w.heap.size → w'.heap[g]? = w.heap[g]?) : w'.ownsRow base 49 5 v n xs := by
  refine ⟨h.1, ?_⟩
  rcases h.2 with hn | ⟨g, cp, cur, hv, hb, hgg, rest⟩
  · exact .inl hn
  · refine .inr ⟨g, cp, cur, hv, hb, ?_, rest⟩
    rw [hs g hb (Array.getElem?_eq_some_iff.1 hgg).1]
    exact hgg
/-- One more tenant behind a row of the call's own, as a step of a region that draws its order. -/
theorem step_append_tens {ops : Array Oper} {o : Oper} {a : Act} {w : World} {K : Act → World → Prop} {Q : Exit → Act → World → Prop} {E : Prop} (hg : o.guard = none) (s x : Operand)
    (hop : o.op = .call { callee := .builtin .append, args := #[s, x], argTypes := #[37, 37] }) (base : Nat)
    (a0 : Option Addr) (n0 c0 : Nat) (C : List Value) (hs : a.eval s = .slice a0 n0 c0) (hown : w.ownsRow base 49 5 (.slice a0 n0 c0) n0 C)
    (ad : Addr) (n1 c1 : Nat) (D : List Value) (hx : a.eval x = .slice (some ad) n1 c1) (hl : D.length = n1 * 5) (hin : ∀ j u, D[j]? = some u → w.cell? (ad.add j) = some u) (h1 : ∀ v ∈ D, v.oneCell' = true)
    (hle : n0 + n1 ≤ 1000) (hbase : base ≤ w.heap.size)
    (hK : ∀ a' c' w', w'.ownsRow base 49 5 (.slice a' (n0 + n1) c') (n0 + n1) (C ++ D) → w.grownBy w' (Value.slice a0 n0 c0).ownBlock → Below base w w' → K (a.put o.dst (.slice a' (n0 + n1) c')) w') :
    if Region.wanted o (yielded ops a.tmps) = true then Oper.wp Tryd.prog o a w K Q else E := by
  have hw : Region.wanted o (yielded ops a.tmps) = true := by simp [Region.wanted, hg]
  rw [if_pos hw]
  obtain ⟨i0, hi, hz0, hz1, hz2⟩ := info_parts Tryd.zero_ten
  obtain ⟨v', w', hrun, hown', hgrow, _⟩ := run_append_own (P := Tryd.prog) w base 37 o.type 49 i0 (.agg ten0L.toArray) 5 72 Tryd.underlying37 hi hz0 hz1 hz2 rfl (by decide) _ n0 C hown ad n1 c1 D hl hin h1 (by unfold maxLen; omega) (by omega) hbase
  have hb : Below base w w' := (Below.refl base w).grown hgrow hbase (fun k hk => (hown.lt k hk).1)
  obtain ⟨a', c', rfl⟩ : ∃ a' c', v' = .slice a' (n0 + n1) c' := by
    rcases hown'.2 with ⟨hv, hn⟩ | ⟨g, cap, cur, hv, _⟩
    · exact ⟨none, 0, by rw [hv, hn]⟩
    · exact ⟨_, _, hv⟩
  unfold Oper.wp
  simp [execOp, hop, resolve, invoke, builtin, hs, hx, hrun, Result.andThen]
  exact hK a' c' w' hown' hgrow hb
theorem Tryd.info_rtable : (Tryd.prog.info? 75).map (·.size) = some 1 := by kernel_rfl

set_option maxHeartbeats 4000000 in
theorem refNew_of (lo : Nat) (a : Option Addr) (len cap : Nat) (ts : List Ten) (w : World) (h : TsIn lo w a len ts) (hl : len ≤ 1000) (hb : ∀ t ∈ ts, Small t) :
    Calls Tryd.prog 17 #[.slice a len cap] w fun e w' => ∃ (P : Value) (E : Int), e = .returned (.tuple #[P, .int .i64 E]) ∧ Below w.heap.size w w' ∧ ((newE ts = 0 ∧ E = 0 ∧ RTab w.heap.size w' P ts) ∨ (newE ts ≠ 0 ∧ E = newE ts ∧ P = .pointer none)) := by
  obtain ⟨q, hq⟩ : ∃ q, q = w.heap.size := ⟨_, rfl⟩
  have H : Hid (q = w.heap.size ∧ TsIn lo w a len ts ∧ ∀ t ∈ ts, Small t) := ⟨hq, h, hb⟩
  rw [← hq]
  clear h hb
  by_cases h64 : (64 : Int) < len
  · have e3 : newE ts = 3 := by unfold newE; rw [if_pos (by rw [H.out.2.1.1]; omega)]
    clear hq
    go_enter Tryd.func17, Tryd.ntmps17
    go_wp2
    go_ret2
    exact ⟨_, _, rfl, Below.refl _ _, .inr ⟨by rw [e3]; decide, by rw [e3], rfl⟩⟩
  · have h64' : (len : Int) ≤ 64 := by omega
    have HE : Hid (newE ts = if TabOk ts then 0 else 1) := by show _ = _; unfold newE; rw [if_neg (by rw [H.out.2.1.1]; omega)]
    go_enter Tryd.func17, Tryd.ntmps17
    go_upto_region 4 with fail
    rw [← hq]
    generalize hV : World.alloc w _ = V
    have HV : Hid (Blk V q [.slice none 0 0] 75 ∧ Below q w V) := by
      rw [← hV]
      exact ⟨Blk.new' (L := [.slice none 0 0]) hq.symm rfl, (Below.refl _ _).alloc (by omega) _⟩
    clear hV hq
    go_wp2
    go_loopw [5] (fun i wr => ∃ (k : Nat) (A : Option Addr) (c : Nat) (C : List Value), k ≤ len ∧ i = .int .i64 k ∧ TabOk (ts.take k) ∧ Blk wr q [.slice A k c] 75 ∧ wr.ownsRow (q + 1) 49 5 (.slice A k c) k C ∧ TsC (q + 1) wr C (ts.take k) ∧ Below q w wr ∧ Lab (q + 1) wr C)
      (fun i _ => len - (intOf i).toNat)
    case atStart => exact ⟨0, none, 0, [], by omega, rfl, ⟨by simp, by simp⟩, HV.out.1, World.ownsRow_nil _ _ _ _, TsC.nil _ _, HV.out.2, Lab.nil _ _⟩
    case round =>
      obtain ⟨k, A, c, C, hk, rfl, hok, hblk, hown, hC, hbel, hlab⟩ := hrel
      have HL : Hid (Lab (q + 1) wr C) := hlab
      have HK : Hid (TabOk (ts.take k) ∧ Blk wr q [.slice A k c] 75 ∧ wr.ownsRow (q + 1) 49 5 (.slice A k c) k C ∧ TsC (q + 1) wr C (ts.take k) ∧ Below q w wr ∧ RTab q wr (.pointer (some ⟨q, 0, none⟩)) (ts.take k)) :=
        ⟨hok, hblk, hown, hC, hbel, q, A, k, c, rfl, Nat.le_refl _, hblk.cell 0, (own_ts_lo hown hC (Nat.le_refl _)).keeps (fun _ _ _ => rfl) |> fun h => by
          obtain ⟨x1, x2⟩ := h
          refine ⟨x1, x2.imp _root_.id ?_⟩
          rintro ⟨b, off, e1, e2, e3⟩
          exact ⟨b, off, e1, by omega, fun r t ht => by obtain ⟨L, y1, y2⟩ := e3 r t ht; exact ⟨L, y1.lower (by omega), y2⟩⟩⟩
      clear hok hblk hown hC hbel hlab
      by_cases hlt : k < len
      · have hlt' : (k : Int) < len := by omega
        obtain ⟨b, off, ha, hlo, hrow⟩ := H.out.2.1.2.resolve_left (by omega)
        subst ha
        obtain ⟨t, ht⟩ : ∃ t, ts[k]? = some t := ⟨_, List.getElem?_eq_getElem (by rw [H.out.2.1.1]; exact hlt)⟩
        obtain ⟨L, hT, hR⟩ := hrow k t ht
        have kp : Keeps lo w wr := Keeps.of_below (by rw [← H.out.1]; exact HK.out.2.2.2.2.1)
        have hT' := hT.keeps kp
        have hR' := range_keeps hR hlo kp
        obtain ⟨ka, kn, kc, ga, gn, gc, hL, ⟨k1, k2, k3, k4⟩, ⟨g1, g2, g3, g4⟩, hf⟩ := _root_.id hT'
        subst hL
        have hsm := H.out.2.2 t (List.mem_of_getElem? ht)
        have hkn : kn ≤ 1000 := by rw [← k1.1]; exact hsm.1
        have hgn : gn ≤ 1000 := by rw [← g1.1]; exact hsm.2
        have c0 : wr.cell? ⟨b, off + k * 5, none⟩ = some (.int .u32 t.id) := hR' 0 _ rfl
        have HT : Hid (ts[k]? = some t ∧ TenIn lo wr (tenL t ka kn kc ga gn gc) t ∧ t.Fits ∧ t.key.length = kn ∧ wr.rangeAt b (off + k * 5) (tenL t ka kn kc ga gn gc) ∧ lo ≤ b) := ⟨ht, hT', hf, k1.1, hR', hlo⟩
        have RT := refTenant_of q (.pointer (some ⟨q, 0, none⟩)) (ts.take k) t.id wr HK.out.2.2.2.2.2 hf.1 (fun x hx => H.out.2.2 x (List.mem_of_mem_take hx)) (by rw [List.length_take]; have := H.out.2.1.1; omega)
        obtain ⟨O, hO⟩ : ∃ O, O = findT (ts.take k) t.id := ⟨_, rfl⟩
        obtain ⟨B, hB⟩ : ∃ B, B = O.isSome := ⟨_, rfl⟩
        obtain ⟨t', ht'⟩ : ∃ t', t' = O.getD ten0 := ⟨_, rfl⟩
        rw [← hO, ← hB, ← ht'] at RT
        have HO : Hid (O = findT (ts.take k) t.id ∧ B = O.isSome) := ⟨hO, hB⟩
        clear hT hR kp hrow ht hT' hR' k1 k2 k3 k4 g1 g2 g3 g4 hf hsm hO hB ht'
        go_upto_region 8 with (first
          | (go_at_call 21; refine RT.mono ?_; rintro e w2 ⟨L2, rfl, hT2, b2⟩; obtain ⟨ka2, kn2, kc2, ga2, gn2, gc2, hL2, _⟩ := _root_.id hT2; subst hL2)
          | (refine wpList_store_mid rfl 49 (.tmp 6) (.tmp 30) rfl w2.heap.size 0 (tenL t' ka2 kn2 kc2 ga2 gn2 gc2).toArray rfl rfl ?hT (ten_size _ _ _ _ _ _ _) (ten_all _ _ _ _ _ _ _) ?_; (case hT => exact ten_there _)))
        generalize hU : World.setCells _ _ _ _ = U
        have HU : Hid (Below wr.heap.size wr U ∧ wr.heap.size ≤ U.heap.size) := by
          have h1 := b2.size
          have bu : Below w2.heap.size w2 U := by rw [← hU]; exact below_setCells (Nat.le_refl _) _ _ _ ((Below.refl _ _).alloc (Nat.le_refl _) _)
          have bb : Below wr.heap.size wr U := b2.trans (bu.mono h1)
          exact ⟨bb, bb.size⟩
        have hqw : q < wr.heap.size := HK.out.2.1.lt
        have HW : Hid (Below q w U ∧ U.rangeAt b (off + k * 5) (tenL t ka kn kc ga gn gc) ∧ TenIn lo U (tenL t ka kn kc ga gn gc) t ∧ Blk U q [.slice A k c] 75) :=
          ⟨HK.out.2.2.2.2.1.trans (HU.out.1.mono (by omega)), range_keeps HT.out.2.2.2.2.1 HT.out.2.2.2.2.2 (Keeps.of_below HU.out.1), HT.out.2.1.below HU.out.1, HK.out.2.1.below HU.out.1 hqw⟩
        have c1 : U.cell? ⟨b, off + k * 5 + 1, none⟩ = some (.slice ka kn kc) := HW.out.2.1 1 _ rfl
        clear hU b2 hT2 RT c0
        cases O with
        | some t2 =>
          have hB : B = true := HO.out.2
          subst hB
          have HB : Hid (newE ts = 1) := by show _ = _; rw [HE.out, if_neg (tab_twice HT.out.1 HO.out.1.symm)]
          go_wp2
          go_ret2
          exact ⟨_, _, rfl, HW.out.1, .inr ⟨by rw [HB.out]; decide, by rw [HB.out], rfl⟩⟩
        | none =>
          have hB : B = false := HO.out.2
          subst hB
          by_cases hz : kn = 0
          · have HB : Hid (newE ts = 1) := by
              show _ = _
              rw [HE.out, if_neg (tab_key HT.out.1 (List.length_eq_zero_iff.1 (by rw [HT.out.2.2.2.1]; exact hz)))]
            subst hz
            go_wp2
            go_ret2
            exact ⟨_, _, rfl, HW.out.1, .inr ⟨by rw [HB.out]; decide, by rw [HB.out], rfl⟩⟩
          · have hz' : ((kn : Int) == 0) = false := by simpa using hz
            have HZ : Hid (TabOk (ts.take (k + 1))) := tabOk_next HK.out.1 HT.out.1 HO.out.1.symm (fun e => hz (by rw [← HT.out.2.2.2.1, e]; rfl))
            have hrg := HW.out.2.1
            clear hz
            go_upto_region 11 with (first
              | (refine wpList_load_mid rfl 49 (.tmp 44) rfl b (off + k * 5) rfl _ _ hrg Tryd.underlying49 rfl Tryd.info_tenant ?_)
              | (refine wpList_store_mid rfl 49 (.tmp 8) (.tmp 45) rfl U.heap.size 0 (tenL t ka kn kc ga gn gc).toArray rfl rfl ?hT (ten_size _ _ _ _ _ _ _) (ten_all _ _ _ _ _ _ _) ?_; (case hT => exact ten_there _)))
            generalize hS : World.setCells _ _ _ _ = S
            obtain ⟨g8, hg8⟩ : ∃ g8, g8 = U.heap.size := ⟨_, rfl⟩
            rw [← hg8]
            have u0 : Blk S g8 (tenL t ka kn kc ga gn gc) 49 := by rw [← hS, hg8]; exact (Blk.new' (L := ten0L) rfl rfl).setAll (by rfl)
            have HS : Hid (Below U.heap.size U S ∧ BIn S ka kn t.key ∧ (ka = none → kn = 0 ∧ kc = 0) ∧ UIn S ga gn t.gone ∧ (ga = none → gn = 0 ∧ gc = 0) ∧ g8 = U.heap.size) := by
              have u1 : Below U.heap.size U S := by rw [← hS]; exact below_setCells (Nat.le_refl _) _ _ _ ((Below.refl _ _).alloc (Nat.le_refl _) _)
              have hp := ten_parts (HW.out.2.2.1.below u1)
              exact ⟨u1, hp.1.1, hp.1.2.2.1, hp.2.1.1, hp.2.1.2.2.1, hg8⟩
            clear hS hg8 hrg c1
            have y1 : S.cell? ⟨g8, 1, none⟩ = some (.slice ka kn kc) := u0.cell 1
            go_upto_region 14 with (at_builtin; refine wpList_append_bin rfl (.tmp 46) (.tmp 48) rfl S.heap.size none 0 0 [] rfl (World.ownsRow_nil _ _ _ _) ka kn kc t.key rfl HS.out.2.1 HS.out.2.2.1 (by omega) (Nat.le_refl _) ?_; intro a1 d1 w1 ow1 bl1; simp only [Nat.zero_add, List.nil_append] at ow1 ⊢)
            have y4 : w1.cell? ⟨g8, 4, none⟩ = some (.slice ga gn gc) := (u0.below bl1 u0.lt).cell 4
            have HW1 : Hid (UIn w1 ga gn t.gone) := HS.out.2.2.2.1.keeps (Lo.zero _) (Keeps.of_below bl1)
            clear y1
            go_upto_region 15 with (at_builtin; refine wpList_append_uin rfl (.tmp 50) (.tmp 52) rfl w1.heap.size none 0 0 [] rfl (World.ownsRow_nil _ _ _ _) ga gn gc t.gone rfl HW1.out HS.out.2.2.2.2.1 (by omega) (Nat.le_refl _) ?_; intro a2 d2 w2 ow2 bl2; simp only [Nat.zero_add, List.nil_append] at ow2 ⊢)
            have v0 : Blk w2 g8 (tenL t ka kn kc ga gn gc) 49 := (u0.below bl1 u0.lt).below bl2 (by have := u0.lt; have := bl1.size; omega)
            have e1 : w2.cell? ⟨g8, 1, none⟩ = some (.slice ka kn kc) := v0.cell 1
            have z1 := v0.frozen 1
            clear y4
            go_upto_region 16 with fail
            have v1 := v0.set 1 (.slice a1 kn d1)
            have e4 : (w2.setCell ⟨g8, 1, none⟩ (.slice a1 kn d1)).cell? ⟨g8, 4, none⟩ = some (.slice ga gn gc) := v1.cell 4
            have z4 := v1.frozen 4
            clear e1 z1
            go_upto_region 17 with fail
            have xl := ten_lab (t := t) u0.lt ow1 bl1 ow2 bl2
            obtain ⟨x0, x1, x2, x3, x4⟩ := ten_copy u0 ow1 bl1 ow2 bl2 HT.out.2.2.1 HS.out.2.1.2.2.1 HS.out.2.2.2.1.2.2.1 hkn hgn
            generalize hX : World.setCell (World.setCell w2 _ _) _ _ = X at x0 x1 x2 x3 x4 xl ⊢
            have kx : ∀ i, i < U.heap.size → X.heap[i]? = U.heap[i]? := fun i hi => by
              have h8 := HS.out.2.2.2.2.2
              rw [x3 i (by omega) (by have := HS.out.1.size; omega)]
              exact HS.out.1.block i hi
            have HX : Hid (Below q w X ∧ Blk X q [.slice A k c] 75 ∧ X.ownsRow (q + 1) 49 5 (.slice A k c) k C ∧ TsC (q + 1) X C (ts.take k) ∧ TenIn (q + 1) X (tenL t a1 kn d1 a2 gn d2) t ∧ q + 1 ≤ X.heap.size ∧ Blk X g8 (tenL t a1 kn d1 a2 gn d2) 49 ∧ Lab (q + 1) X (C ++ tenL t a1 kn d1 a2 gn d2)) := by
              have h8 := HS.out.2.2.2.2.2
              have hUS := HS.out.1.size
              have hwU := HU.out.2
              refine ⟨(HW.out.1.trans (HS.out.1.mono (by omega))).trans (x2.mono (by omega)), ?_, ?_, ?_, x1.lower (by omega), by omega, x0, (HL.out.keep fun i cur e _ h1 h2 => by
                have hi := (Array.getElem?_eq_some_iff.1 h1).1
                rw [kx i (by omega), HU.out.1.block i hi]).append (xl.lower (by omega))⟩
              · have := HW.out.2.2.2
                unfold Blk at this ⊢
                rw [kx q (by omega)]
                exact this
              · exact ownTen_same HK.out.2.2.1 fun g _ hgl => by rw [kx g (by omega), HU.out.1.block g hgl]
              · refine HK.out.2.2.2.1.keeps fun i _ hi => ?_
                rw [kx i (by omega), HU.out.1.block i hi]
            have p0 : X.cell? ⟨q, 0, none⟩ = some (.slice A k c) := HX.out.2.1.cell 0
            clear hX xl x1 x2 x3 x4 v0 v1 e4 z4 ow1 ow2 bl1 bl2 HW1 kx u0
            have x0 := HX.out.2.2.2.2.2.2.1
            obtain ⟨Y, hY⟩ : ∃ Y, Y = (X.alloc (.cells #[.int .u32 t.id, .slice a1 kn d1, .int .u64 t.quota, .int .u64 t.size, .slice a2 gn d2] 49)).drew := ⟨_, rfl⟩
            have HY : Hid (Y.ownsRow (q + 1) 49 5 (.slice A k c) k C ∧ (∀ j u, (tenL t a1 kn d1 a2 gn d2)[j]? = some u → Y.cell? ((⟨X.heap.size, 0, none⟩ : Addr).add j) = some u) ∧ Below X.heap.size X Y ∧ Blk Y q [.slice A k c] 75 ∧ X.heap.size ≤ Y.heap.size ∧ Y = (X.alloc (.cells #[.int .u32 t.id, .slice a1 kn d1, .int .u64 t.quota, .int .u64 t.size, .slice a2 gn d2] 49)).drew) := by
              have by1 : Below X.heap.size X Y := by rw [hY]; exact ((Below.refl _ _).alloc (Nat.le_refl _) _).drew
              have bk : Blk Y X.heap.size (tenL t a1 kn d1 a2 gn d2) 49 := by rw [hY]; exact (Blk.new' (L := tenL t a1 kn d1 a2 gn d2) rfl rfl).drew
              refine ⟨ownTen_same HX.out.2.2.1 fun g _ hgl => by1.block g hgl, fun j u hu => ?_, by1, HX.out.2.1.below by1 HX.out.2.1.lt, by1.size, hY⟩
              · rw [Addr.add_mid, Nat.zero_add, bk.cell j]
                exact hu
            have f0 : X.cell? ⟨g8, 0, none⟩ = some (.int .u32 t.id) := x0.cell 0
            have f1 : X.cell? ⟨g8, 1, none⟩ = some (.slice a1 kn d1) := x0.cell 1
            have f2 : X.cell? ⟨g8, 2, none⟩ = some (.int .u64 t.quota) := x0.cell 2
            have f3 : X.cell? ⟨g8, 3, none⟩ = some (.int .u64 t.size) := x0.cell 3
            have f4 : X.cell? ⟨g8, 4, none⟩ = some (.slice a2 gn d2) := x0.cell 4
            have p1 : ∀ o, (X.alloc o).cell? ⟨q, 0, none⟩ = some (.slice A k c) := fun o => cell_keep p0 ((Below.refl _ _).alloc (Nat.le_refl _) _) (old_block p0)
            clear x0 hY
            go_region_law (refine step_append_tens rfl (.tmp 62) (.tmp 64) rfl (q + 1) A k c C (by rfl) (by rw [← HY.out.2.2.2.2.2]; exact HY.out.1) ⟨X.heap.size, 0, none⟩ 1 1 (tenL t a1 kn d1 a2 gn d2) (by rfl) rfl (by rw [← HY.out.2.2.2.2.2]; exact HY.out.2.1) (tenL_one _ _ _ _ _ _ _) (by omega) (by rw [← HY.out.2.2.2.2.2]; have := HY.out.2.2.2.2.1; have := HX.out.2.2.2.2.2.1; omega) ?_; intro A' c' w' ow' gw' bw'; rw [← HY.out.2.2.2.2.2] at gw' bw'; have kq := HY.out.2.2.2.1.below bw' (by omega); have kcell : w'.cell? ⟨q, 0, none⟩ = some (.slice A k c) := kq.cell 0; have kf := kq.frozen 0)
            all_goals (
              have HZ2 : Hid (Blk (w'.setCell ⟨q, 0, none⟩ (.slice A' (k + 1) c')) q [.slice A' (k + 1) c'] 75 ∧ (w'.setCell ⟨q, 0, none⟩ (.slice A' (k + 1) c')).ownsRow (q + 1) 49 5 (.slice A' (k + 1) c') (k + 1) (C ++ tenL t a1 kn d1 a2 gn d2) ∧ TsC (q + 1) (w'.setCell ⟨q, 0, none⟩ (.slice A' (k + 1) c')) (C ++ tenL t a1 kn d1 a2 gn d2) (ts.take (k + 1)) ∧ Below q w (w'.setCell ⟨q, 0, none⟩ (.slice A' (k + 1) c')) ∧ Lab (q + 1) (w'.setCell ⟨q, 0, none⟩ (.slice A' (k + 1) c')) (C ++ tenL t a1 kn d1 a2 gn d2)) := by
                have oth : ∀ b, b ≠ q → (w'.setCell ⟨q, 0, none⟩ (.slice A' (k + 1) c')).heap[b]? = w'.heap[b]? := fun b hb => Below.heap_setCell _ _ _ b (by show b ≠ q; exact hb)
                have hCY : TsC (q + 1) Y (C ++ tenL t a1 kn d1 a2 gn d2) (ts.take (k + 1)) := by
                  rw [take_next HT.out.1]
                  exact ((HX.out.2.2.2.1.append (TsC.one HX.out.2.2.2.2.1))).below HY.out.2.2.1
                obtain ⟨t1, t2⟩ := hCY.grown (HX.out.2.2.2.2.2.2.2.below HY.out.2.2.1) gw' (ownTen_row HY.out.1)
                have hq1 := HX.out.2.2.2.2.2.1
                refine ⟨kq.set 0 _, ownTen_same ow' fun g hg _ => oth g (by omega), t1.keeps fun b hb _ => oth b (by omega), ?_, t2.keep fun b cur e hlb h1 h2 => oth b (by omega)⟩
                exact ((HX.out.1.trans (HY.out.2.2.1.mono (by omega))).trans (bw'.mono (by omega))).setCell (Nat.le_refl q) _
              clear ow' gw' bw' kq kcell kf
              go_wp2
              go_roundw
              case rel => exact ⟨k + 1, A', c', _, by omega, by go_num, HZ.out, HZ2.out.1, HZ2.out.2.1, HZ2.out.2.2.1, HZ2.out.2.2.2.1, HZ2.out.2.2.2.2⟩
              case measure => simp [intOf]; omega)
      · have hge : (len : Int) ≤ k := by omega
        have e : ts.take k = ts := List.take_of_length_le (by rw [H.out.2.1.1]; omega)
        have hE0 : newE ts = 0 := by
          have := HK.out.1
          rw [e] at this
          rw [HE.out, if_pos this]
        have hRT := HK.out.2.2.2.2.2
        rw [e] at hRT
        have HR : Hid (RTab q wr (.pointer (some ⟨q, 0, none⟩)) ts ∧ newE ts = 0) := ⟨hRT, hE0⟩
        clear e hE0 hRT
        go_wp2
        go_ret2
        exact ⟨_, _, rfl, HK.out.2.2.2.2.1, .inl ⟨HR.out.2, rfl, HR.out.1⟩⟩
end Go.Proofs.YtpliokkmiijieaaDoor
namespace Go.Proofs.YtpliokkmiijieaaDoor
open Go.RowKit
set_option linter.unusedVariables false
set_option maxRecDepth 4000

theorem lentBytes_of (a : Option Addr) (n c : Nat) (z : List Int) (w : World) (h : BIn w a n z) (hn : n ≤ 1000) (hnil : a = none → n = 0 ∧ c = 0) :
    Calls Tryd.prog 33 #[.slice a n c] w fun e w' => ∃ a' c', e = .returned (.slice a' n c') ∧ w'.ownsRow w.heap.size 5 1 (.slice a' n c') n (u8s z) ∧ Below w.heap.size w w' := by
  have H : Hid (BIn w a n z ∧ (a = none → n = 0 ∧ c = 0)) := ⟨h, hnil⟩
  clear h hnil
  go_enter Tryd.func33, Tryd.ntmps33
  go_wp2_with (at_builtin; refine wpList_append_bin rfl (.tmp 4) (.tmp 5) rfl w.heap.size none 0 0 [] rfl (World.ownsRow_nil _ _ _ _) a n c z rfl H.out.1 H.out.2 (by omega) (Nat.le_refl _) ?_; intro a1 d1 w1 ow1 bl1; simp only [Nat.zero_add, List.nil_append] at ow1 ⊢)
  go_ret
  exact ⟨a1, d1, rfl, ow1, bl1⟩

theorem ten_copy2 {U w1 w2 : World} {g : Nat} {t : Ten} {ka : Option Addr} {kn kc : Nat} {ga : Option Addr} {gn gc : Nat} {a1 : Option Addr} {d1 : Nat} {a2 : Option Addr} {d2 : Nat}
    (u : Blk U g (tenL t ka kn kc ga gn gc) 49) (ow1 : w1.ownsRow U.heap.size 5 1 (.slice a1 kn d1) kn (u8s t.key)) (bl1 : Below U.heap.size U w1)
    (ow2 : w2.ownsRow w1.heap.size 23 1 (.slice a2 gn d2) gn (u32s t.gone)) (bl2 : Below w1.heap.size (w1.setCell ⟨g, 1, none⟩ (.slice a1 kn d1)) w2) (hf : t.Fits) (fk : ∀ z ∈ t.key, Fits8 z) (fg : ∀ z ∈ t.gone, Fits32 z) (lk : kn ≤ 1000) (lg : gn ≤ 1000) :
    Blk (w2.setCell ⟨g, 4, none⟩ (.slice a2 gn d2)) g (tenL t a1 kn d1 a2 gn d2) 49 ∧
    TenIn U.heap.size (w2.setCell ⟨g, 4, none⟩ (.slice a2 gn d2)) (tenL t a1 kn d1 a2 gn d2) t ∧
    Below g U (w2.setCell ⟨g, 4, none⟩ (.slice a2 gn d2)) ∧
    (∀ b, b ≠ g → b < U.heap.size → (w2.setCell ⟨g, 4, none⟩ (.slice a2 gn d2)).heap[b]? = U.heap[b]?) ∧ U.heap.size ≤ (w2.setCell ⟨g, 4, none⟩ (.slice a2 gn d2)).heap.size ∧ Lab U.heap.size (w2.setCell ⟨g, 4, none⟩ (.slice a2 gn d2)) (tenL t a1 kn d1 a2 gn d2) := by
  have hg := u.lt
  have h1 := bl1.size
  have hs1 : (w1.setCell ⟨g, 1, none⟩ (.slice a1 kn d1)).heap.size = w1.heap.size := by simp [World.setCell]
  have h2 : w1.heap.size ≤ w2.heap.size := by have := bl2.size; omega
  have o1 : ∀ b, b ≠ g → (w1.setCell ⟨g, 1, none⟩ (.slice a1 kn d1)).heap[b]? = w1.heap[b]? := fun b hb => Below.heap_setCell _ _ _ b (by show b ≠ g; exact hb)
  have o2 : ∀ b, b ≠ g → b < w1.heap.size → w2.heap[b]? = w1.heap[b]? := fun b hb hlt => by rw [bl2.block b hlt, o1 b hb]
  have o3 : ∀ b, b ≠ g → (w2.setCell ⟨g, 4, none⟩ (.slice a2 gn d2)).heap[b]? = w2.heap[b]? := fun b hb => Below.heap_setCell _ _ _ b (by show b ≠ g; exact hb)
  have k1 : Keeps U.heap.size w1 (w2.setCell ⟨g, 4, none⟩ (.slice a2 gn d2)) := fun b hb hlt => by rw [o3 b (by omega), o2 b (by omega) hlt]
  have k2 : Keeps U.heap.size w2 (w2.setCell ⟨g, 4, none⟩ (.slice a2 gn d2)) := fun b hb hlt => o3 b (by omega)
  have bx : Below g U (w2.setCell ⟨g, 4, none⟩ (.slice a2 gn d2)) := by
    have b0 : Below g U w1 := bl1.mono (Nat.le_of_lt hg)
    have b1 : Below g U (w1.setCell ⟨g, 1, none⟩ (.slice a1 kn d1)) := b0.setCell (Nat.le_refl g) _
    exact (b1.trans (bl2.mono (by omega))).setCell (Nat.le_refl g) _
  refine ⟨?_, ⟨a1, kn, d1, a2, gn, d2, rfl, ⟨?_, own_cap1 ow1, own_nil ow1, own_lo ow1⟩, ⟨?_, (own_unil ow2).2, (own_unil ow2).1, (own_lo ow2).mono h1⟩, hf⟩, bx, fun b hb hlt => ?_, ?_, ?_⟩
  · exact (((u.below bl1 hg).set 1 (.slice a1 kn d1)).below bl2 (by omega)).set 4 (.slice a2 gn d2)
  · exact (own_bin ow1 (by unfold maxLen; omega) fk).keeps (own_lo ow1) k1
  · exact (own_uin ow2 (by unfold maxLen; omega) fg).keeps ((own_lo ow2).mono h1) k2
  · rw [o3 b hb, o2 b hb (by omega), bl1.block b hlt]
  · simp [World.setCell]
    omega
  · intro v hv x n c hx
    subst hx
    simp only [tenL, List.mem_cons, List.not_mem_nil, or_false, reduceCtorEq, false_or] at hv
    rcases hv with hv | hv
    · have hlo := own_lo ow1 x (by cases hv; rfl)
      rcases own_lab ow1 (by decide) x n c hv.symm with h0 | ⟨cur, e, k3, k4⟩
      · exact .inl h0
      · refine .inr ⟨cur, e, hlo, ?_, k4⟩
        rw [o3 _ (by omega), o2 _ (by omega) (Array.getElem?_eq_some_iff.1 k3).1]
        exact k3
    · have hlo := own_lo ow2 x (by cases hv; rfl)
      rcases own_lab ow2 (by decide) x n c hv.symm with h0 | ⟨cur, e, k3, k4⟩
      · exact .inl h0
      · refine .inr ⟨cur, e, by omega, ?_, k4⟩
        rw [o3 _ (by omega)]
        exact k3

set_option maxHeartbeats 4000000 in
theorem lentTenants_of (lo : Nat) (a : Option Addr) (n c : Nat) (ts : List Ten) (w : World) (h : TsIn lo w a n ts) (hn : n ≤ 100) (hsm : ∀ t ∈ ts, Small t) :
    Calls Tryd.prog 15 #[.slice a n c] w fun e w' => ∃ A c' C, e = .returned (.slice A n c') ∧ w'.ownsRow w.heap.size 49 5 (.slice A n c') n C ∧ TsC w.heap.size w' C ts ∧ Lab w.heap.size w' C ∧ Below w.heap.size w w' := by
  obtain ⟨q, hq⟩ : ∃ q, q = w.heap.size := ⟨_, rfl⟩
  have H : Hid (q = w.heap.size ∧ TsIn lo w a n ts ∧ ∀ t ∈ ts, Small t) := ⟨hq, h, hsm⟩
  rw [← hq]
  clear h hsm hq
  go_enter Tryd.func15, Tryd.ntmps15
  go_wp2
  go_loopw [3, 4] (fun r i wr => ∃ (k : Nat) (A : Option Addr) (c : Nat) (C : List Value), k ≤ n ∧ i = .int .i64 k ∧ r = .slice A k c ∧ wr.ownsRow q 49 5 (.slice A k c) k C ∧ TsC q wr C (ts.take k) ∧ Lab q wr C ∧ Below q w wr ∧ q ≤ wr.heap.size)
    (fun _ i _ => n - (intOf i).toNat)
  case atStart => exact ⟨0, none, 0, [], by omega, rfl, rfl, World.ownsRow_nil _ _ _ _, TsC.nil _ _, Lab.nil _ _, Below.refl _ _, by rw [H.out.1]; exact Nat.le_refl _⟩
  case round =>
    obtain ⟨k, A, c1, C, hk, rfl, rfl, hown, hC, hlab, hbel, hqs⟩ := hrel
    have HK : Hid (wr.ownsRow q 49 5 (.slice A k c1) k C ∧ TsC q wr C (ts.take k) ∧ Lab q wr C ∧ Below q w wr ∧ q ≤ wr.heap.size) := ⟨hown, hC, hlab, hbel, hqs⟩
    clear hown hC hlab hbel hqs
    by_cases hlt : k < n
    · have hlt' : (k : Int) < n := by omega
      obtain ⟨b, off, ha, hlo, hrow⟩ := H.out.2.1.2.resolve_left (by omega)
      subst ha
      obtain ⟨t, ht⟩ : ∃ t, ts[k]? = some t := ⟨_, List.getElem?_eq_getElem (by rw [H.out.2.1.1]; exact hlt)⟩
      obtain ⟨L, hT, hR⟩ := hrow k t ht
      have kp : Keeps lo w wr := Keeps.of_below (by rw [← H.out.1]; exact HK.out.2.2.2.1)
      have hT' := hT.keeps kp
      have hrg := range_keeps hR hlo kp
      obtain ⟨ka, kn, kc, ga, gn, gc, hL, _⟩ := _root_.id hT'
      subst hL
      obtain ⟨p1, p2, hf⟩ := ten_parts hT'
      have hs := H.out.2.2 t (List.mem_of_getElem? ht)
      have hkn : kn ≤ 1000 := by rw [← p1.1.1]; exact hs.1
      have hgn : gn ≤ 1000 := by rw [← p2.1.1]; exact hs.2
      have HT : Hid (ts[k]? = some t ∧ BIn wr ka kn t.key ∧ (ka = none → kn = 0 ∧ kc = 0) ∧ UIn wr ga gn t.gone ∧ (ga = none → gn = 0 ∧ gc = 0) ∧ t.Fits) := ⟨ht, p1.1, p1.2.2.1, p2.1, p2.2.2.1, hf⟩
      clear hT hR kp hrow ht hT' p1 p2 hf hs
      go_upto_region 6 with (first
        | (refine wpList_load_mid rfl 49 (.tmp 15) rfl b (off + k * 5) rfl _ _ hrg Tryd.underlying49 rfl Tryd.info_tenant ?_)
        | (refine wpList_store_mid rfl 49 (.tmp 5) (.tmp 16) rfl wr.heap.size 0 (tenL t ka kn kc ga gn gc).toArray rfl rfl ?hT (ten_size _ _ _ _ _ _ _) (ten_all _ _ _ _ _ _ _) ?_; (case hT => exact ten_there _)))
      generalize hU : World.setCells _ _ _ _ = U
      obtain ⟨g, hg⟩ : ∃ g, g = wr.heap.size := ⟨_, rfl⟩
      rw [← hg]
      have u0 : Blk U g (tenL t ka kn kc ga gn gc) 49 := by rw [← hU, hg]; exact (Blk.new' (L := ten0L) rfl rfl).setAll (by rfl)
      have HU : Hid (Below wr.heap.size wr U ∧ BIn U ka kn t.key ∧ UIn U ga gn t.gone ∧ g = wr.heap.size) := by
        have u1 : Below wr.heap.size wr U := by rw [← hU]; exact below_setCells (Nat.le_refl _) _ _ _ ((Below.refl _ _).alloc (Nat.le_refl _) _)
        exact ⟨u1, HT.out.2.1.below u1, HT.out.2.2.2.1.keeps (Lo.zero _) (Keeps.of_below u1), hg⟩
      clear hU hg hrg
      have y1 : U.cell? ⟨g, 1, none⟩ = some (.slice ka kn kc) := u0.cell 1
      have LB := lentBytes_of ka kn kc t.key U HU.out.2.1 hkn HT.out.2.2.1
      go_upto_region 8 with (go_at_call 33; refine LB.mono ?_; rintro e w1 ⟨a1, d1, rfl, ow1, bl1⟩; have v0 := u0.below bl1 u0.lt; have e1 : w1.cell? ⟨g, 1, none⟩ = some (.slice ka kn kc) := v0.cell 1; have z1 := v0.frozen 1)
      have v1 := v0.set 1 (.slice a1 kn d1)
      have hs1 : (w1.setCell ⟨g, 1, none⟩ (.slice a1 kn d1)).heap.size = w1.heap.size := by simp [World.setCell]
      have HG : Hid (UIn (w1.setCell ⟨g, 1, none⟩ (.slice a1 kn d1)) ga gn t.gone) := by
        have := HU.out.2.2.2
        refine HT.out.2.2.2.1.keeps (Lo.zero _) fun i _ hi => ?_
        rw [Below.heap_setCell _ _ _ i (by show i ≠ g; omega), bl1.block i (by have := HU.out.1.size; omega), HU.out.1.block i hi]
      generalize hV1 : World.setCell w1 _ _ = V1 at v1 hs1 HG ⊢
      have y4 : V1.cell? ⟨g, 4, none⟩ = some (.slice ga gn gc) := v1.cell 4
      clear y1 e1 z1 LB v0
      go_upto_region 9 with (at_builtin; refine wpList_append_uin rfl (.tmp 21) (.tmp 23) rfl V1.heap.size none 0 0 [] rfl (World.ownsRow_nil _ _ _ _) ga gn gc t.gone rfl HG.out HT.out.2.2.2.2.1 (by omega) (Nat.le_refl _) ?_; intro a2 d2 w2 ow2 bl2; simp only [Nat.zero_add, List.nil_append] at ow2 ⊢)
      have v2 := v1.below bl2 v1.lt
      have e4 : w2.cell? ⟨g, 4, none⟩ = some (.slice ga gn gc) := v2.cell 4
      have z4 := v2.frozen 4
      rw [hs1] at ow2 bl2
      rw [← hV1] at bl2
      clear y4
      go_upto_region 10 with fail
      obtain ⟨x0, x1, x2, x3, x4, xl⟩ := ten_copy2 u0 ow1 bl1 ow2 bl2 HT.out.2.2.2.2.2 HU.out.2.1.2.2.1 HU.out.2.2.1.2.2.1 hkn hgn
      generalize hX : World.setCell w2 _ _ = X at x0 x1 x2 x3 x4 xl ⊢
      have kx : ∀ i, i < wr.heap.size → X.heap[i]? = wr.heap[i]? := fun i hi => by
        have := HU.out.2.2.2
        rw [x3 i (by omega) (by have := HU.out.1.size; omega), HU.out.1.block i hi]
      have HX : Hid (Below q w X ∧ X.ownsRow q 49 5 (.slice A k c1) k C ∧ TsC q X (C ++ tenL t a1 kn d1 a2 gn d2) (ts.take (k + 1)) ∧ q ≤ X.heap.size ∧ Lab q X (C ++ tenL t a1 kn d1 a2 gn d2)) := by
        have h1 := HU.out.2.2.2
        have h2 := HU.out.1.size
        have h3 := HK.out.2.2.2.2
        refine ⟨(HK.out.2.2.2.1.trans (HU.out.1.mono (by omega))).trans (x2.mono (by omega)), ownTen_same HK.out.1 fun i _ hi => kx i hi, ?_, by omega, (HK.out.2.2.1.keep fun i cur e _ h1 _ => kx i (Array.getElem?_eq_some_iff.1 h1).1).append (xl.lower (by omega))⟩
        rw [take_next HT.out.1]
        exact (HK.out.2.1.keeps fun i _ hi => kx i hi).append (TsC.one (x1.lower (by omega)))
      clear hX xl x1 x2 x3 x4 v1 v2 e4 z4 ow1 ow2 bl1 bl2 HG kx u0 hV1 hs1
      obtain ⟨Y, hY⟩ : ∃ Y, Y = X.alloc (.cells #[.int .u32 t.id, .slice a1 kn d1, .int .u64 t.quota, .int .u64 t.size, .slice a2 gn d2] 49) := ⟨_, rfl⟩
      have HY : Hid (Y.ownsRow q 49 5 (.slice A k c1) k C ∧ (∀ j u, (tenL t a1 kn d1 a2 gn d2)[j]? = some u → Y.cell? ((⟨X.heap.size, 0, none⟩ : Addr).add j) = some u) ∧ Below X.heap.size X Y ∧ X.heap.size ≤ Y.heap.size ∧ Y = X.alloc (.cells #[.int .u32 t.id, .slice a1 kn d1, .int .u64 t.quota, .int .u64 t.size, .slice a2 gn d2] 49)) := by
        have by1 : Below X.heap.size X Y := by rw [hY]; exact (Below.refl _ _).alloc (Nat.le_refl _) _
        have bk : Blk Y X.heap.size (tenL t a1 kn d1 a2 gn d2) 49 := by rw [hY]; exact Blk.new' (L := tenL t a1 kn d1 a2 gn d2) rfl rfl
        refine ⟨ownTen_same HX.out.2.1 fun i _ hi => by1.block i hi, fun j u hu => ?_, by1, by1.size, hY⟩
        rw [Addr.add_mid, Nat.zero_add, bk.cell j]
        exact hu
      clear hY
      have f0 : X.cell? ⟨g, 0, none⟩ = some (.int .u32 t.id) := x0.cell 0
      have f1 : X.cell? ⟨g, 1, none⟩ = some (.slice a1 kn d1) := x0.cell 1
      have f2 : X.cell? ⟨g, 2, none⟩ = some (.int .u64 t.quota) := x0.cell 2
      have f3 : X.cell? ⟨g, 3, none⟩ = some (.int .u64 t.size) := x0.cell 3
      have f4 : X.cell? ⟨g, 4, none⟩ = some (.slice a2 gn d2) := x0.cell 4
      go_upto_region 4 with (at_builtin; go_loud (rw [← HY.out.2.2.2.2]; refine wpList_append_tens rfl (.tmp 27) (.tmp 29) rfl q A k c1 C rfl HY.out.1 ⟨X.heap.size, 0, none⟩ 1 1 (tenL t a1 kn d1 a2 gn d2) rfl rfl HY.out.2.1 (tenL_one _ _ _ _ _ _ _) (by omega) (by have := HY.out.2.2.2.1; have := HX.out.2.2.2.1; omega) ?_); intro A' c' w' ow' gw' bw')
      have HZ : Hid (w'.ownsRow q 49 5 (.slice A' (k + 1) c') (k + 1) (C ++ tenL t a1 kn d1 a2 gn d2) ∧ TsC q w' (C ++ tenL t a1 kn d1 a2 gn d2) (ts.take (k + 1)) ∧ Lab q w' (C ++ tenL t a1 kn d1 a2 gn d2) ∧ Below q w w' ∧ q ≤ w'.heap.size) := by
        obtain ⟨t1, t2⟩ := (HX.out.2.2.1.below HY.out.2.2.1).grown (HX.out.2.2.2.2.below HY.out.2.2.1) gw' (ownTen_row HY.out.1)
        exact ⟨ow', t1, t2, (HX.out.1.trans (HY.out.2.2.1.mono HX.out.2.2.2.1)).trans bw', by have := bw'.size; have := HY.out.2.2.2.1; have := HX.out.2.2.2.1; omega⟩
      clear ow' gw' bw' x0 f0 f1 f2 f3 f4
      go_wp2
      go_roundw
      case rel => exact ⟨k + 1, A', c', _, by omega, by go_num, rfl, HZ.out.1, HZ.out.2.1, HZ.out.2.2.1, HZ.out.2.2.2.1, HZ.out.2.2.2.2⟩
      case measure => simp [intOf]; omega
    · have hge : (n : Int) ≤ k := by omega
      have hkn : k = n := by omega
      have HF : Hid (∃ C, wr.ownsRow q 49 5 (.slice A n c1) n C ∧ TsC q wr C ts ∧ Lab q wr C ∧ Below q w wr) := by
        have h1 := HK.out.1
        have h2 := HK.out.2.1
        rw [hkn] at h1
        rw [List.take_of_length_le (by rw [H.out.2.1.1]; omega)] at h2
        exact ⟨C, h1, h2, HK.out.2.2.1, HK.out.2.2.2.1⟩
      subst hkn
      go_wp2
      go_ret
      obtain ⟨C', f1, f2, f3, f4⟩ := HF.out
      exact ⟨A, c1, C', rfl, f1, f2, f3, f4⟩
end Go.Proofs.YtpliokkmiijieaaDoor
namespace Go.Proofs.YtpliokkmiijieaaDoor
open Go.RowKit
set_option linter.unusedVariables false
set_option maxRecDepth 4000

/-- The key that a tenant's cells name lies in a block that can be written. -/
def KL (lo : Nat) (w : World) (L : List Value) : Prop := ∀ x n c, L[1]? = some (.slice (some x) n c) → n = 0 ∨ ∃ cur e, lo ≤ x.block ∧ w.heap[x.block]? = some (.cells cur e (0, 0))
theorem KL.keep {lo : Nat} {w w' : World} {L : List Value} (h : KL lo w L) (hk : Keeps lo w w') : KL lo w' L := fun x n c hx => by
  rcases h x n c hx with h0 | ⟨cur, e, h1, h2⟩
  · exact .inl h0
  · exact .inr ⟨cur, e, h1, by rw [hk _ h1 (Array.getElem?_eq_some_iff.1 h2).1]; exact h2⟩
theorem KL.lower {lo lo' : Nat} {w : World} {L : List Value} (h : KL lo w L) (hl : lo' ≤ lo) : KL lo' w L := fun x n c hx => by
  rcases h x n c hx with h0 | ⟨cur, e, h1, h2⟩
  · exact .inl h0
  · exact .inr ⟨cur, e, Nat.le_trans hl h1, h2⟩
theorem KL.of_own {w w' : World} {base lo : Nat} {t : Ten} {a1 : Option Addr} {kn d1 : Nat} {a2 : Option Addr} {gn d2 : Nat} {xs : List Value} (h : w.ownsRow base 5 1 (.slice a1 kn d1) kn xs) (hk : Keeps base w w') (hl : lo ≤ base) : KL lo w' (tenL t a1 kn d1 a2 gn d2) := by
  intro x n c hx
  have hx' : Value.slice a1 kn d1 = .slice (some x) n c := Option.some.inj hx
  rcases h.2 with ⟨hv, hn⟩ | ⟨g, cap, cur, hv, hb, hg, _⟩
  · rw [hv] at hx'; cases hx'
  · rw [hv] at hx'
    cases hx'
    exact .inr ⟨cur, 5, Nat.le_trans hl hb, by rw [hk g hb (Array.getElem?_eq_some_iff.1 hg).1]; exact hg⟩
set_option maxHeartbeats 1000000 in
theorem copied_of2 (lo : Nat) (L : List Value) (t : Ten) (w : World) (h : TenIn lo w L t) (hk : t.key.length ≤ 1000) (hg : t.gone.length ≤ 1000) :
    Calls Tryd.prog 34 #[.agg L.toArray] w fun e w' => ∃ L', e = .returned (.agg L'.toArray) ∧ TenIn w.heap.size w' L' t ∧ Below w.heap.size w w' ∧ KL w.heap.size w' L' := by
  obtain ⟨ka, kn, kc, ga, gn, gc, hL, ⟨k1, k2, k3, k4⟩, ⟨g1, g2, g3, g4⟩, hf⟩ := h
  subst hL
  obtain ⟨q, hq⟩ : ∃ q, q = w.heap.size := ⟨_, rfl⟩
  have ln : kn ≤ 1000 := by rw [← k1.1]; exact hk
  have lg : gn ≤ 1000 := by rw [← g1.1]; exact hg
  have H : Hid (q = w.heap.size ∧ BIn w ka kn t.key ∧ (ka = none → kn = 0 ∧ kc = 0) ∧ UIn w ga gn t.gone ∧ (ga = none → gn = 0 ∧ gc = 0) ∧ t.Fits) := ⟨hq, k1, k3, g1, g3, hf⟩
  rw [← hq]
  clear k1 k2 k3 k4 g1 g2 g3 g4 hf hk hg
  go_enter Tryd.func34, Tryd.ntmps34
  go_upto_region 1 with fail
  rw [← hq]
  generalize hV : World.alloc (World.alloc w _) _ = V
  have pv : Blk V q (tenL t ka kn kc ga gn gc) 49 ∧ Blk V (q + 1) (tenL ten0 none 0 0 none 0 0) 49 ∧ Below q w V ∧ V.heap.size = q + 2 := by
    rw [← hV]
    exact ⟨(Blk.new' hq.symm rfl).alloc _, Blk.new' (by simp [hq]) rfl, ((Below.refl _ _).alloc (by omega) _).alloc (by simp; omega) _, by simp [hq]⟩
  clear hV hq
  obtain ⟨v0, v1, v2, v3⟩ := pv
  have HV : Hid (Blk V (q + 1) (tenL ten0 none 0 0 none 0 0) 49 ∧ Below q w V ∧ BIn V ka kn t.key ∧ UIn V ga gn t.gone) := by
    have b : Below w.heap.size w V := by rw [← H.out.1]; exact v2
    exact ⟨v1, v2, H.out.2.1.below b, H.out.2.2.2.1.keeps (Lo.zero _) (Keeps.of_below b)⟩
  have c1 : V.cell? ⟨q, 1, none⟩ = some (.slice ka kn kc) := v0.cell 1
  have on1 : V.ownsRow (q + 2) 5 1 (.slice none 0 0) 0 (u8s []) := World.ownsRow_nil _ _ _ _
  go_upto_region 2 with (at_builtin; refine wpList_append_bin rfl (.const (.slice none 0 0)) (.tmp 4) rfl (q + 2) none 0 0 [] rfl on1 ka kn kc t.key rfl HV.out.2.2.1 H.out.2.2.1 (by omega) (by omega) ?_; intro a1 d1 w1 ow1 bl1; rw [Nat.zero_add, List.nil_append] at ow1; rw [Nat.zero_add]; have u0 := v0.below bl1 (by omega); have e0 : w1.cell? ⟨q, 1, none⟩ = some (.slice ka kn kc) := u0.cell 1; have z0 := u0.frozen 1)
  have p1 := u0.set 1 (.slice a1 kn d1)
  have H1 : Hid (w1.ownsRow (q + 2) 5 1 (.slice a1 kn d1) kn (u8s t.key) ∧ Below (q + 2) V w1) := ⟨ow1, bl1⟩
  have n1 : (w1.setCell ⟨q, 1, none⟩ (.slice a1 kn d1)).heap.size = w1.heap.size := by simp [World.setCell]
  have b1 : Below q w (w1.setCell ⟨q, 1, none⟩ (.slice a1 kn d1)) := (HV.out.2.1.trans (bl1.mono (by omega))).setCell (Nat.le_refl _) _
  have o1 : (w1.setCell ⟨q, 1, none⟩ (.slice a1 kn d1)).ownsRow (q + 2) 5 1 (.slice a1 kn d1) kn (u8s t.key) := own_same ow1 fun k hk => Below.heap_setCell w1 _ _ k (by have := (ow1.lt k hk).1; show k ≠ q; omega)
  have r1 : Blk (w1.setCell ⟨q, 1, none⟩ (.slice a1 kn d1)) (q + 1) (tenL ten0 none 0 0 none 0 0) 49 := (HV.out.1.below bl1 (by omega)).set_other (by show q + 1 ≠ q; omega) _
  have s1 : q + 2 ≤ (w1.setCell ⟨q, 1, none⟩ (.slice a1 kn d1)).heap.size := by have := bl1.size; omega
  generalize hU : World.setCell w1 _ _ = U at p1 b1 o1 r1 s1 ⊢
  have HU : Hid (U.ownsRow (q + 2) 5 1 (.slice a1 kn d1) kn (u8s t.key) ∧ Blk U (q + 1) (tenL ten0 none 0 0 none 0 0) 49 ∧ Below q w U ∧ UIn U ga gn t.gone) :=
    ⟨o1, r1, b1, H.out.2.2.2.1.keeps (Lo.zero _) (Keeps.of_below (by rw [← H.out.1]; exact b1))⟩
  have c4 : U.cell? ⟨q, 4, none⟩ = some (.slice ga gn gc) := p1.cell 4
  have on2 : U.ownsRow U.heap.size 23 1 (.slice none 0 0) 0 (u32s []) := World.ownsRow_nil _ _ _ _
  clear ow1 bl1 u0 e0 z0 H1 n1 hU b1 o1 r1 on1 v0 v1 v2 v3 HV c1
  go_upto_region 3 with (at_builtin; refine wpList_append_uin rfl (.const (.slice none 0 0)) (.tmp 8) rfl U.heap.size none 0 0 [] rfl on2 ga gn gc t.gone rfl HU.out.2.2.2 H.out.2.2.2.2.1 (by omega) (Nat.le_refl _) ?_; intro a2 d2 w2 ow2 bl2; rw [Nat.zero_add, List.nil_append] at ow2; rw [Nat.zero_add]; have u0 := p1.below bl2 (by omega); have e0 : w2.cell? ⟨q, 4, none⟩ = some (.slice ga gn gc) := u0.cell 4; have z0 := u0.frozen 4)
  have p2 := u0.set 4 (.slice a2 gn d2)
  have b2 : Below q w (w2.setCell ⟨q, 4, none⟩ (.slice a2 gn d2)) := (HU.out.2.2.1.trans (bl2.mono (by omega))).setCell (Nat.le_refl _) _
  have o2 : (w2.setCell ⟨q, 4, none⟩ (.slice a2 gn d2)).ownsRow (q + 2) 5 1 (.slice a1 kn d1) kn (u8s t.key) := own_same (own_below HU.out.1 bl2) fun k hk => Below.heap_setCell w2 _ _ k (by have := (HU.out.1.lt k hk).1; show k ≠ q; omega)
  have g2 : UIn (w2.setCell ⟨q, 4, none⟩ (.slice a2 gn d2)) a2 gn t.gone := (own_uin ow2 (by unfold maxLen; omega) H.out.2.2.2.1.2.2.1).keeps (own_lo ow2) fun b hb _ => Below.heap_setCell w2 _ _ b (by show b ≠ q; omega)
  have r2 : Blk (w2.setCell ⟨q, 4, none⟩ (.slice a2 gn d2)) (q + 1) (tenL ten0 none 0 0 none 0 0) 49 := (HU.out.2.1.below bl2 (by omega)).set_other (by show q + 1 ≠ q; omega) _
  have e2 : ((tenL t ka kn kc ga gn gc).set 1 (.slice a1 kn d1)).set 4 (.slice a2 gn d2) = tenL t a1 kn d1 a2 gn d2 := rfl
  rw [e2] at p2
  generalize hX : World.setCell w2 _ _ = X at p2 b2 o2 g2 r2 ⊢
  have HX : Hid (TenIn q (X.setCells (q + 1) 0 (tenL t a1 kn d1 a2 gn d2)) (tenL t a1 kn d1 a2 gn d2) t ∧ Below q w X ∧ KL q (X.setCells (q + 1) 0 (tenL t a1 kn d1 a2 gn d2)) (tenL t a1 kn d1 a2 gn d2)) := by
    have kp : Keeps (q + 2) X (X.setCells (q + 1) 0 (tenL t a1 kn d1 a2 gn d2)) := fun b hb hlt => World.heap_setCells_other X (q + 1) 0 _ hlt (by omega)
    have la := own_lo o2
    have lg' : Lo (q + 2) a2 := (own_lo ow2).mono s1
    refine ⟨⟨a1, kn, d1, a2, gn, d2, rfl, ⟨(own_bin o2 (by unfold maxLen; omega) H.out.2.1.2.2.1).keeps la kp, own_cap1 o2, own_nil o2, la.mono (by omega)⟩, ⟨g2.keeps lg' kp, (own_unil ow2).2, (own_unil ow2).1, lg'.mono (by omega)⟩, H.out.2.2.2.2.2⟩, b2, KL.of_own o2 (fun i hi hlt => kp i hi hlt) (by omega)⟩
  clear ow2 bl2 u0 e0 z0 hX b2 o2 g2 HU on2 c4 p1 s1
  go_wp2_with (first
    | (refine wpList_load_mid rfl 49 (.tmp 1) rfl q 0 rfl _ _ p2.whole Tryd.underlying49 rfl Tryd.info_tenant ?_)
    | (refine wpList_store_mid rfl 49 (.tmp 2) (.tmp 11) rfl (q + 1) 0 (tenL t a1 kn d1 a2 gn d2).toArray rfl rfl (r2.there 0 _ (by simp [tenL])) (by simp [tenL, Tryd.info_tenant]) (all_oneCell_toArray (tenL_one _ _ _ _ _ _ _)) ?_))
  have b3 := r2.setAll (vs := tenL t a1 kn d1 a2 gn d2) (by rfl)
  refine bodyPost_ret (v := .agg (tenL t a1 kn d1 a2 gn d2).toArray) (results_cell_one (p := 2) (ty := 49) rfl _ _ (q + 1) _ _ _ rfl b3 Tryd.underlying49 rfl Tryd.info_tenant) rfl ⟨_, rfl, HX.out.1, ?_, HX.out.2.2⟩
  exact below_setCells (by omega) _ _ _ HX.out.2.1
set_option maxHeartbeats 1000000 in
theorem tenant_of2 (lo : Nat) (p : Value) (ts : List Ten) (id : Int) (w : World) (h : TabIn lo w p ts) (hid : Fits32 id) (hs : ∀ t ∈ ts, Small t) :
    Calls Tryd.prog 20 #[p, .int .u32 id] w fun e w' => ∃ L', e = .returned (.tuple #[.agg L'.toArray, .bool (findT ts id).isSome]) ∧ TenIn w.heap.size w' L' ((findT ts id).getD ten0) ∧ Below w.heap.size w w' ∧ KL w.heap.size w' L' := by
  obtain ⟨q, hq⟩ : ∃ q, q = w.heap.size := ⟨_, rfl⟩
  obtain ⟨g, b, n, hp, h1, h2, h3, h4⟩ := h
  subst hp
  have bw : Below w.heap.size w (w.alloc (.cells #[.int .u32 0, .slice none 0 0, .int .u64 0, .int .u64 0, .slice none 0 0] 49)) := (Below.refl _ _).alloc (Nat.le_refl _) _
  obtain ⟨t, ka, kn, kc, ga, gn, gc, ht, hT, hrun⟩ := look_any (h4.keeps (Keeps.of_below bw) h2) hid
  have hc := cell_keep h3 bw (old_block h3)
  obtain ⟨B, hB⟩ : ∃ B, B = (findT ts id).isSome := ⟨_, rfl⟩
  rw [← hB] at hrun ⊢
  have H : Hid (q = w.heap.size ∧ t = (findT ts id).getD ten0 ∧ Small t) := ⟨hq, ht, by rw [ht]; exact small_find hs id⟩
  rw [← ht]
  clear h1 h2 h3 h4 hs ht hB
  rw [← hq] at bw ⊢
  have b0 : Blk (w.alloc (.cells #[.int .u32 0, .slice none 0 0, .int .u64 0, .int .u64 0, .slice none 0 0] 49)) q ten0L 49 := Blk.new' hq.symm rfl
  have sv : (w.alloc (.cells #[.int .u32 0, .slice none 0 0, .int .u64 0, .int .u64 0, .slice none 0 0] 49)).heap.size = q + 1 := by simp [hq]
  go_enter Tryd.func20, Tryd.ntmps20
  go_upto_region 1 with fail
  generalize hV : World.alloc w _ = V at hT hrun hc b0 sv bw ⊢
  rw [← hq]
  have HS : Hid (V.heap.size = q + 1 ∧ Blk V q ten0L 49 ∧ Below q w V ∧ TenIn lo V (tenL t ka kn kc ga gn gc) t) := ⟨sv, b0, bw, hT⟩
  clear sv hV hq b0 bw hT
  go_upto_region 2 with (refine wpList_store_mid rfl 49 (.tmp 6) (.tmp 15) rfl V.heap.size 0 (tenL t ka kn kc ga gn gc).toArray rfl rfl ?hT (ten_size _ _ _ _ _ _ _) (ten_all _ _ _ _ _ _ _) ?_; (case hT => exact ten_there _))
  generalize hU : World.setCells _ _ _ _ = U
  have pu : Blk U V.heap.size (tenL t ka kn kc ga gn gc) 49 ∧ Below V.heap.size V U := by
    rw [← hU]
    exact ⟨(Blk.new' (L := ten0L) rfl rfl).setAll (by rfl), below_setCells (Nat.le_refl _) _ _ _ ((Below.refl _ _).alloc (Nat.le_refl _) _)⟩
  obtain ⟨u0, u1⟩ := pu
  have HU : Hid (Blk U q ten0L 49 ∧ Below q w U ∧ q ≤ U.heap.size) := by
    have hs := HS.out.1
    exact ⟨HS.out.2.1.below u1 (by omega), HS.out.2.2.1.trans (u1.mono (by omega)), by have := u1.size; omega⟩
  have CC := copied_of2 lo (tenL t ka kn kc ga gn gc) t U (HS.out.2.2.2.below u1) H.out.2.2.1 H.out.2.2.2
  clear hU u1 hrun hc
  go_upto_region 2 with fail
  go_wp2_with (first
    | (refine wpList_load_mid rfl 49 (.tmp 6) rfl V.heap.size 0 rfl _ _ u0.whole Tryd.underlying49 rfl Tryd.info_tenant ?_)
    | (go_at_call 34; refine CC.mono ?_; rintro e w2 ⟨L2, rfl, hT2, b2, kl2⟩; obtain ⟨ka2, kn2, kc2, ga2, gn2, gc2, hL2, _⟩ := _root_.id hT2; subst hL2; have r2 := HU.out.1.below b2 HU.out.1.lt)
    | (refine wpList_store_mid rfl 49 (.tmp 4) (.tmp 18) rfl q 0 (tenL t ka2 kn2 kc2 ga2 gn2 gc2).toArray rfl rfl ?hT (ten_size _ _ _ _ _ _ _) (ten_all _ _ _ _ _ _ _) ?_; (case hT => exact r2.there 0 5 (by decide))))
  have b3 := r2.setAll (vs := tenL t ka2 kn2 kc2 ga2 gn2 gc2) (by rfl)
  refine bodyPost_ret (v := .tuple #[.agg (tenL t ka2 kn2 kc2 ga2 gn2 gc2).toArray, .bool B]) (results_cell_two (p := 4) (u := 5) (ty := 49) rfl _ _ q _ _ _ rfl b3 Tryd.underlying49 rfl Tryd.info_tenant _ rfl) rfl ⟨_, rfl, ?_, ?_, ?_⟩
  · refine (hT2.keeps (fun x hx hlt => World.heap_setCells_other w2 q 0 _ hlt ?_)).lower HU.out.2.2
    have := HU.out.1.lt
    omega
  · exact below_setCells (Nat.le_refl _) _ _ _ (HU.out.2.1.trans (b2.mono HU.out.2.2))
  · refine (kl2.keep (fun x hx hlt => World.heap_setCells_other w2 q 0 _ hlt ?_)).lower HU.out.2.2
    have := HU.out.1.lt
    omega
end Go.Proofs.YtpliokkmiijieaaDoor
namespace Go.Proofs.YtpliokkmiijieaaDoor
open Go.RowKit
set_option linter.unusedVariables false
set_option maxRecDepth 4000

def KeyS (lo hi : Nat) (w : World) (ka : Option Addr) (kn : Nat) : Prop :=
  kn = 0 ∨ ∃ kb ko, ka = some ⟨kb, ko, none⟩ ∧ lo ≤ kb ∧ kb < hi ∧ (∀ j, w.frozen? ⟨kb, j, none⟩ = false) ∧ ∀ j, j < kn → ∃ x, w.cell? ⟨kb, ko + j, none⟩ = some (.int .u8 x) ∧ Fits8 x
def RowS (lo hi : Nat) (w : World) (A : Option Addr) (n : Nat) : Prop :=
  n = 0 ∨ ∃ g off, A = some ⟨g, off, none⟩ ∧ lo ≤ g ∧ g < hi ∧ (∀ j, w.frozen? ⟨g, j, none⟩ = false) ∧
    ∀ r, r < n → ∃ ka kn kc qu, w.cell? ⟨g, off + r * 5 + 1, none⟩ = some (.slice ka kn kc) ∧ w.cell? ⟨g, off + r * 5 + 2, none⟩ = some (.int .u64 qu) ∧ (0 ≤ qu ∧ qu < 18446744073709551616) ∧ kn ≤ 1000 ∧ KeyS lo hi w ka kn
theorem set_kind {w : World} {p c : Addr} {k : IntKind} {x y : Int} {v : Value} (hp : w.cell? p = some (.int k x)) (hc : w.cell? c = some v) :
    (w.setCell p (.int k y)).cell? c = some v ∨ (p = c ∧ v = .int k x ∧ (w.setCell p (.int k y)).cell? c = some (.int k y)) := by
  by_cases h : p = c
  · subst h
    rw [hp] at hc
    exact .inr ⟨rfl, (Option.some.inj hc).symm, by apply World.cell?_setCell_same; exact hp⟩
  · exact .inl ((by apply World.cell?_setCell_other; exact h : (w.setCell p (.int k y)).cell? c = w.cell? c).trans hc)
theorem KeyS.set {lo hi : Nat} {w : World} {ka : Option Addr} {kn : Nat} (h : KeyS lo hi w ka kn) {p : Addr} {k : IntKind} {x y : Int} (hp : w.cell? p = some (.int k x)) (hy : k = .u8 → Fits8 y) : KeyS lo hi (w.setCell p (.int k y)) ka kn := by
  rcases h with h | ⟨kb, ko, h1, h2, h3, h4, h5⟩
  · exact .inl h
  · refine .inr ⟨kb, ko, h1, h2, h3, fun j => by rw [World.frozen?_setCell]; exact h4 j, fun j hj => ?_⟩
    obtain ⟨z, hz, fz⟩ := h5 j hj
    rcases set_kind (y := y) hp hz with h | ⟨_, hv, h⟩
    · exact ⟨z, h, fz⟩
    · injection hv with e1 e2
      subst e1
      exact ⟨y, h, hy rfl⟩
theorem RowS.set {lo hi : Nat} {w : World} {A : Option Addr} {n : Nat} (h : RowS lo hi w A n) {p : Addr} {k : IntKind} {x y : Int} (hp : w.cell? p = some (.int k x)) (hy : k = .u8 → Fits8 y) (hq : k = .u64 → 0 ≤ y ∧ y < 18446744073709551616) : RowS lo hi (w.setCell p (.int k y)) A n := by
  rcases h with h | ⟨g, off, h1, h2, h3, h4, h5⟩
  · exact .inl h
  · refine .inr ⟨g, off, h1, h2, h3, fun j => by rw [World.frozen?_setCell]; exact h4 j, fun r hr => ?_⟩
    obtain ⟨ka, kn, kc, qu, c1, c2, fq, hk, hK⟩ := h5 r hr
    have d1 : (w.setCell p (.int k y)).cell? ⟨g, off + r * 5 + 1, none⟩ = some (.slice ka kn kc) := by
      rcases set_kind (y := y) hp c1 with h | ⟨_, hv, _⟩
      · exact h
      · cases hv
    rcases set_kind (y := y) hp c2 with h | ⟨_, hv, h⟩
    · exact ⟨ka, kn, kc, qu, d1, h, fq, hk, hK.set hp hy⟩
    · injection hv with e1 e2
      subst e1
      exact ⟨ka, kn, kc, y, d1, h, hq rfl, hk, hK.set hp hy⟩
theorem KeyS.below {lo hi : Nat} {w w' : World} {ka : Option Addr} {kn : Nat} (h : KeyS lo hi w ka kn) (hk : ∀ b, lo ≤ b → b < hi → w'.heap[b]? = w.heap[b]?) : KeyS lo hi w' ka kn := by
  rcases h with h | ⟨kb, ko, h1, h2, h3, h4, h5⟩
  · exact .inl h
  · refine .inr ⟨kb, ko, h1, h2, h3, fun j => by rw [World.frozen?_of_block (hk kb h2 h3)]; exact h4 j, fun j hj => ?_⟩
    obtain ⟨z, hz, fz⟩ := h5 j hj
    exact ⟨z, by rw [World.cell?_of_block (hk kb h2 h3)]; exact hz, fz⟩
theorem RowS.below {lo hi : Nat} {w w' : World} {A : Option Addr} {n : Nat} (h : RowS lo hi w A n) (hk : ∀ b, lo ≤ b → b < hi → w'.heap[b]? = w.heap[b]?) : RowS lo hi w' A n := by
  rcases h with h | ⟨g, off, h1, h2, h3, h4, h5⟩
  · exact .inl h
  · refine .inr ⟨g, off, h1, h2, h3, fun j => by rw [World.frozen?_of_block (hk g h2 h3)]; exact h4 j, fun r hr => ?_⟩
    obtain ⟨ka, kn, kc, qu, c1, c2, fq, hkn, hK⟩ := h5 r hr
    exact ⟨ka, kn, kc, qu, by rw [World.cell?_of_block (hk g h2 h3)]; exact c1, by rw [World.cell?_of_block (hk g h2 h3)]; exact c2, fq, hkn, hK.below hk⟩
theorem block_loose {w : World} {b j : Nat} {cur : Array Value} {e : TypeId} (h : w.heap[b]? = some (.cells cur e (0, 0))) : w.frozen? ⟨b, j, none⟩ = false := by
  have : Blk w b cur.toList e := by unfold Blk; rw [h]
  exact this.frozen j
theorem rowS_of {w : World} {lo : Nat} {A : Option Addr} {n c : Nat} {C : List Value} {ts : List Ten} (hown : w.ownsRow lo 49 5 (.slice A n c) n C) (hT : TsC lo w C ts) (hL : Lab lo w C) (hs : ∀ t ∈ ts, Small t) : RowS lo w.heap.size w A n := by
  have hn : ts.length = n := by have := hown.1; rw [hT.1] at this; omega
  rcases hown.2 with ⟨hv, h0⟩ | ⟨g, cap, cur, hv, hb, hg, hc, hcm, hsz, htake⟩
  · exact .inl h0
  · cases hv
    refine .inr ⟨g, 0, rfl, hb, (Array.getElem?_eq_some_iff.1 hg).1, fun j => block_loose hg, fun r hr => ?_⟩
    obtain ⟨t, ht⟩ : ∃ t, ts[r]? = some t := ⟨_, List.getElem?_eq_getElem (by omega)⟩
    obtain ⟨ka, kn, kc, ga, gn, gc, hTL, ⟨k1, k2, k3, k4⟩, _, hf⟩ := hT.2.2 r t ht
    have at5 : ∀ j v, (tenL t ka kn kc ga gn gc)[j]? = some v → C[r * 5 + j]? = some v := fun j v hv => by
      rw [← hTL] at hv
      have hj := (List.getElem?_eq_some_iff.1 hv).1
      have hj5 : j < 5 := by simp at hj; omega
      rw [List.getElem?_take_of_lt hj5, List.getElem?_drop] at hv
      exact hv
    have cel : ∀ j v, (tenL t ka kn kc ga gn gc)[j]? = some v → w.cell? ⟨g, 0 + r * 5 + j, none⟩ = some v := fun j v hv => by
      have := hown.cells (g := g) rfl _ v (at5 j v hv)
      rw [Addr.add_mid] at this
      rw [show 0 + r * 5 + j = 0 + (r * 5 + j) by omega]
      exact this
    refine ⟨ka, kn, kc, t.quota, cel 1 _ rfl, cel 2 _ rfl, hf.2.1, by rw [← k1.1]; exact (hs t (List.mem_of_getElem? ht)).1, ?_⟩
    rcases k1.2.2.2 with h0 | ⟨b, off, ha, hcell⟩
    · exact .inl h0
    · subst ha
      rcases hL (.slice (some ⟨b, off, none⟩) kn kc) (List.mem_of_getElem? (at5 1 _ rfl)) _ _ _ rfl with h0 | ⟨cur', e, hl, h1, _⟩
      · exact .inl h0
      · exact .inr ⟨b, off, rfl, hl, (Array.getElem?_eq_some_iff.1 h1).1, fun j => block_loose h1, fun j hj => ⟨_, hcell j hj, k1.2.2.1 _ (by
          have : j < t.key.length := by rw [k1.1]; exact hj
          simp [List.getD, this])⟩⟩
/-- What writing over the lent tenants leaves. -/
def Mut (q lo hi : Nat) (w u : World) (A : Option Addr) (n : Nat) (wr : World) : Prop :=
  Below q w wr ∧ (∀ b, b < lo ∨ hi ≤ b → wr.heap[b]? = u.heap[b]?) ∧ wr.heap.size = u.heap.size ∧ RowS lo hi wr A n
theorem Mut.drewN {q lo hi : Nat} {w u : World} {A : Option Addr} {n : Nat} {wr : World} (h : Mut q lo hi w u A n wr) (d : Nat) : Mut q lo hi w u A n (wr.drewN d) :=
  ⟨below_drewN h.1 d, h.2.1, h.2.2.1, h.2.2.2.below fun _ _ _ => rfl⟩
theorem Mut.set {q lo hi : Nat} {w u : World} {A : Option Addr} {n : Nat} {wr : World} (h : Mut q lo hi w u A n wr) (hql : q ≤ lo) {p : Addr} {k : IntKind} {x y : Int} (hp : wr.cell? p = some (.int k x)) (hb1 : lo ≤ p.block) (hb2 : p.block < hi) (hy : k = .u8 → Fits8 y) (hq : k = .u64 → 0 ≤ y ∧ y < 18446744073709551616) : Mut q lo hi w u A n (wr.setCell p (.int k y)) := by
  obtain ⟨h1, h2, h3, h4⟩ := h
  refine ⟨h1.setCell (by omega) _, fun b hb => ?_, by rw [← h3]; simp [World.setCell], h4.set hp hy hq⟩
  rw [Below.heap_setCell _ _ _ b (by omega)]
  exact h2 b hb
theorem checkI_code (ts : List Ten) (cs : List Int) : 0 ≤ (checkI ts cs).2 ∧ (checkI ts cs).2 ≤ 54 := by
  unfold checkI
  split
  · cases findT ts (lookI cs).tenant with
    | none => exact ⟨show (0 : Int) ≤ 51 by decide, show (51 : Int) ≤ 54 by decide⟩
    | some t =>
      rw [check_is]
      split
      · exact ⟨by decide, by decide⟩
      · split
        · exact ⟨show (0 : Int) ≤ 0 by decide, show (0 : Int) ≤ 54 by decide⟩
        · show 0 ≤ refE t _ ∧ refE t _ ≤ 54
          rcases refEis t (lookI cs) with h | h | h <;> rw [h] <;> decide
  · exact ⟨by decide, by decide⟩
end Go.Proofs.YtpliokkmiijieaaDoor
