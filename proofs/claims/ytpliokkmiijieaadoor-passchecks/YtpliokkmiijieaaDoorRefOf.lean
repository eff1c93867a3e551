/- What one call of the document's Of does: the same tag; nothing that was there is touched. -/
import Derived.Test.YtpliokkmiijieaaDoorFar
namespace Go.Proofs.YtpliokkmiijieaaDoor
open Go.RowKit
set_option linter.unusedVariables false
set_option maxRecDepth 4000

theorem fill_is (zs : List Int) : fillI zs = zs ++ List.replicate (64 - zs.length) 0 := by simp [fillI, splice, -List.reduceReplicate]
theorem xor_next1 {p : Int} {K : List Int} {j : Nat} (hj : j < K.length) : xorI p (K.take j) ++ [bits .xor .u8 (K.getD j 0) p] = xorI p (K.take (j + 1)) := by
  have e2 : K.getD j 0 = K[j] := by simp [List.getD, hj]
  rw [List.take_succ_eq_append_getElem hj, e2]
  unfold xorI
  rw [List.map_append]
  rfl
theorem of_flat (X Y : List Int) : ofI X Y = sumI (takeI st0 (xorI 92 (keyI X) ++ sumI (takeI st0 (xorI 54 (keyI X) ++ Y)))) := by
  unfold ofI innerI; rw [takeI_append, takeI_append]

set_option maxHeartbeats 1500000 in
theorem refOf_of (a : Option Addr) (n c : Nat) (X : List Int) (b : Option Addr) (m d : Nat) (Y : List Int) (w : World) (hx : BIn w a n X) (hxn : a = none → n = 0 ∧ c = 0) (hy : BIn w b m Y) (hyn : b = none → m = 0 ∧ d = 0) (hn : n ≤ 90000) (hm : m ≤ 90000) :
    Calls Tryd.prog 27 #[.slice a n c, .slice b m d] w fun e w' => e = .returned (.agg (u8s (ofI X Y)).toArray) ∧ Below w.heap.size w w' := by
  have H : Hid ((BIn w a n X ∧ (a = none → n = 0 ∧ c = 0)) ∧ BIn w b m Y ∧ (b = none → m = 0 ∧ d = 0)) := ⟨⟨hx, hxn⟩, hy, hyn⟩
  clear hx hxn hy hyn
  obtain ⟨S, hS⟩ : ∃ S, S = shortI X := ⟨_, rfl⟩
  obtain ⟨N0, hN0⟩ : ∃ N0, N0 = S.length := ⟨_, rfl⟩
  have HS : Hid (S = shortI X ∧ S.length = N0 ∧ N0 ≤ 64 ∧ ∀ z ∈ S, Fits8 z) := ⟨hS, hN0.symm, by rw [hN0, hS]; exact shortI_length X, by rw [hS]; exact shortI_fits H.out.1.1.2.2.1⟩
  clear hS hN0
  go_enter Tryd.func27, Tryd.ntmps27
  go_upto_region 1 with fail
  generalize hV : World.alloc _ _ = V
  obtain ⟨q, hq⟩ : ∃ q, q = w.heap.size := ⟨_, rfl⟩
  have pv : Blk V q (u8s (List.replicate 32 0)) 59 ∧ Below q w V ∧ V.heap.size = q + 1 := by
    rw [← hV, hq]
    exact ⟨Blk.new' rfl (by kernel_rfl), (Below.refl _ _).alloc (by omega) _, by simp⟩
  rw [← hq]
  have HQ : Hid (q = w.heap.size) := hq
  clear hV hq
  obtain ⟨p0, p1, p2⟩ := pv
  by_cases hgt : (64 : Int) < n
  · have HV : Hid (BIn V a n X) := H.out.1.1.below (by rw [← HQ.out]; exact p1)
    have HD : Hid (S = sumI (takeI st0 X) ∧ S.length = 32) := by
      have e : S = sumI (takeI st0 X) := by rw [HS.out.1, shortI, if_pos (by rw [H.out.1.1.1]; omega)]
      exact ⟨e, by rw [e, sumI_length]⟩
    have h32 : N0 = 32 := by rw [← HS.out.2.1]; exact HD.out.2
    subst h32
    have hin : (Tryd.prog.info? 59).map (·.size) = some (u8s S).length := by rw [u8s_length, HD.out.2]; exact Tryd.info_digest
    go_upto_region 4 with (first
      | (go_at_call 47; refine (refdig_of a n c X V HV.out H.out.1.2 (by omega)).mono ?_; rintro e v2 ⟨rfl, b2⟩; rw [← HD.out.1])
      | (refine wpList_store_mid rfl 59 (.tmp 6) (.tmp 15) rfl v2.heap.size 0 (u8s S).toArray rfl rfl ((Blk.new' (L := u8s (List.replicate 32 0)) rfl (by kernel_rfl)).there 0 _ (by simp [u8s_length, HD.out.2])) (by simpa using hin) (all_oneCell_toArray (u8s_one _)) ?_))
    generalize hU : World.setCells _ _ _ _ = U
    obtain ⟨y, hy⟩ : ∃ y, y = v2.heap.size := ⟨_, rfl⟩
    rw [← hy]
    have pu : Blk U q (u8s (List.replicate 32 0)) 59 ∧ BIn U (some ⟨y, 0, none⟩) 32 S ∧ Below q w U ∧ q + 1 ≤ U.heap.size := by
      have hsz := b2.size
      have l := p0.lt
      have hbk : Blk U y (u8s S) 59 := by rw [← hU, hy]; exact (Blk.new' (L := u8s (List.replicate 32 0)) rfl (by kernel_rfl)).setAll (by simp [u8s_length, HD.out.2])
      refine ⟨by rw [← hU]; exact ((p0.below b2 l).alloc _).setCells_other (by omega) _ _, ?_, by rw [← hU]; exact below_setCells (by omega) _ _ _ ((p1.trans (b2.mono (by omega))).alloc (by omega) _), by have := hbk.lt; omega⟩
      have := hbk.bin HS.out.2.2.2 (by rw [HD.out.2]; unfold maxLen; omega)
      rwa [HD.out.2] at this
    have hsl := fun w => run_whole (P := Tryd.prog) Tryd.underlying59 Tryd.byte1 w y 0 (by omega)
    clear hU hy b2 p0 p1 p2 HV hin
    obtain ⟨u0, u1, u2, u3⟩ := pu
    go_upto_region 6 with (at_builtin; refine wpList_append_bin rfl (.tmp 16) (.tmp 17) rfl (q + 1) none 0 0 [] rfl (World.ownsRow_nil _ _ _ _) (some ⟨y, 0, none⟩) 32 32 S rfl u1 (fun h => by cases h) (by omega) u3 ?_; intro A C v3 ow3 bu3; simp only [Nat.zero_add, List.nil_append] at ow3 ⊢)
    have k0 : Blk v3 q (u8s (List.replicate 32 0)) 59 := u0.below bu3 (by omega)
    have k1 : Below q w v3 := u2.trans (bu3.mono (by omega))
    have k2 : q + 1 ≤ v3.heap.size := by have := bu3.size; omega
    clear u0 u1 u2 u3 bu3
    go_wp2
    go_loopw [5] (fun k wr => ∃ (j : Nat) (A : Option Addr) (N C : Nat), k = .slice A N C ∧ N = 32 + j ∧ N ≤ 64 ∧ wr.ownsRow (q + 1) 5 1 (.slice A N C) N (u8s (S ++ List.replicate j 0)) ∧ Blk wr q (u8s (List.replicate 32 0)) 59 ∧ Below q w wr ∧ q + 1 ≤ wr.heap.size)
      (fun k _ => 64 - lenOf k)
    case atStart => exact ⟨0, A, 32, C, rfl, by omega, by have := HS.out.2.2.1; omega, by simpa using ow3, k0, k1, k2⟩
    case round =>
      clear ow3 k0 k1 k2
      obtain ⟨j, A, N, C, rfl, hN, hN64, how, b0, hb, hsz⟩ := hrel
      have HE : Hid (N = 32 + j) := hN
      clear hN
      by_cases hlt : N < 64
      · have hlt' : (N : Int) < 64 := by omega
        have HO : Hid (wr.ownsRow (q + 1) 5 1 (.slice A N C) N (u8s (S ++ List.replicate j 0)) ∧ q + 1 ≤ wr.heap.size) := ⟨how, hsz⟩
        go_wp2_with (at_builtin; refine wpList_append_bin rfl (.tmp 25) (.tmp 26) rfl (q + 1) A N C (S ++ List.replicate j 0) rfl (HO.out.1.alloc _) (some ⟨wr.heap.size, 0, none⟩) 1 1 [0] rfl (new_bin rfl rfl rfl (by simp [Fits8]) (by unfold maxLen; omega)) (fun h => by cases h) (by omega) (by have := HO.out.2; simp; omega) ?_; intro A2 C2 u2 ow2 bu2)
        have ow4 : u2.ownsRow (q + 1) 5 1 (.slice A2 (N + 1) C2) (N + 1) (u8s (S ++ List.replicate (j + 1) 0)) := by
          have e : S ++ List.replicate (j + 1) 0 = S ++ List.replicate j 0 ++ [0] := by rw [List.append_assoc, ← List.replicate_succ']
          rw [e]; exact ow2
        have b4 : Below (q + 1) wr u2 := ((Below.refl _ _).alloc hsz _).trans bu2
        go_roundw
        case rel => exact ⟨j + 1, A2, N + 1, C2, rfl, by have := HE.out; omega, by omega, ow4, b0.below b4 (by omega), hb.trans (b4.mono (by omega)), by have := b4.size; omega⟩
        case measure => simp [lenOf]; omega
      · have h64 : N = 64 := by omega
        subst h64
        obtain ⟨wk, rfl⟩ : ∃ wk, wk = wr := ⟨_, rfl⟩
        obtain ⟨K, hK⟩ : ∃ K, K = S ++ List.replicate j 0 := ⟨_, rfl⟩
        rw [← hK] at how
        have HK : Hid (K = keyI X ∧ K.length = 64 ∧ ∀ z ∈ K, Fits8 z) := by
          have e : K = keyI X := by
            rw [hK, keyI, ← HS.out.1, fill_is, HS.out.2.1]
            have := HE.out
            congr 2; omega
          exact ⟨e, by rw [e, keyI_length], by rw [e]; exact keyI_fits H.out.1.1.2.2.1⟩
        have hbk := own_bin how (by unfold maxLen; omega) HK.out.2.2
        obtain ⟨kb, ko, hA, hcell⟩ := hbk.2.2.2.resolve_left (by omega)
        subst hA
        have HC : Hid (∀ i, i < 64 → wk.cell? ⟨kb, ko + i, none⟩ = some (.int .u8 (K.getD i 0))) := hcell
        obtain ⟨p, hp⟩ : ∃ p, p = wk.heap.size := ⟨_, rfl⟩
        have HP : Hid (p = wk.heap.size ∧ q + 1 ≤ p ∧ Blk wk q (u8s (List.replicate 32 0)) 59 ∧ Below q w wk) := ⟨hp, by omega, b0, hb⟩
        clear hK how hbk hcell hp b0 hb hsz
        go_wp2
        go_loopw [7, 8, 9] (fun v1 v2 i wq => ∃ (t : Nat) (A1 : Option Addr) (C1 : Nat) (A2 : Option Addr) (C2 : Nat), t ≤ 64 ∧ i = .int .i64 t ∧ v1 = .slice A1 t C1 ∧ v2 = .slice A2 t C2 ∧ Two wq p (.slice A1 t C1) t (xorI 54 (K.take t)) (.slice A2 t C2) t (xorI 92 (K.take t)) ∧ Below p wk wq ∧ p ≤ wq.heap.size)
          (fun _ _ i _ => 64 - (intOf i).toNat)
        case atStart => exact ⟨0, none, 0, none, 0, by omega, rfl, rfl, rfl, ⟨World.ownsRow_nil _ _ _ _, World.ownsRow_nil _ _ _ _, fun g hg => by cases hg⟩, Below.refl _ _, by rw [HP.out.1]; exact Nat.le_refl _⟩
        case round =>
          obtain ⟨t, A1, C1, A2, C2, ht, rfl, rfl, rfl, hT, hb, hsz⟩ := hrel
          have HT : Hid (Two wr p (.slice A1 t C1) t (xorI 54 (K.take t)) (.slice A2 t C2) t (xorI 92 (K.take t)) ∧ Below p wk wr ∧ p ≤ wr.heap.size) := ⟨hT, hb, hsz⟩
          clear hT hb hsz
          by_cases hlt : t < 64
          · have hlt' : (t : Int) < 64 := by omega
            have hc1 := HC.out t hlt
            have hc : wr.cell? ⟨kb, ko + t, none⟩ = some (.int .u8 (K.getD t 0)) := by rw [HT.out.2.1.cell (by rw [HP.out.1]; exact old_block hc1)]; exact hc1
            have HB : Hid (kb < p) := by
              show _ < _
              rw [HP.out.1]; exact old_block hc1
            clear hc1
            obtain ⟨x, hx⟩ : ∃ x, x = K.getD t 0 := ⟨_, rfl⟩
            have HX : Hid (x = K.getD t 0 ∧ Fits8 x) := ⟨hx, by rw [hx]; exact byte_in HK.out.2.2 t⟩
            rw [← hx] at hc
            clear hx
            go_upto_region 13 with (at_builtin; refine wpList_append_far rfl (.tmp 32) (.tmp 38) rfl p A1 t C1 (xorI 54 (K.take t)) rfl (HT.out.1.1.alloc _) (some ⟨wr.heap.size, 0, none⟩) 1 1 [bits .xor .u8 x 54] rfl (new_bin rfl rfl rfl (by simpa using xor8_fits HX.out.2 (by unfold Fits8; omega)) (by unfold maxLen; omega)) (fun h => by cases h) (by omega) (by have := HT.out.2.2; simp; omega) ?_; intro A1' C1' u1 ow1 gr1 fr1)
            have T1 : Two u1 p (.slice A1' (t + 1) C1') (t + 1) (xorI 54 (K.take (t + 1))) (.slice A2 t C2) t (xorI 92 (K.take t)) := by
              rw [← xor_next1 (by rw [HK.out.2.1]; exact hlt), ← HX.out.1]
              exact (HT.out.1.alloc _).first ow1 gr1 fr1
            have B1 : Below p wk u1 := (HT.out.1.alloc _).grows (HT.out.2.1.alloc HT.out.2.2 _) gr1 (by have := HT.out.2.2; simp; omega)
            have z1 : p ≤ u1.heap.size := by have := B1.size; have := HP.out.1; omega
            have hc2 : u1.cell? ⟨kb, ko + t, none⟩ = some (.int .u8 x) := by
              have h1 := HC.out t hlt
              rw [← HX.out.1] at h1
              rw [B1.cell (by exact HB.out)]; exact h1
            have HW : Hid (Two u1 p (.slice A1' (t + 1) C1') (t + 1) (xorI 54 (K.take (t + 1))) (.slice A2 t C2) t (xorI 92 (K.take t)) ∧ Below p wk u1 ∧ p ≤ u1.heap.size) := ⟨T1, B1, z1⟩
            clear ow1 gr1 fr1 T1 B1 z1 hc
            go_wp2_with (at_builtin; refine wpList_append_far rfl (.tmp 40) (.tmp 46) rfl p A2 t C2 (xorI 92 (K.take t)) rfl (HW.out.1.2.1.alloc _) (some ⟨u1.heap.size, 0, none⟩) 1 1 [bits .xor .u8 x 92] rfl (new_bin rfl rfl rfl (by simpa using xor8_fits HX.out.2 (by unfold Fits8; omega)) (by unfold maxLen; omega)) (fun h => by cases h) (by omega) (by have := HW.out.2.2; simp; omega) ?_; intro A2' C2' u2 ow2 gr2 fr2)
            have T2 : Two u2 p (.slice A1' (t + 1) C1') (t + 1) (xorI 54 (K.take (t + 1))) (.slice A2' (t + 1) C2') (t + 1) (xorI 92 (K.take (t + 1))) := by
              have := ((HW.out.1.alloc (.cells #[.int .u8 (bits .xor .u8 x 92)] 5)).swap.first ow2 gr2 fr2).swap
              rw [HX.out.1, xor_next1 (by rw [HK.out.2.1]; exact hlt)] at this
              exact this
            have B2 : Below p wk u2 := (HW.out.1.alloc _).swap.grows (HW.out.2.1.alloc HW.out.2.2 _) gr2 (by have := HW.out.2.2; simp; omega)
            have z2 : p ≤ u2.heap.size := by have := B2.size; have := HP.out.1; omega
            go_roundw
            case rel => exact ⟨t + 1, A1', C1', A2', C2', by omega, by go_num, rfl, rfl, T2, B2, z2⟩
            case measure => simp [intOf]; omega
          · have hge : (64 : Int) ≤ t := by omega
            obtain ⟨I, hI⟩ : ∃ I, I = xorI 54 K := ⟨_, rfl⟩
            obtain ⟨J, hJ⟩ : ∃ J, J = xorI 92 K := ⟨_, rfl⟩
            have HI : Hid (I = xorI 54 K ∧ J = xorI 92 K ∧ (∀ z ∈ I, Fits8 z) ∧ (∀ z ∈ J, Fits8 z) ∧ I.length = 64 ∧ J.length = 64) := ⟨hI, hJ, by rw [hI]; exact xorI_fits (by unfold Fits8; omega) HK.out.2.2, by rw [hJ]; exact xorI_fits (by unfold Fits8; omega) HK.out.2.2, by rw [hI, xorI_length, HK.out.2.1], by rw [hJ, xorI_length, HK.out.2.1]⟩
            have HT2 : Hid (Two wr p (.slice A1 t C1) t I (.slice A2 t C2) t J ∧ Blk wr q (u8s (List.replicate 32 0)) 59 ∧ Below q w wr ∧ p ≤ wr.heap.size ∧ BIn wr b m Y) := by
              have e : K.take t = K := List.take_of_length_le (by rw [HK.out.2.1]; omega)
              have h1 := HT.out
              rw [e, ← hI, ← hJ] at h1
              have hb : Below q w wr := HP.out.2.2.2.trans (h1.2.1.mono (by have := HP.out.2.1; omega))
              exact ⟨h1.1, HP.out.2.2.1.below h1.2.1 (by have := HP.out.2.1; omega), hb, h1.2.2, H.out.2.1.below (by rw [← HQ.out]; exact hb)⟩
            clear hI hJ HT
            go_upto_region 15 with (at_builtin; refine wpList_append_far rfl (.tmp 48) (.tmp 49) rfl p A1 t C1 I rfl HT2.out.1.1 b m d Y rfl HT2.out.2.2.2.2 H.out.2.2 (by omega) HT2.out.2.2.2.1 ?_; intro A1' C1' u1 ow1 gr1 fr1)
            have T1 := HT2.out.1.first ow1 gr1 fr1
            have B1 : Below p wr u1 := HT2.out.1.grows (Below.refl _ _) gr1 HT2.out.2.2.2.1
            obtain ⟨R, hR⟩ : ∃ R, R = sumI (takeI st0 (I ++ Y)) := ⟨_, rfl⟩
            have HR : Hid (R = sumI (takeI st0 (I ++ Y)) ∧ R.length = 32 ∧ (∀ z ∈ R, Fits8 z)) := ⟨hR, by rw [hR, sumI_length], by rw [hR]; exact sumI_fits _⟩
            have hir : (Tryd.prog.info? 59).map (·.size) = some (u8s R).length := by rw [u8s_length, HR.out.2.1]; exact Tryd.info_digest
            have HU : Hid (Two u1 p (.slice A1' (t + m) C1') (t + m) (I ++ Y) (.slice A2 t C2) t J ∧ Blk u1 q (u8s (List.replicate 32 0)) 59 ∧ Below q w u1 ∧ BIn u1 A1' (t + m) (I ++ Y) ∧ (A1' = none → t + m = 0 ∧ C1' = 0)) := by
              have hq1 := HP.out.2.1
              refine ⟨T1, HT2.out.2.1.below B1 (by omega), HT2.out.2.2.1.trans (B1.mono (by omega)), own_bin ow1 (by unfold maxLen; omega) ?_, own_nil ow1⟩
              intro z hz
              rcases List.mem_append.1 hz with h | h
              · exact HI.out.2.2.1 z h
              · exact H.out.2.1.2.2.1 z h
            clear hR ow1 gr1 fr1 T1 B1
            go_upto_region 16 with (first
              | (go_at_call 47; refine (refdig_of A1' (t + m) C1' (I ++ Y) u1 HU.out.2.2.2.1 HU.out.2.2.2.2 (by omega)).mono ?_; rintro e u2 ⟨rfl, b2⟩; rw [← HR.out.1])
              | (refine wpList_store_mid rfl 59 (.tmp 10) (.tmp 52) rfl u2.heap.size 0 (u8s R).toArray rfl rfl ((Blk.new' (L := u8s (List.replicate 32 0)) rfl (by kernel_rfl)).there 0 _ (by simp [u8s_length, HR.out.2.1])) (by simpa using hir) (all_oneCell_toArray (u8s_one _)) ?_))
            generalize hX2 : World.setCells _ _ _ _ = x2
            obtain ⟨y2, hy2⟩ : ∃ y2, y2 = u2.heap.size := ⟨_, rfl⟩
            rw [← hy2]
            have HX2 : Hid (x2.ownsRow p 5 1 (.slice A2 t C2) t (u8s J) ∧ Blk x2 q (u8s (List.replicate 32 0)) 59 ∧ Below q w x2 ∧ BIn x2 (some ⟨y2, 0, none⟩) 32 R ∧ p ≤ x2.heap.size) := by
              have hsz := b2.size
              have l := HU.out.2.1.lt
              have hB : Below u1.heap.size u1 x2 := by rw [← hX2]; exact below_setCells (by omega) _ _ _ (b2.alloc (by omega) _)
              have hbk : Blk x2 y2 (u8s R) 59 := by rw [← hX2, hy2]; exact (Blk.new' (L := u8s (List.replicate 32 0)) rfl (by kernel_rfl)).setAll (by simp [u8s_length, HR.out.2.1])
              have hbin := hbk.bin HR.out.2.2 (by rw [HR.out.2.1]; unfold maxLen; omega)
              rw [HR.out.2.1] at hbin
              refine ⟨own_below HU.out.1.2.1 hB, HU.out.2.1.below hB l, HU.out.2.2.1.trans (hB.mono (by omega)), hbin, ?_⟩
              have h1 := hB.size
              have h2 := (HU.out.1.2.1.lt)
              have h3 : 0 < t := by omega
              rcases HU.out.1.2.1.2 with ⟨_, h0⟩ | ⟨g, _, _, _, hg1, hg2, _⟩
              · omega
              · have := (Array.getElem?_eq_some_iff.1 hg2).1
                omega
            have hsl2 := fun w => run_whole (P := Tryd.prog) Tryd.underlying59 Tryd.byte1 w y2 0 (by omega)
            clear hX2 hy2 b2 hir
            go_upto_region 17 with (at_builtin; refine wpList_append_bin rfl (.tmp 53) (.tmp 54) rfl p A2 t C2 J rfl HX2.out.1 (some ⟨y2, 0, none⟩) 32 32 R rfl HX2.out.2.2.2.1 (fun h => by cases h) (by omega) HX2.out.2.2.2.2 ?_; intro A3 C3 u3 ow3 bu3)
            obtain ⟨Z, hZ⟩ : ∃ Z, Z = sumI (takeI st0 (J ++ R)) := ⟨_, rfl⟩
            have HZ : Hid (Z = sumI (takeI st0 (J ++ R)) ∧ Z.length = 32 ∧ Z = ofI X Y) := ⟨hZ, by rw [hZ, sumI_length], by rw [hZ, HR.out.1, HI.out.1, HI.out.2.1, HK.out.1, of_flat]⟩
            have hiz : (Tryd.prog.info? 59).map (·.size) = some (u8s Z).length := by rw [u8s_length, HZ.out.2.1]; exact Tryd.info_digest
            have z0 : Blk u3 q (u8s (List.replicate 32 0)) 59 := HX2.out.2.1.below bu3 (by have := HP.out.2.1; omega)
            have HF : Hid (BIn u3 A3 (t + 32) (J ++ R) ∧ (A3 = none → t + 32 = 0 ∧ C3 = 0) ∧ Below q w u3) := by
              refine ⟨own_bin ow3 (by unfold maxLen; omega) ?_, own_nil ow3, HX2.out.2.2.1.trans (bu3.mono (by have := HP.out.2.1; omega))⟩
              intro z hz
              rcases List.mem_append.1 hz with h | h
              · exact HI.out.2.2.2.1 z h
              · exact HR.out.2.2 z h
            clear hZ ow3 bu3
            go_wp2_with (first
              | (go_at_call 47; refine (refdig_of A3 (t + 32) C3 (J ++ R) u3 HF.out.1 HF.out.2.1 (by omega)).mono ?_; rintro e u4 ⟨rfl, b4⟩; rw [← HZ.out.1]; have z4 := z0.below b4 z0.lt)
              | (refine wpList_store_mid rfl 59 (.tmp 4) (.tmp 57) rfl q 0 (u8s Z).toArray rfl rfl (z4.there 0 _ (by simp [u8s_length, HZ.out.2.1])) (by simpa using hiz) (all_oneCell_toArray (u8s_one _)) ?_))
            have b9 := z4.setAll (vs := u8s Z) (by simp [u8s_length, HZ.out.2.1])
            refine bodyPost_ret (v := .agg (u8s Z).toArray) (results_cell_one (p := 4) (ty := 59) rfl _ _ q _ _ _ rfl b9 Tryd.underlying59 rfl hiz) rfl ⟨by rw [HZ.out.2.2], ?_⟩
            rw [← HQ.out]
            exact below_setCells (by omega) _ _ _ (HF.out.2.2.trans (b4.mono (by have := z0.lt; omega)))
  · have hle : (n : Int) ≤ 64 := by omega
    have HD : Hid (S = X) := by
      show _ = _
      rw [HS.out.1, shortI, if_neg (by rw [H.out.1.1.1]; omega)]
    have hnn : N0 = n := by rw [← HS.out.2.1, HD.out]; exact H.out.1.1.1
    subst hnn
    have HV : Hid (BIn V a N0 S) := by
      have := H.out.1.1.below (by rw [← HQ.out]; exact p1)
      rw [HD.out]; exact this
    have u3 : q + 1 ≤ V.heap.size := by omega
    go_upto_region 6 with (at_builtin; refine wpList_append_bin rfl (.tmp 19) (.tmp 20) rfl (q + 1) none 0 0 [] rfl (World.ownsRow_nil _ _ _ _) a N0 c S rfl HV.out H.out.1.2 (by omega) u3 ?_; intro A C v3 ow3 bu3; simp only [Nat.zero_add, List.nil_append] at ow3 ⊢)
    have k0 : Blk v3 q (u8s (List.replicate 32 0)) 59 := p0.below bu3 (by omega)
    have k1 : Below q w v3 := p1.trans (bu3.mono (by omega))
    have k2 : q + 1 ≤ v3.heap.size := by have := bu3.size; omega
    clear p0 p1 p2 u3 bu3 HV
    go_wp2
    go_loopw [5] (fun k wr => ∃ (j : Nat) (A : Option Addr) (N C : Nat), k = .slice A N C ∧ N = N0 + j ∧ N ≤ 64 ∧ wr.ownsRow (q + 1) 5 1 (.slice A N C) N (u8s (S ++ List.replicate j 0)) ∧ Blk wr q (u8s (List.replicate 32 0)) 59 ∧ Below q w wr ∧ q + 1 ≤ wr.heap.size)
      (fun k _ => 64 - lenOf k)
    case atStart => exact ⟨0, A, N0, C, rfl, by omega, by have := HS.out.2.2.1; omega, by simpa using ow3, k0, k1, k2⟩
    case round =>
      clear ow3 k0 k1 k2
      obtain ⟨j, A, N, C, rfl, hN, hN64, how, b0, hb, hsz⟩ := hrel
      have HE : Hid (N = N0 + j) := hN
      clear hN
      by_cases hlt : N < 64
      · have hlt' : (N : Int) < 64 := by omega
        have HO : Hid (wr.ownsRow (q + 1) 5 1 (.slice A N C) N (u8s (S ++ List.replicate j 0)) ∧ q + 1 ≤ wr.heap.size) := ⟨how, hsz⟩
        go_wp2_with (at_builtin; refine wpList_append_bin rfl (.tmp 25) (.tmp 26) rfl (q + 1) A N C (S ++ List.replicate j 0) rfl (HO.out.1.alloc _) (some ⟨wr.heap.size, 0, none⟩) 1 1 [0] rfl (new_bin rfl rfl rfl (by simp [Fits8]) (by unfold maxLen; omega)) (fun h => by cases h) (by omega) (by have := HO.out.2; simp; omega) ?_; intro A2 C2 u2 ow2 bu2)
        have ow4 : u2.ownsRow (q + 1) 5 1 (.slice A2 (N + 1) C2) (N + 1) (u8s (S ++ List.replicate (j + 1) 0)) := by
          have e : S ++ List.replicate (j + 1) 0 = S ++ List.replicate j 0 ++ [0] := by rw [List.append_assoc, ← List.replicate_succ']
          rw [e]; exact ow2
        have b4 : Below (q + 1) wr u2 := ((Below.refl _ _).alloc hsz _).trans bu2
        go_roundw
        case rel => exact ⟨j + 1, A2, N + 1, C2, rfl, by have := HE.out; omega, by omega, ow4, b0.below b4 (by omega), hb.trans (b4.mono (by omega)), by have := b4.size; omega⟩
        case measure => simp [lenOf]; omega
      · have h64 : N = 64 := by omega
        subst h64
        obtain ⟨wk, rfl⟩ : ∃ wk, wk = wr := ⟨_, rfl⟩
        obtain ⟨K, hK⟩ : ∃ K, K = S ++ List.replicate j 0 := ⟨_, rfl⟩
        rw [← hK] at how
        have HK : Hid (K = keyI X ∧ K.length = 64 ∧ ∀ z ∈ K, Fits8 z) := by
          have e : K = keyI X := by
            rw [hK, keyI, ← HS.out.1, fill_is, HS.out.2.1]
            have := HE.out
            congr 2; omega
          exact ⟨e, by rw [e, keyI_length], by rw [e]; exact keyI_fits H.out.1.1.2.2.1⟩
        have hbk := own_bin how (by unfold maxLen; omega) HK.out.2.2
        obtain ⟨kb, ko, hA, hcell⟩ := hbk.2.2.2.resolve_left (by omega)
        subst hA
        have HC : Hid (∀ i, i < 64 → wk.cell? ⟨kb, ko + i, none⟩ = some (.int .u8 (K.getD i 0))) := hcell
        obtain ⟨p, hp⟩ : ∃ p, p = wk.heap.size := ⟨_, rfl⟩
        have HP : Hid (p = wk.heap.size ∧ q + 1 ≤ p ∧ Blk wk q (u8s (List.replicate 32 0)) 59 ∧ Below q w wk) := ⟨hp, by omega, b0, hb⟩
        clear hK how hbk hcell hp b0 hb hsz
        go_wp2
        go_loopw [7, 8, 9] (fun v1 v2 i wq => ∃ (t : Nat) (A1 : Option Addr) (C1 : Nat) (A2 : Option Addr) (C2 : Nat), t ≤ 64 ∧ i = .int .i64 t ∧ v1 = .slice A1 t C1 ∧ v2 = .slice A2 t C2 ∧ Two wq p (.slice A1 t C1) t (xorI 54 (K.take t)) (.slice A2 t C2) t (xorI 92 (K.take t)) ∧ Below p wk wq ∧ p ≤ wq.heap.size)
          (fun _ _ i _ => 64 - (intOf i).toNat)
        case atStart => exact ⟨0, none, 0, none, 0, by omega, rfl, rfl, rfl, ⟨World.ownsRow_nil _ _ _ _, World.ownsRow_nil _ _ _ _, fun g hg => by cases hg⟩, Below.refl _ _, by rw [HP.out.1]; exact Nat.le_refl _⟩
        case round =>
          obtain ⟨t, A1, C1, A2, C2, ht, rfl, rfl, rfl, hT, hb, hsz⟩ := hrel
          have HT : Hid (Two wr p (.slice A1 t C1) t (xorI 54 (K.take t)) (.slice A2 t C2) t (xorI 92 (K.take t)) ∧ Below p wk wr ∧ p ≤ wr.heap.size) := ⟨hT, hb, hsz⟩
          clear hT hb hsz
          by_cases hlt : t < 64
          · have hlt' : (t : Int) < 64 := by omega
            have hc1 := HC.out t hlt
            have hc : wr.cell? ⟨kb, ko + t, none⟩ = some (.int .u8 (K.getD t 0)) := by rw [HT.out.2.1.cell (by rw [HP.out.1]; exact old_block hc1)]; exact hc1
            have HB : Hid (kb < p) := by
              show _ < _
              rw [HP.out.1]; exact old_block hc1
            clear hc1
            obtain ⟨x, hx⟩ : ∃ x, x = K.getD t 0 := ⟨_, rfl⟩
            have HX : Hid (x = K.getD t 0 ∧ Fits8 x) := ⟨hx, by rw [hx]; exact byte_in HK.out.2.2 t⟩
            rw [← hx] at hc
            clear hx
            go_upto_region 13 with (at_builtin; refine wpList_append_far rfl (.tmp 32) (.tmp 38) rfl p A1 t C1 (xorI 54 (K.take t)) rfl (HT.out.1.1.alloc _) (some ⟨wr.heap.size, 0, none⟩) 1 1 [bits .xor .u8 x 54] rfl (new_bin rfl rfl rfl (by simpa using xor8_fits HX.out.2 (by unfold Fits8; omega)) (by unfold maxLen; omega)) (fun h => by cases h) (by omega) (by have := HT.out.2.2; simp; omega) ?_; intro A1' C1' u1 ow1 gr1 fr1)
            have T1 : Two u1 p (.slice A1' (t + 1) C1') (t + 1) (xorI 54 (K.take (t + 1))) (.slice A2 t C2) t (xorI 92 (K.take t)) := by
              rw [← xor_next1 (by rw [HK.out.2.1]; exact hlt), ← HX.out.1]
              exact (HT.out.1.alloc _).first ow1 gr1 fr1
            have B1 : Below p wk u1 := (HT.out.1.alloc _).grows (HT.out.2.1.alloc HT.out.2.2 _) gr1 (by have := HT.out.2.2; simp; omega)
            have z1 : p ≤ u1.heap.size := by have := B1.size; have := HP.out.1; omega
            have hc2 : u1.cell? ⟨kb, ko + t, none⟩ = some (.int .u8 x) := by
              have h1 := HC.out t hlt
              rw [← HX.out.1] at h1
              rw [B1.cell (by exact HB.out)]; exact h1
            have HW : Hid (Two u1 p (.slice A1' (t + 1) C1') (t + 1) (xorI 54 (K.take (t + 1))) (.slice A2 t C2) t (xorI 92 (K.take t)) ∧ Below p wk u1 ∧ p ≤ u1.heap.size) := ⟨T1, B1, z1⟩
            clear ow1 gr1 fr1 T1 B1 z1 hc
            go_wp2_with (at_builtin; refine wpList_append_far rfl (.tmp 40) (.tmp 46) rfl p A2 t C2 (xorI 92 (K.take t)) rfl (HW.out.1.2.1.alloc _) (some ⟨u1.heap.size, 0, none⟩) 1 1 [bits .xor .u8 x 92] rfl (new_bin rfl rfl rfl (by simpa using xor8_fits HX.out.2 (by unfold Fits8; omega)) (by unfold maxLen; omega)) (fun h => by cases h) (by omega) (by have := HW.out.2.2; simp; omega) ?_; intro A2' C2' u2 ow2 gr2 fr2)
            have T2 : Two u2 p (.slice A1' (t + 1) C1') (t + 1) (xorI 54 (K.take (t + 1))) (.slice A2' (t + 1) C2') (t + 1) (xorI 92 (K.take (t + 1))) := by
              have := ((HW.out.1.alloc (.cells #[.int .u8 (bits .xor .u8 x 92)] 5)).swap.first ow2 gr2 fr2).swap
              rw [HX.out.1, xor_next1 (by rw [HK.out.2.1]; exact hlt)] at this
              exact this
            have B2 : Below p wk u2 := (HW.out.1.alloc _).swap.grows (HW.out.2.1.alloc HW.out.2.2 _) gr2 (by have := HW.out.2.2; simp; omega)
            have z2 : p ≤ u2.heap.size := by have := B2.size; have := HP.out.1; omega
            go_roundw
            case rel => exact ⟨t + 1, A1', C1', A2', C2', by omega, by go_num, rfl, rfl, T2, B2, z2⟩
            case measure => simp [intOf]; omega
          · have hge : (64 : Int) ≤ t := by omega
            obtain ⟨I, hI⟩ : ∃ I, I = xorI 54 K := ⟨_, rfl⟩
            obtain ⟨J, hJ⟩ : ∃ J, J = xorI 92 K := ⟨_, rfl⟩
            have HI : Hid (I = xorI 54 K ∧ J = xorI 92 K ∧ (∀ z ∈ I, Fits8 z) ∧ (∀ z ∈ J, Fits8 z) ∧ I.length = 64 ∧ J.length = 64) := ⟨hI, hJ, by rw [hI]; exact xorI_fits (by unfold Fits8; omega) HK.out.2.2, by rw [hJ]; exact xorI_fits (by unfold Fits8; omega) HK.out.2.2, by rw [hI, xorI_length, HK.out.2.1], by rw [hJ, xorI_length, HK.out.2.1]⟩
            have HT2 : Hid (Two wr p (.slice A1 t C1) t I (.slice A2 t C2) t J ∧ Blk wr q (u8s (List.replicate 32 0)) 59 ∧ Below q w wr ∧ p ≤ wr.heap.size ∧ BIn wr b m Y) := by
              have e : K.take t = K := List.take_of_length_le (by rw [HK.out.2.1]; omega)
              have h1 := HT.out
              rw [e, ← hI, ← hJ] at h1
              have hb : Below q w wr := HP.out.2.2.2.trans (h1.2.1.mono (by have := HP.out.2.1; omega))
              exact ⟨h1.1, HP.out.2.2.1.below h1.2.1 (by have := HP.out.2.1; omega), hb, h1.2.2, H.out.2.1.below (by rw [← HQ.out]; exact hb)⟩
            clear hI hJ HT
            go_upto_region 15 with (at_builtin; refine wpList_append_far rfl (.tmp 48) (.tmp 49) rfl p A1 t C1 I rfl HT2.out.1.1 b m d Y rfl HT2.out.2.2.2.2 H.out.2.2 (by omega) HT2.out.2.2.2.1 ?_; intro A1' C1' u1 ow1 gr1 fr1)
            have T1 := HT2.out.1.first ow1 gr1 fr1
            have B1 : Below p wr u1 := HT2.out.1.grows (Below.refl _ _) gr1 HT2.out.2.2.2.1
            obtain ⟨R, hR⟩ : ∃ R, R = sumI (takeI st0 (I ++ Y)) := ⟨_, rfl⟩
            have HR : Hid (R = sumI (takeI st0 (I ++ Y)) ∧ R.length = 32 ∧ (∀ z ∈ R, Fits8 z)) := ⟨hR, by rw [hR, sumI_length], by rw [hR]; exact sumI_fits _⟩
            have hir : (Tryd.prog.info? 59).map (·.size) = some (u8s R).length := by rw [u8s_length, HR.out.2.1]; exact Tryd.info_digest
            have HU : Hid (Two u1 p (.slice A1' (t + m) C1') (t + m) (I ++ Y) (.slice A2 t C2) t J ∧ Blk u1 q (u8s (List.replicate 32 0)) 59 ∧ Below q w u1 ∧ BIn u1 A1' (t + m) (I ++ Y) ∧ (A1' = none → t + m = 0 ∧ C1' = 0)) := by
              have hq1 := HP.out.2.1
              refine ⟨T1, HT2.out.2.1.below B1 (by omega), HT2.out.2.2.1.trans (B1.mono (by omega)), own_bin ow1 (by unfold maxLen; omega) ?_, own_nil ow1⟩
              intro z hz
              rcases List.mem_append.1 hz with h | h
              · exact HI.out.2.2.1 z h
              · exact H.out.2.1.2.2.1 z h
            clear hR ow1 gr1 fr1 T1 B1
            go_upto_region 16 with (first
              | (go_at_call 47; refine (refdig_of A1' (t + m) C1' (I ++ Y) u1 HU.out.2.2.2.1 HU.out.2.2.2.2 (by omega)).mono ?_; rintro e u2 ⟨rfl, b2⟩; rw [← HR.out.1])
              | (refine wpList_store_mid rfl 59 (.tmp 10) (.tmp 52) rfl u2.heap.size 0 (u8s R).toArray rfl rfl ((Blk.new' (L := u8s (List.replicate 32 0)) rfl (by kernel_rfl)).there 0 _ (by simp [u8s_length, HR.out.2.1])) (by simpa using hir) (all_oneCell_toArray (u8s_one _)) ?_))
            generalize hX2 : World.setCells _ _ _ _ = x2
            obtain ⟨y2, hy2⟩ : ∃ y2, y2 = u2.heap.size := ⟨_, rfl⟩
            rw [← hy2]
            have HX2 : Hid (x2.ownsRow p 5 1 (.slice A2 t C2) t (u8s J) ∧ Blk x2 q (u8s (List.replicate 32 0)) 59 ∧ Below q w x2 ∧ BIn x2 (some ⟨y2, 0, none⟩) 32 R ∧ p ≤ x2.heap.size) := by
              have hsz := b2.size
              have l := HU.out.2.1.lt
              have hB : Below u1.heap.size u1 x2 := by rw [← hX2]; exact below_setCells (by omega) _ _ _ (b2.alloc (by omega) _)
              have hbk : Blk x2 y2 (u8s R) 59 := by rw [← hX2, hy2]; exact (Blk.new' (L := u8s (List.replicate 32 0)) rfl (by kernel_rfl)).setAll (by simp [u8s_length, HR.out.2.1])
              have hbin := hbk.bin HR.out.2.2 (by rw [HR.out.2.1]; unfold maxLen; omega)
              rw [HR.out.2.1] at hbin
              refine ⟨own_below HU.out.1.2.1 hB, HU.out.2.1.below hB l, HU.out.2.2.1.trans (hB.mono (by omega)), hbin, ?_⟩
              have h1 := hB.size
              have h2 := (HU.out.1.2.1.lt)
              have h3 : 0 < t := by omega
              rcases HU.out.1.2.1.2 with ⟨_, h0⟩ | ⟨g, _, _, _, hg1, hg2, _⟩
              · omega
              · have := (Array.getElem?_eq_some_iff.1 hg2).1
                omega
            have hsl2 := fun w => run_whole (P := Tryd.prog) Tryd.underlying59 Tryd.byte1 w y2 0 (by omega)
            clear hX2 hy2 b2 hir
            go_upto_region 17 with (at_builtin; refine wpList_append_bin rfl (.tmp 53) (.tmp 54) rfl p A2 t C2 J rfl HX2.out.1 (some ⟨y2, 0, none⟩) 32 32 R rfl HX2.out.2.2.2.1 (fun h => by cases h) (by omega) HX2.out.2.2.2.2 ?_; intro A3 C3 u3 ow3 bu3)
            obtain ⟨Z, hZ⟩ : ∃ Z, Z = sumI (takeI st0 (J ++ R)) := ⟨_, rfl⟩
            have HZ : Hid (Z = sumI (takeI st0 (J ++ R)) ∧ Z.length = 32 ∧ Z = ofI X Y) := ⟨hZ, by rw [hZ, sumI_length], by rw [hZ, HR.out.1, HI.out.1, HI.out.2.1, HK.out.1, of_flat]⟩
            have hiz : (Tryd.prog.info? 59).map (·.size) = some (u8s Z).length := by rw [u8s_length, HZ.out.2.1]; exact Tryd.info_digest
            have z0 : Blk u3 q (u8s (List.replicate 32 0)) 59 := HX2.out.2.1.below bu3 (by have := HP.out.2.1; omega)
            have HF : Hid (BIn u3 A3 (t + 32) (J ++ R) ∧ (A3 = none → t + 32 = 0 ∧ C3 = 0) ∧ Below q w u3) := by
              refine ⟨own_bin ow3 (by unfold maxLen; omega) ?_, own_nil ow3, HX2.out.2.2.1.trans (bu3.mono (by have := HP.out.2.1; omega))⟩
              intro z hz
              rcases List.mem_append.1 hz with h | h
              · exact HI.out.2.2.2.1 z h
              · exact HR.out.2.2 z h
            clear hZ ow3 bu3
            go_wp2_with (first
              | (go_at_call 47; refine (refdig_of A3 (t + 32) C3 (J ++ R) u3 HF.out.1 HF.out.2.1 (by omega)).mono ?_; rintro e u4 ⟨rfl, b4⟩; rw [← HZ.out.1]; have z4 := z0.below b4 z0.lt)
              | (refine wpList_store_mid rfl 59 (.tmp 4) (.tmp 57) rfl q 0 (u8s Z).toArray rfl rfl (z4.there 0 _ (by simp [u8s_length, HZ.out.2.1])) (by simpa using hiz) (all_oneCell_toArray (u8s_one _)) ?_))
            have b9 := z4.setAll (vs := u8s Z) (by simp [u8s_length, HZ.out.2.1])
            refine bodyPost_ret (v := .agg (u8s Z).toArray) (results_cell_one (p := 4) (ty := 59) rfl _ _ q _ _ _ rfl b9 Tryd.underlying59 rfl hiz) rfl ⟨by rw [HZ.out.2.2], ?_⟩
            rw [← HQ.out]
            exact below_setCells (by omega) _ _ _ (HF.out.2.2.trans (b4.mono (by have := z0.lt; omega)))
end Go.Proofs.YtpliokkmiijieaaDoor
