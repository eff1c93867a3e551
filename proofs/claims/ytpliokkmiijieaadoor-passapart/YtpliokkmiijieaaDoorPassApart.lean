/- A tenant alone says of a text what the table says, unless the text is of another tenant; the order of the tenants says nothing. -/
import Derived.Test.YtpliokkmiijieaaDoorRows
import Derived.Test.YtpliokkmiijieaaDoorCards
import Derived.Test.YtpliokkmiijieaaDoorTie
import Derived.Test.YtpliokkmiijieaaDoorLaid
import Derived.Test.YtpliokkmiijieaaDoorPOpen
import Derived.Test.YtpliokkmiijieaaDoorPLaw
import Derived.Test.YtpliokkmiijieaaDoorPTs
import Derived.Test.YtpliokkmiijieaaDoorSpKnown
import Derived.BigQuiet
import Derived.Stop.Joined
import Derived.SevenTiedAt
import Derived.WalkKit
import Derived.ProofKit
import Derived.OpenShut
import Derived.ShutString
import Derived.ChangeOld
import Derived.Below
namespace Go.Proofs.YtpliokkmiijieaaDoor.passApart
open Go.ChangeShapes Go.WideShapes Go.ChangeAt Go.RowKit
open Go.ChangeMaps (open_string shut_string)
set_option linter.unusedVariables false
set_option maxRecDepth 4000

set_option maxHeartbeats 4000000 in
theorem walk (a0 : Option Addr) (n0 c0 : Nat) (ts0 : List Ten) (a1 : Int) (a2 : ByteArray) (w : World) (hG : GIn w) (w0 : TsIn 0 w a0 n0 ts0 ∧ n0 ≤ c0 ∧ (a0 = none → n0 = 0 ∧ c0 = 0)) (w1 : (Lit.int .i64 a1).wf = true) (w2 : a2.size ≤ maxLen) :
    Calls Tryd.prog 8 #[.slice a0 n0 c0, .int .i64 a1, .string a2] w fun e w' => e = .returned (.bool true) ∧ Below w.heap.size w w' := by
  obtain ⟨q, hq⟩ : ∃ q, q = w.heap.size := ⟨_, rfl⟩
  have H : Hid (q = w.heap.size ∧ GIn w ∧ TsIn 0 w a0 n0 ts0 ∧ n0 ≤ c0 ∧ (a0 = none → n0 = 0 ∧ c0 = 0)) := ⟨hq, hG, w0⟩
  have TC := tenants_of 0 a0 n0 c0 ts0 w w0.1
  rw [← hq]
  have hi64 : -9223372036854775808 ≤ a1 ∧ a1 ≤ 9223372036854775807 := by have := bounds_i64 w1; omega
  obtain ⟨hi1, hi2⟩ := hi64
  clear hG w0 hq w1 w2
  have KN := pknown_any w H.out.2.1
  have fin : ∀ X, Below w.heap.size w X → Below q w X := fun X bX => by rw [H.out.1]; exact bX
  by_cases hfew : Few ts0
  · have hd : decide (Few ts0) = true := decide_eq_true hfew
    rw [hd] at TC
    have HF : Hid (Few ts0) := hfew
    have hn70 : n0 ≤ 70 := by rw [← H.out.2.2.1.1]; exact hfew.1
    clear hd hfew
    by_cases l2 : (400 : Int) < a2.size
    · go_enter Tryd.func8, Tryd.ntmps8
      go_upto_region 2 with (go_at_call 14; refine TC.mono ?_; rintro e w ⟨rfl, rfl⟩)
      go_wp2_with (go_at_call 9; refine KN.mono ?_; rintro e X ⟨rfl, bX⟩)
      go_ret
      exact ⟨rfl, fin X bX⟩
    · have l2' : (a2.size : Int) ≤ 400 := by omega
      by_cases h0 : n0 = 0
      · subst h0
        go_enter Tryd.func8, Tryd.ntmps8
        go_upto_region 2 with (go_at_call 14; refine TC.mono ?_; rintro e w ⟨rfl, rfl⟩)
        go_wp2_with (go_at_call 9; refine KN.mono ?_; rintro e X ⟨rfl, bX⟩)
        go_ret
        exact ⟨rfl, fin X bX⟩
      · have hn1 : (1 : Int) ≤ n0 := by omega
        have hb0 : decide ((400 : Int) < a2.size) = false := by simpa using l2'
        have hb1 : ((n0 : Int) == 0) = false := by simpa using h0
        clear l2 h0
        go_enter Tryd.func8, Tryd.ntmps8
        go_upto_region 2 with (go_at_call 14; refine TC.mono ?_; rintro e w ⟨rfl, rfl⟩)
        clear TC
        go_upto_region 4 with (go_at_call 9; refine KN.mono ?_; rintro e u1 ⟨rfl, b1⟩)
        have H1 : Hid (Below q w u1 ∧ q ≤ u1.heap.size ∧ TsIn 0 u1 a0 n0 ts0 ∧ GIn u1 ∧ ∀ t ∈ ts0, Small t) := ⟨fin _ b1, by have := b1.size; have := H.out.1; omega, H.out.2.2.1.below b1, H.out.2.1.below b1 H.out.2.1.lt, fun t ht => ⟨by have := (HF.out.2 t ht).1; omega, by have := (HF.out.2 t ht).2; omega⟩⟩
        have NA := passNew_any 0 a0 n0 c0 ts0 u1 H1.out.2.2.1 (by omega) H1.out.2.2.2.2
        clear b1 KN fin
        go_upto_region 5 with (go_at_call 16; refine NA.mono ?_; rintro e u2 ⟨P, E, rfl, b2, hPE⟩)
        have H2 : Hid (Below q w u2 ∧ q ≤ u2.heap.size ∧ TsIn 0 u2 a0 n0 ts0 ∧ GIn u2) := ⟨H1.out.1.trans (b2.mono H1.out.2.1), by have := b2.size; have := H1.out.2.1; omega, H1.out.2.2.1.below b2, H1.out.2.2.2.1.below b2 H1.out.2.2.2.1.lt⟩
        clear NA b2
        rcases hPE with ⟨hE0, rfl, hTab⟩ | ⟨hne, hE, rfl⟩
        · have HT : Hid (newE ts0 = 0 ∧ TabIn u1.heap.size u2 P ts0) := ⟨hE0, hTab⟩
          clear hE0 hTab
          obtain ⟨C, hC, hcells⟩ := ts_cells H2.out.2.2.1
          obtain ⟨b, off, ha, -, hcell⟩ := hcells.resolve_left (by omega)
          subst ha
          obtain ⟨M, hM⟩ : ∃ M, M = max a1 0 := ⟨_, rfl⟩
          have hM0 : 0 ≤ M := by omega
          obtain ⟨t, ht⟩ : ∃ t : Nat, M % (n0 : Int) = t := ⟨(M % (n0 : Int)).toNat, by have := Int.emod_nonneg M (show (n0 : Int) ≠ 0 by omega); omega⟩
          have ht1 : (t : Int) < n0 := by have := Int.emod_lt_of_pos M (show (0 : Int) < n0 by omega); omega
          have ht2 : (t : Int) ≤ n0 := by omega
          have ht3 : (t : Int) + 1 ≤ n0 := by omega
          rw [hM] at ht
          have hnc : (n0 : Int) ≤ c0 := by have := H.out.2.2.2.1; omega
          have HC : Hid (TsC 0 u2 C ts0 ∧ ∀ j v, C[j]? = some v → u2.cell? ⟨b, off + j, none⟩ = some v) := ⟨hC, hcell⟩
          clear hM hM0 hC hcells hcell
          go_upto_region 8 with fail
          rw [ht]
          have HD : Hid ((C.drop (t * 5)).length = (n0 - t) * 5 ∧ (∀ j u, (C.drop (t * 5))[j]? = some u → u2.cell? ((⟨b, off + t * 5, none⟩ : Addr).add j) = some u) ∧ (∀ v ∈ C.drop (t * 5), v.oneCell' = true)
              ∧ (C.take (t * 5)).length = t * 5 ∧ (∀ j u, (C.take (t * 5))[j]? = some u → u2.cell? ((⟨b, off, none⟩ : Addr).add j) = some u) ∧ (∀ v ∈ C.take (t * 5), v.oneCell' = true) ∧ TsC 0 u2 (C.drop (t * 5) ++ C.take (t * 5)) (ts0.drop t ++ ts0.take t)) := by
            have hl := HC.out.1.1
            rw [H2.out.2.2.1.1] at hl
            refine ⟨by rw [List.length_drop, hl]; omega, fun j u hu => ?_, fun v hv => HC.out.1.2.1 v (List.mem_of_mem_drop hv), by rw [List.length_take, hl]; omega, fun j u hu => ?_, fun v hv => HC.out.1.2.1 v (List.mem_of_mem_take hv), (HC.out.1.drop t).append (HC.out.1.take t)⟩
            · rw [List.getElem?_drop] at hu
              have := HC.out.2 _ u hu
              rw [Addr.add_mid, show off + t * 5 + j = off + (t * 5 + j) by omega]
              exact this
            · have hj : j < t * 5 := by have := (List.getElem?_eq_some_iff.1 hu).1; rw [List.length_take] at this; omega
              rw [List.getElem?_take_of_lt hj] at hu
              rw [Addr.add_mid]
              exact HC.out.2 _ u hu
          have hsum : n0 - t + t = n0 := by omega
          go_upto_region 10 with (at_builtin; refine wpList_append_tens rfl (.tmp 55) (.tmp 58) rfl u2.heap.size none 0 0 [] rfl (World.ownsRow_nil _ _ _ _) ⟨b, off + t * 5, none⟩ (n0 - t) _ (C.drop (t * 5)) rfl HD.out.1 HD.out.2.1 HD.out.2.2.1 (by omega) (Nat.le_refl _) ?_; intro A1 c1 v1 ow1 gr1 bl1; simp only [Nat.zero_add, List.nil_append] at ow1 ⊢)
          have HV1 : Hid (v1.ownsRow u2.heap.size 49 5 (.slice A1 (n0 - t) c1) (n0 - t) (C.drop (t * 5)) ∧ Below u2.heap.size u2 v1 ∧ u2.heap.size ≤ v1.heap.size ∧ (∀ j u, (C.take (t * 5))[j]? = some u → v1.cell? ((⟨b, off, none⟩ : Addr).add j) = some u)) := by
            refine ⟨ow1, bl1, bl1.size, fun j u hu => ?_⟩
            have h := HD.out.2.2.2.2.1 j u hu
            rw [Addr.add_mid] at h ⊢
            rw [bl1.cell (old_block h)]
            exact h
          clear ow1 gr1 bl1
          go_upto_region 11 with (at_builtin; refine wpList_append_tens rfl (.tmp 60) (.tmp 63) rfl u2.heap.size A1 (n0 - t) c1 (C.drop (t * 5)) rfl HV1.out.1 ⟨b, off, none⟩ t _ (C.take (t * 5)) rfl HD.out.2.2.2.1 HV1.out.2.2.2 HD.out.2.2.2.2.2.1 (by omega) HV1.out.2.2.1 ?_; intro A2 c2 v2 ow2 gr2 bl2)
          rw [hsum] at ow2
          have HV2 : Hid (Below u2.heap.size u2 v2 ∧ TsIn 0 v2 A2 n0 (ts0.drop t ++ ts0.take t)) := by
            have bb := HV1.out.2.1.trans bl2
            exact ⟨bb, own_ts ow2 (HD.out.2.2.2.2.2.2.below bb)⟩
          clear ow2 gr2 bl2 HV1 HD
          obtain ⟨T, hT⟩ : ∃ T, ts0[t]? = some T := ⟨_, List.getElem?_eq_getElem (by rw [H2.out.2.2.1.1]; omega)⟩
          have HN : Hid (newE (ts0.drop t ++ ts0.take t) = 0 ∧ (∀ x ∈ ts0.drop t ++ ts0.take t, Small x) ∧ newE [T] = 0 ∧ (∀ x ∈ [T], Small x) ∧ ts0[t]? = some T ∧ TabOk ts0) := by
            obtain ⟨h1, h2⟩ := newE_ok HT.out.1
            have hp := turned_perm ts0 t
            have hm := List.mem_of_getElem? hT
            refine ⟨ok_newE (by rw [hp.length_eq]; exact h1) (perm_ok h2 hp), fun x hx => H1.out.2.2.2.2 x (hp.mem_iff.1 hx), ok_newE (by simp) ⟨?_, by simp⟩, ?_, hT, h2⟩
            · intro x hx
              simp only [List.mem_cons, List.not_mem_nil, or_false] at hx
              rw [hx]
              exact h2.1 T hm
            · intro x hx
              simp only [List.mem_cons, List.not_mem_nil, or_false] at hx
              rw [hx]
              exact H1.out.2.2.2.2 T hm
          have HO : Hid (TsIn 0 u2 (some ⟨b, off + t * 5, none⟩) 1 [T] ∧ u2.cell? ⟨b, off + t * 5, none⟩ = some (.int .u32 T.id)) := by
            have h1 := (HC.out.1.drop t).take 1
            have e1 : (ts0.drop t).take 1 = [T] := by
              have hl := (List.getElem?_eq_some_iff.1 hT)
              obtain ⟨hl, he⟩ := hl
              rw [List.drop_eq_getElem_cons hl, he]
              rfl
            rw [e1] at h1
            constructor
            · refine cells_ts h1 rfl fun j v hv => ?_
              have hj : j < 1 * 5 := by have := (List.getElem?_eq_some_iff.1 hv).1; rw [List.length_take] at this; omega
              rw [List.getElem?_take_of_lt hj, List.getElem?_drop] at hv
              have := HC.out.2 _ v hv
              rw [show off + t * 5 + j = off + (t * 5 + j) by omega]
              exact this
            · obtain ⟨b', off', ha, hlo, hrow⟩ := H2.out.2.2.1.2.resolve_left (by omega)
              cases ha
              obtain ⟨L, hTT, hR⟩ := hrow t T hT
              obtain ⟨ka, kn, kc, ga, gn, gc, hL, _⟩ := hTT
              subst hL
              exact hR 0 _ rfl
          clear hT HC
          have NT := passNew_any 0 A2 n0 c2 _ v2 HV2.out.2 (by omega) HN.out.2.1
          go_upto_region 12 with (go_at_call 16; refine NT.mono ?_; rintro e u3 ⟨P2, E2, rfl, b3, hPE⟩)
          have hE2 : E2 = 0 ∧ TabIn v2.heap.size u3 P2 (ts0.drop t ++ ts0.take t) := by
            rcases hPE with ⟨_, h2, h3⟩ | ⟨h, _⟩
            · exact ⟨h2, h3⟩
            · exact absurd HN.out.1 h
          obtain ⟨rfl, hTab2⟩ := hE2
          have H3 : Hid (Below u2.heap.size u2 u3 ∧ u2.heap.size ≤ u3.heap.size ∧ TabIn v2.heap.size u3 P2 (ts0.drop t ++ ts0.take t) ∧ TsIn 0 u3 (some ⟨b, off + t * 5, none⟩) 1 [T]) := by
            have bb := HV2.out.1.trans (b3.mono HV2.out.1.size)
            exact ⟨bb, bb.size, hTab2, HO.out.1.below bb⟩
          clear hPE hTab2 b3 NT HV2
          have NO := fun c => passNew_any 0 (some ⟨b, off + t * 5, none⟩) 1 c [T] u3 H3.out.2.2.2 (by omega) HN.out.2.2.2.1
          have hone : t + 1 - t = 1 := by omega
          go_upto_region 13 with (go_at_call 16; refine (NO _).mono ?_; rintro e u4 ⟨P3, E3, rfl, b4, hPE⟩)
          have hE3 : E3 = 0 ∧ TabIn u3.heap.size u4 P3 [T] := by
            rcases hPE with ⟨_, h2, h3⟩ | ⟨h, _⟩
            · exact ⟨h2, h3⟩
            · exact absurd HN.out.2.2.1 h
          obtain ⟨rfl, hTab3⟩ := hE3
          have H4 : Hid (Below u2.heap.size u2 u4 ∧ Below q w u4 ∧ GIn u4 ∧ TabIn u1.heap.size u4 P ts0 ∧ TabIn v2.heap.size u4 P2 (ts0.drop t ++ ts0.take t) ∧ TabIn u3.heap.size u4 P3 [T] ∧ u4.cell? ⟨b, off + t * 5, none⟩ = some (.int .u32 T.id)) := by
            have bb := H3.out.1.trans (b4.mono H3.out.2.1)
            refine ⟨bb, H2.out.1.trans (bb.mono H2.out.2.1), H2.out.2.2.2.below bb H2.out.2.2.2.lt, HT.out.2.below bb, H3.out.2.2.1.below b4, hTab3, ?_⟩
            rw [bb.cell (old_block HO.out.2)]
            exact HO.out.2
          clear hPE hTab3 b4 NO H3 HO
          have CK := fun lo p ts w h hG hsm => check_of lo p ts a2 (numsOf a2) a2.size w h hG (numsOf_str a2) (numsOf_fits a2) (numsOf_length a2) (by omega) hsm
          have C1 := CK _ P ts0 u4 H4.out.2.2.2.1 H4.out.2.2.1 H1.out.2.2.2.2
          have C2 := fun w h hG => CK v2.heap.size P2 (ts0.drop t ++ ts0.take t) w h hG HN.out.2.1
          have C3 := fun w h hG => CK u3.heap.size P3 [T] w h hG HN.out.2.2.2.1
          rw [perm_check HN.out.2.2.2.2.2 (turned_perm ts0 t)] at C2
          obtain ⟨R1, R2, hR⟩ : ∃ R1 R2, checkI ts0 (numsOf a2) = (R1, R2) := ⟨_, _, rfl⟩
          obtain ⟨S1, S2, hS⟩ : ∃ S1 S2, checkI [T] (numsOf a2) = (S1, S2) := ⟨_, _, rfl⟩
          have HR : Hid (((S1, S2) = (R1, R2) ∧ R2 ≠ 51) ∨ ((S1, S2) = (tok0, 51) ∧ (R2 = 0 → R1.tenant ≠ T.id))) := by
            have h := check_one HN.out.2.2.2.2.2 (List.mem_of_getElem? HN.out.2.2.2.2.1) (numsOf a2)
            rw [hR, hS] at h
            exact h
          rw [hR] at C1 C2
          rw [hS] at C3
          dsimp only at C1 C2 C3
          clear hR hS CK
          go_upto_region 16 with (first
            | (go_at_call 18; refine C1.mono ?_; rintro e u5 ⟨rfl, b5⟩)
            | (refine wpList_store_mid rfl 26 (.tmp 16) (.tmp 89) rfl u5.heap.size 0 (tokL R1).toArray rfl rfl ?hT (tok_size _) (tok_all _) ?_; (case hT => exact tok_there _)))
          generalize hU : World.setCells _ _ _ _ = U
          obtain ⟨g1, hg1⟩ : ∃ g1, g1 = u5.heap.size := ⟨_, rfl⟩
          rw [← hg1]
          have HU : Hid (Below u4.heap.size u4 U ∧ u4.heap.size ≤ U.heap.size ∧ Blk U g1 (tokL R1) 26) := by
            have h1 := b5.size
            have bk : Blk U g1 (tokL R1) 26 := by rw [← hU, hg1]; exact (Blk.new' (L := tokL tok0) rfl rfl).setAll (by rfl)
            have bu : Below u5.heap.size u5 U := by rw [← hU]; exact below_setCells (Nat.le_refl _) _ _ _ ((Below.refl _ _).alloc (Nat.le_refl _) _)
            have bb : Below u4.heap.size u4 U := b5.trans (bu.mono h1)
            exact ⟨bb, bb.size, bk⟩
          have C2U := C2 U (H4.out.2.2.2.2.1.below HU.out.1) (H4.out.2.2.1.below HU.out.1 H4.out.2.2.1.lt)
          clear hU hg1 b5 C1 C2
          go_upto_region 17 with (first
            | (go_at_call 18; refine C2U.mono ?_; rintro e u6 ⟨rfl, b6⟩)
            | (refine wpList_store_mid rfl 26 (.tmp 18) (.tmp 95) rfl u6.heap.size 0 (tokL R1).toArray rfl rfl ?hT (tok_size _) (tok_all _) ?_; (case hT => exact tok_there _)))
          generalize hV : World.setCells _ _ _ _ = V
          obtain ⟨g2, hg2⟩ : ∃ g2, g2 = u6.heap.size := ⟨_, rfl⟩
          rw [← hg2]
          have HV : Hid (Below u4.heap.size u4 V ∧ u4.heap.size ≤ V.heap.size ∧ Blk V g1 (tokL R1) 26 ∧ Blk V g2 (tokL R1) 26) := by
            have h1 := b6.size
            have bk : Blk V g2 (tokL R1) 26 := by rw [← hV, hg2]; exact (Blk.new' (L := tokL tok0) rfl rfl).setAll (by rfl)
            have bu : Below u6.heap.size u6 V := by rw [← hV]; exact below_setCells (Nat.le_refl _) _ _ _ ((Below.refl _ _).alloc (Nat.le_refl _) _)
            have bb : Below U.heap.size U V := b6.trans (bu.mono h1)
            have b4 := HU.out.1.trans (bb.mono HU.out.2.1)
            exact ⟨b4, b4.size, HU.out.2.2.below bb HU.out.2.2.lt, bk⟩
          have C3V := C3 V (H4.out.2.2.2.2.2.1.below HV.out.1) (H4.out.2.2.1.below HV.out.1 H4.out.2.2.1.lt)
          clear hV hg2 b6 C2U C3 HU
          go_upto_region 18 with (first
            | (go_at_call 18; refine C3V.mono ?_; rintro e u7 ⟨rfl, b7⟩)
            | (refine wpList_store_mid rfl 26 (.tmp 20) (.tmp 101) rfl u7.heap.size 0 (tokL S1).toArray rfl rfl ?hT (tok_size _) (tok_all _) ?_; (case hT => exact tok_there _)))
          generalize hX : World.setCells _ _ _ _ = X
          obtain ⟨g3, hg3⟩ : ∃ g3, g3 = u7.heap.size := ⟨_, rfl⟩
          rw [← hg3]
          have HX : Hid (Below q w X ∧ Blk X g1 (tokL R1) 26 ∧ Blk X g2 (tokL R1) 26 ∧ Blk X g3 (tokL S1) 26 ∧ X.cell? ⟨b, off + t * 5, none⟩ = some (.int .u32 T.id)) := by
            have h1 := b7.size
            have bk : Blk X g3 (tokL S1) 26 := by rw [← hX, hg3]; exact (Blk.new' (L := tokL tok0) rfl rfl).setAll (by rfl)
            have bu : Below u7.heap.size u7 X := by rw [← hX]; exact below_setCells (Nat.le_refl _) _ _ _ ((Below.refl _ _).alloc (Nat.le_refl _) _)
            have bb : Below V.heap.size V X := b7.trans (bu.mono h1)
            have b4 := HV.out.1.trans (bb.mono HV.out.2.1)
            refine ⟨H4.out.2.1.trans (b4.mono (by have := H4.out.1.size; have := H2.out.2.1; omega)), HV.out.2.2.1.below bb HV.out.2.2.1.lt, HV.out.2.2.2.below bb HV.out.2.2.2.lt, bk, ?_⟩
            have := H4.out.2.2.2.2.2.2
            rw [b4.cell (old_block this)]
            exact this
          clear hX hg3 b7 C3V HV
          have p0 : X.cell? ⟨g1, 0, none⟩ = some (.int .u32 R1.tenant) := HX.out.2.1.cell 0
          have p1 : X.cell? ⟨g1, 1, none⟩ = some (.int .u32 R1.serial) := HX.out.2.1.cell 1
          have p2 : X.cell? ⟨g1, 2, none⟩ = some (.bool R1.ro) := HX.out.2.1.cell 2
          have p3 : X.cell? ⟨g1, 3, none⟩ = some (.int .u64 R1.size) := HX.out.2.1.cell 3
          have r0 : X.cell? ⟨g2, 0, none⟩ = some (.int .u32 R1.tenant) := HX.out.2.2.1.cell 0
          have r1 : X.cell? ⟨g2, 1, none⟩ = some (.int .u32 R1.serial) := HX.out.2.2.1.cell 1
          have r2 : X.cell? ⟨g2, 2, none⟩ = some (.bool R1.ro) := HX.out.2.2.1.cell 2
          have r3 : X.cell? ⟨g2, 3, none⟩ = some (.int .u64 R1.size) := HX.out.2.2.1.cell 3
          have s0 : X.cell? ⟨g3, 0, none⟩ = some (.int .u32 S1.tenant) := HX.out.2.2.2.1.cell 0
          have s1 : X.cell? ⟨g3, 1, none⟩ = some (.int .u32 S1.serial) := HX.out.2.2.2.1.cell 1
          have s2 : X.cell? ⟨g3, 2, none⟩ = some (.bool S1.ro) := HX.out.2.2.2.1.cell 2
          have s3 : X.cell? ⟨g3, 3, none⟩ = some (.int .u64 S1.size) := HX.out.2.2.2.1.cell 3
          have cT := HX.out.2.2.2.2
          rcases HR.out with ⟨hS, hne⟩ | ⟨hS, hid⟩
          · obtain ⟨rfl, rfl⟩ : S1 = R1 ∧ S2 = R2 := by simpa using hS
            have hb51 : (S2 == 51) = false := by simpa using hne
            clear hS hne HR
            go_wp2
            go_quiet (fail)
            go_wp2
            go_ret
            exact ⟨rfl, below_drewN HX.out.1 _⟩
          · obtain ⟨rfl, rfl⟩ : S1 = tok0 ∧ S2 = 51 := by simpa using hS
            clear s0 s1 s2 s3 HR hS
            by_cases hz : R2 = 0
            · subst hz
              have hne : (R1.tenant == T.id) = false := by simpa using hid rfl
              have hne2 : (R1.tenant != T.id) = true := by simpa using hid rfl
              clear hid
              go_wp2
              go_quiet (fail)
              go_wp2
              go_ret
              exact ⟨rfl, below_drewN HX.out.1 _⟩
            · have hz1 : (R2 == 0) = false := by simpa using hz
              have hz2 : (R2 != 0) = true := by simpa using hz
              clear hid hz
              go_wp2
              go_quiet (fail)
              go_wp2
              go_ret
              exact ⟨rfl, below_drewN HX.out.1 _⟩
        · have hE2 : E = 3 ∨ E = 1 := by
            by_cases h64 : 64 < ts0.length
            · left; rw [hE]; unfold newE; rw [if_pos h64]
            · right
              rw [hE]
              unfold newE at hne ⊢
              rw [if_neg h64] at hne ⊢
              by_cases hk : TabOk ts0
              · rw [if_pos hk] at hne; exact absurd rfl hne
              · rw [if_neg hk]
          clear hE
          rcases hE2 with rfl | rfl
          · go_wp2
            go_ret
            exact ⟨rfl, H2.out.1⟩
          · go_wp2
            go_ret
            exact ⟨rfl, H2.out.1⟩
  · have hd : decide (Few ts0) = false := decide_eq_false hfew
    rw [hd] at TC
    clear hd hfew
    go_enter Tryd.func8, Tryd.ntmps8
    go_upto_region 2 with (go_at_call 14; refine TC.mono ?_; rintro e w ⟨rfl, rfl⟩)
    go_wp2_with (go_at_call 9; refine KN.mono ?_; rintro e X ⟨rfl, bX⟩)
    go_ret
    exact ⟨rfl, fin X bX⟩

set_option maxRecDepth 100000 in
theorem lifted (os : Os) (started : os.Started) (H : Type) (enc : TypeId × Value → H) :
    ReturnsInHanded {} Tryd.checked os 8 .any (fun w args => (Rows.passApartSpec.pre enc Tryd.prog Tryd.f8 [] false w args ∧ laidMetH Tryd.prog laid2 w) ∧ sizedMet enc Tryd.prog Tryd.f8 (OpenSpec.ofChange Rows.passApartSpec) false w args)
      (Rows.passApartSpec.post enc Tryd.prog Tryd.f8 false true false false) := by
  refine returnsInHanded_of_change_and (C := Tryd.checked) (X := fun w _ => laidMetH Tryd.prog laid2 w) (fun _ _ _ hh h => h.of_heap hh) own started (by kernel_rfl) Tryd.func8
    (ChangeSpec.witness_shaped (enc := enc) (C := Tryd.checked) (os := os) (X := fun w _ => laidMetH Tryd.prog laid2 w) false (World.doorLaid Tryd.prog 400 os) #[.slice none 0 0, .int .i64 0, .string ByteArray.empty] 8 rfl (World.shaped_of_RefB (by kernel_rfl) (by kernel_rfl)) (by kernel_rfl) (by kernel_rfl) (by kernel_rfl) (door_met os _)) ?_
  intro W base args ds gs before hval0 hW hcnd _ hL _
  have hval : ∀ (j : Nat) t v, Tryd.f8.params[j]? = some t → args[j]? = some v → Value.okWide Tryd.prog W .any base t v := hval0
  have hW' := hW
  obtain ⟨p, q, hA0, hV, rfl, hfz, hnd⟩ := hW
  have hA : DataW.TrodAll enc Tryd.prog W 0 (fun _ => true) true Tryd.f8.params.toList args.toList ds p := hA0
  rw [Tryd.params8] at hA hval
  obtain ⟨v0, vs0, d0, ds0, p0, q0, hargs, rfl, rfl, h0, r0⟩ := trodAll_cons hA
  obtain ⟨v1, vs1, d1, ds1, p1, q1, rfl, rfl, rfl, h1, r1⟩ := trodAll_cons r0
  obtain ⟨v2, vs2, d2, ds2, p2, q2, rfl, rfl, rfl, h2, r2⟩ := trodAll_cons r1
  obtain ⟨rfl, rfl, rfl⟩ := trodAll_nil r2
  obtain rfl : args = #[v0, v1, v2] := by cases args; simp_all
  obtain ⟨rfl, rfl⟩ := trodVars_none hV
  obtain ⟨a0, n0, c0, rfl⟩ := okWide_slice Tryd.underlying37 (hval 0 37 v0 rfl rfl)
  have k0 := h0
  have lt0 : ∀ x ∈ p0, x.block < W.heap.size := by obtain ⟨m, hm⟩ := k0; exact DataW.trod_lt m _ _ _ hm
  obtain ⟨ts0, w0⟩ := open_tens h0
  obtain ⟨a1, rfl, rfl, rfl, w1⟩ := open_int Tryd.underlying3 (hval 1 3 v1 rfl rfl) h1
  obtain ⟨a2, rfl, rfl, rfl, w2⟩ := open_string Tryd.underlying9 (hval 2 9 v2 rfl rfl) h2
  clear hA0 hval0
  refine (walk a0 n0 c0 ts0 a1 a2 W (of_laid hL) w0 w1 w2).mono fun e W' ⟨he, bel⟩ => ?_
  subst he
  exact ⟨_, rfl, _, _, _, [], _, [], hW', trodAll_mk1 (shut_bool Tryd.underlying4 _), (trodAll_cons_mk (Below.trod laidOut (by kernel_rfl) (of_decide_eq_true (by kernel_rfl)) k0 bel lt0) (trodAll_cons_mk (shut_int Tryd.underlying3 w1) (trodAll_cons_mk (shut_string Tryd.underlying9 w2) trodAll_mk0))), rfl, bel.frame _, fun h => by cases h⟩

theorem over : Rows.passApartRow.holds Tryd.pinned (OpenSpec.ofChange Rows.passApartSpec) :=
  OpenClaim.holds_of_wide 8 Tryd.f8 rfl rfl rfl rfl rfl rfl rfl ⟨rfl, rfl, rfl, rfl, rfl⟩ rfl rfl rfl rfl rfl (by kernel_rfl) Tryd.func8 (by kernel_rfl)
    (of_decide_eq_true (by kernel_rfl)) (by unfold Func.isWrapper; first | (rw [if_pos (by decide +kernel)]; kernel_rfl) | (rw [if_neg (by decide +kernel)]; exact ⟨rfl, rfl⟩))
    (fun os started H enc _ => lifted os started H enc)

theorem said : Rows.PassApartSaid := over
end Go.Proofs.YtpliokkmiijieaaDoor.passApart
namespace Go.Proofs.YtpliokkmiijieaaDoor
/-- The tied card. -/
theorem passApart_card : Rows.PassApartCardSaid :=
  Claim7.holds_tied_plain_at .later [] [.data, .data] true (true, "174549403fd69341d97145101e0688a2ff013689e5871de57477a2bae9234ed5") false
    passApart.said (fun _ h => by cases h) (by kernel_rfl) (fun _ h => by cases h) passApart_row_tie rfl ⟨rfl, rfl⟩ (by kernel_rfl) rfl
    (fun f fn hf hfn => by
      obtain rfl : f = 8 := Option.some.inj ((show Tryd.prog.funcNamed "coaming/coaminglaw05.PassApart" = some 8 by kernel_rfl).symm.trans hf) |>.symm
      obtain rfl : fn = Tryd.f8 := (Option.some.inj (Tryd.func8.symm.trans hfn)).symm
      exact ⟨by kernel_rfl, fun j t ht => by
        rw [Tryd.params8] at ht
        have hm : t ∈ [37,3,9] := by simpa using Array.mem_of_getElem? ht
        have hall : ([37,3,9].all fun u => !Tryd.prog.wantsStandIn u) = true := by kernel_rfl
        exact (show Tryd.prog.wantsStandIn t = false by simpa using List.all_eq_true.1 hall t hm)⟩)
    (by kernel_rfl)
#print axioms passApart_card
end Go.Proofs.YtpliokkmiijieaaDoor
