/- For every key, token and number that can be handed in the law PassTags returns true, and the key reads as it did. -/
import Derived.Test.YtpliokkmiijieaaDoorRows
import Derived.Test.YtpliokkmiijieaaDoorCards
import Derived.Test.YtpliokkmiijieaaDoorTie
import Derived.Test.YtpliokkmiijieaaDoorLaid
import Derived.Test.YtpliokkmiijieaaDoorPOpen
import Derived.Test.YtpliokkmiijieaaDoorPKnown
import Derived.Test.YtpliokkmiijieaaDoorPFlip
import Derived.BigQuiet
import Derived.Stop.Joined
import Derived.SevenTiedAt
import Derived.WalkKit
import Derived.ProofKit
import Derived.OpenShut
import Derived.ShutString
import Derived.ChangeOld
import Derived.Below
namespace Go.Proofs.YtpliokkmiijieaaDoor.passTags
open Go.ChangeShapes Go.WideShapes Go.ChangeAt Go.RowKit
open Go.ChangeMaps (open_string shut_string)
set_option linter.unusedVariables false
set_option maxRecDepth 4000

set_option maxHeartbeats 2000000 in
theorem walk (a0 : Option Addr) (n0 c0 : Nat) (z0 : List Int) (t1 : Tok) (a2 : Int) (w : World) (hG : GIn w) (w0 : BIn w a0 n0 z0 ∧ n0 ≤ c0 ∧ (a0 = none → n0 = 0 ∧ c0 = 0)) (w1 : t1.Fits) (w2 : (Lit.int .u8 a2).wf = true) :
    Calls Tryd.prog 7 #[.slice a0 n0 c0, tokV t1, .int .u8 a2] w fun e w' => e = .returned (.bool true) ∧ Below w.heap.size w w' := by
  obtain ⟨q, hq⟩ : ∃ q, q = w.heap.size := ⟨_, rfl⟩
  have z20 := bounds_u8 w2
  obtain ⟨s0, s1⟩ := z20
  have H : Hid (q = w.heap.size ∧ GIn w ∧ (BIn w a0 n0 z0 ∧ n0 ≤ c0 ∧ (a0 = none → n0 = 0 ∧ c0 = 0)) ∧ t1.Fits) := ⟨hq, hG, w0, w1⟩
  rw [← hq]
  have et : tokV t1 = .agg #[.int .u32 t1.tenant, .int .u32 t1.serial, .bool t1.ro, .int .u64 t1.size] := rfl
  rw [et]
  clear hG w0 w1 w2 et
  by_cases hout : (400 : Int) < n0 ∨ n0 = 0
  · go_enter Tryd.func7, Tryd.ntmps7
    go_upto_region 1 with fail
    generalize hV : World.alloc w _ = V
    rw [← hq]
    have HV : Hid (Below q w V ∧ GIn V ∧ q ≤ V.heap.size) := by
      rw [← hV]
      exact ⟨(Below.refl _ _).alloc (by omega) _, H.out.2.1.alloc _, by simp; omega⟩
    clear hV hq
    have K := pknown_any V HV.out.2.1
    have fin : ∀ X, Below V.heap.size V X → Below q w X := fun X bX => HV.out.1.trans (bX.mono HV.out.2.2)
    by_cases h0 : (400 : Int) < n0
    · go_wp2_with (go_at_call 9; refine K.mono ?_; rintro e X ⟨rfl, bX⟩)
      go_ret
      exact ⟨rfl, fin X bX⟩
    · have h0' : (n0 : Int) ≤ 400 := by omega
      have h1 : n0 = 0 := by omega
      subst h1
      go_wp2_with (go_at_call 9; refine K.mono ?_; rintro e X ⟨rfl, bX⟩)
      go_ret
      exact ⟨rfl, fin X bX⟩
  · have h0 : (n0 : Int) ≤ 400 := by omega
    have h1 : ¬ (n0 : Int) = 0 := by omega
    have hb0 : decide ((400 : Int) < n0) = false := by simpa using h0
    have hb1 : ((n0 : Int) == 0) = false := by simpa using h1
    clear hout
    go_enter Tryd.func7, Tryd.ntmps7
    go_upto_region 1 with fail
    generalize hV : World.alloc w _ = V
    rw [← hq]
    have HV : Hid (Below q w V ∧ GIn V ∧ q < V.heap.size ∧ Blk V q (tokL t1) 26) := by
      rw [← hV]
      exact ⟨(Below.refl _ _).alloc (by omega) _, H.out.2.1.alloc _, by simp; omega, Blk.new' (L := tokL t1) hq.symm rfl⟩
    clear hV hq
    go_upto_region 3 with (go_at_call 9; refine (pknown_any V HV.out.2.1).mono ?_; rintro e w1 ⟨rfl, b1⟩)
    have H1 : Hid (Below q w w1 ∧ GIn w1 ∧ q < w1.heap.size ∧ Blk w1 q (tokL t1) 26 ∧ BIn w1 a0 n0 z0) := by
      have bq : Below q w w1 := HV.out.1.trans (b1.mono (by have := HV.out.2.2.1; omega))
      have bw : Below w.heap.size w w1 := by rw [← H.out.1]; exact bq
      exact ⟨bq, H.out.2.1.below bw H.out.2.1.lt, by have := b1.size; have := HV.out.2.2.1; omega, HV.out.2.2.2.below b1 HV.out.2.2.1, H.out.2.2.1.1.below bw⟩
    clear b1 HV
    have k1 := H1.out.2.2.2.1
    have IS := passIssue_of a0 n0 c0 z0 t1 w1 H1.out.2.1 H1.out.2.2.2.2 (by omega) H.out.2.2.1.2.1 H.out.2.2.2
    obtain ⟨B, hB⟩ : ∃ B, B = issueB z0 t1 := ⟨_, rfl⟩
    obtain ⟨cs, hcs⟩ : ∃ cs, cs = wrI B := ⟨_, rfl⟩
    obtain ⟨s, hs⟩ : ∃ s, s = strOfNums cs := ⟨_, rfl⟩
    have hci : issueI z0 t1 = cs := by rw [hcs, hB]; rfl
    rw [hci, ← hs] at IS
    have hBl : B.length = 50 := by rw [hB]; exact issueB_length _ _
    have hcl : cs.length = 80 := by rw [hcs, wrI_length, hBl]; rfl
    have hsz : s.size = 80 := by rw [hs, strOfNums_size, hcl]
    obtain ⟨A, hA⟩ : ∃ A : Nat, 30 + a2 % 49 = A := ⟨(30 + a2 % 49).toNat, by omega⟩
    have hA0 : 30 ≤ A := by omega
    have hA1 : A < 79 := by omega
    obtain ⟨v, hv⟩ : ∃ v : Nat, (fives B).getD A 0 = v := by
      have := (fives_fit B).at A
      exact ⟨((fives B).getD A 0).toNat, by omega⟩
    have hv1 : v < 32 := by have := (fives_fit B).at A; rw [hv] at this; have := this.2; omega
    have hcA : cs.getD A 0 = signI v := by
      have hl : A < scN B.length := by rw [hBl]; show A < 80; omega
      rw [hcs, wrI_at B A hl, ← fives_at B A hl, hv]
    have HS : Hid (B = issueB z0 t1 ∧ cs = wrI B ∧ s = strOfNums cs ∧ B.length = 50 ∧ cs.length = 80 ∧ (fives B).getD A 0 = v ∧ cs.getD A 0 = signI v ∧ ∀ z ∈ cs, Fits8 z) := ⟨hB, hcs, hs, hBl, hcl, hv, hcA, by rw [hcs]; exact wrI_fits B⟩
    have hidx := fun w => str_index hs HS.out.2.2.2.2.2.2.2 (show A < cs.length by omega) hcA w
    clear hB hcs hs hci hBl hcl hv hcA
    go_upto_region 4 with (first
      | (refine wpList_load_mid rfl 26 (.tmp 4) rfl q 0 rfl _ _ k1.whole Tryd.underlying26 rfl Tryd.info_token ?_)
      | (go_at_call 10; refine IS.mono ?_; rintro e w2 ⟨rfl, b2⟩))
    have H2 : Hid (Below q w w2 ∧ GIn w2 ∧ q < w2.heap.size ∧ Blk w2 q (tokL t1) 26 ∧ BIn w2 a0 n0 z0) := by
      have h3 := H1.out.2.2.1
      exact ⟨H1.out.1.trans (b2.mono (by omega)), H1.out.2.1.below b2 H1.out.2.1.lt, by have := b2.size; omega, H1.out.2.2.2.1.below b2 h3, H1.out.2.2.2.2.below b2⟩
    clear b2 IS H1 k1
    obtain ⟨j, hj⟩ : ∃ j : Nat, a2 / 49 % 5 = j := ⟨(a2 / 49 % 5).toNat, by omega⟩
    have hj5 : j < 5 := by omega
    have hxs := xor_small ⟨v, hv1⟩ ⟨j, hj5⟩
    dsimp only at hxs
    obtain ⟨x, hx⟩ : ∃ x, x = v ^^^ 2 ^ j := ⟨_, rfl⟩
    rw [← hx] at hxs
    obtain ⟨hx1, hx2⟩ := hxs
    have hxw : bits .xor .i64 (v : Int) (wrap64 (2 ^ j)) = x := by
      rw [wrap_pow hj5]
      have := i64_xor_nat v (2 ^ j) (by omega) (by have : 2 ^ j ≤ 2 ^ 5 := Nat.pow_le_pow_right (by omega) (by omega); omega)
      rw [hx, ← this]
      simp
    have HX : Hid (x ≠ v) := hx2
    clear hx hx2
    go_wp2
    go_loopw [9] (fun i wr => ∃ (k d : Nat), k ≤ v ∧ i = .int .i64 k ∧ wr = w2.drewN d)
      (fun i _ => v - (intOf i).toNat)
    case atStart => exact ⟨0, 0, by omega, rfl, rfl⟩
    case round =>
      obtain ⟨k, d, hk, rfl, rfl⟩ := hrel
      have hix := fun w => sign_index k (by omega) w
      unfold signsS at hix
      by_cases hkv : k = v
      · subst hkv
        go_wp2
        go_quiet (fail)
        go_wp2
        have hsl := fun w => sign_slice x hx1 w
        unfold signsS at hsl
        have g1 : (strOfNums [signI (x : Int)]).size = 1 := by rw [strOfNums_size]; rfl
        clear hix hidx hxw hj
        go_quiet (fail)
        obtain ⟨u, hu⟩ : ∃ u, u = strOfNums (flipS B A x) := ⟨_, rfl⟩
        have hue : s.extract 0 A ++ strOfNums [signI (x : Int)] ++ s.extract (A + 1) 80 = u := by
          rw [hu, HS.out.2.2.1, str_part, str_part, str_app, str_app, flip_text B x (by rw [HS.out.2.2.2.1]; show A < 80; omega), ← HS.out.2.1, List.drop_zero, Nat.sub_zero, List.take_of_length_le (l := cs.drop (A + 1)) (by rw [List.length_drop, HS.out.2.2.2.2.1]; omega)]
        rw [hue]
        have HU0 : Hid (u = strOfNums (flipS B A x)) := hu
        clear hue hu
        have H3' : ∀ a b, Below q w ((w2.drewN a).drewN b) ∧ GIn ((w2.drewN a).drewN b) ∧ q < ((w2.drewN a).drewN b).heap.size ∧ Blk ((w2.drewN a).drewN b) q (tokL t1) 26 ∧ BIn ((w2.drewN a).drewN b) a0 n0 z0 := fun a b => ⟨below_drewN (below_drewN H2.out.1 _) _, H2.out.2.1, H2.out.2.2.1, H2.out.2.2.2.1, H2.out.2.2.2.2⟩
        generalize hw3 : World.drewN (World.drewN w2 _) _ = w3
        have H3 : Hid (Below q w w3 ∧ GIn w3 ∧ q < w3.heap.size ∧ Blk w3 q (tokL t1) 26 ∧ BIn w3 a0 n0 z0) := by rw [← hw3]; exact H3' _ _
        clear H3' hw3 H2 hsl g1
        have hft := H.out.2.2.2
        obtain ⟨T, hT⟩ : ∃ T : Ten, T = ⟨t1.tenant, z0, 0, 18446744073709551615, []⟩ := ⟨_, rfl⟩
        have ck1 : checkI [T] (flipS B A x) = (tok0, 52) := by
          rw [HS.out.1]
          exact flip_check hft ⟨by rw [hT], by rw [hT]⟩ (by omega) (by omega) hA0 (by omega) (by rw [← HS.out.1, HS.out.2.2.2.2.2.1]; intro e; exact HX.out (by omega))
        have N1 := new_one a0 n0 c0 z0 t1.tenant 18446744073709551615 w3 H3.out.2.2.2.2 H.out.2.2.1.2.1 H.out.2.2.1.2.2 (by omega) (by omega) hft.1 (by omega) (by omega)
        rw [← hT] at N1
        have k0 : w3.cell? ⟨q, 0, none⟩ = some (.int .u32 t1.tenant) := H3.out.2.2.2.1.cell 0
        obtain ⟨I, hI⟩ : ∃ I, I = t1.tenant := ⟨_, rfl⟩
        have hI0 : 0 ≤ I := by rw [hI]; exact hft.1.1
        have hI1 : I < 4294967296 := by rw [hI]; exact hft.1.2
        go_upto_region 13 with (go_at_call 16; refine N1.mono ?_; rintro e w4 ⟨p4, rfl, hT4, b4⟩)
        have H4 : Hid (Below q w w4 ∧ GIn w4 ∧ q < w4.heap.size ∧ Blk w4 q (tokL t1) 26 ∧ BIn w4 a0 n0 z0 ∧ TabIn 0 w4 p4 [T]) := by
          have h3 := H3.out.2.2.1
          exact ⟨H3.out.1.trans (b4.mono (by omega)), H3.out.2.1.below b4 H3.out.2.1.lt, by have := b4.size; omega, H3.out.2.2.2.1.below b4 h3, H3.out.2.2.2.2.below b4, hT4⟩
        have k4 : w4.cell? ⟨q, 0, none⟩ = some (.int .u32 I) := by rw [hI]; exact H4.out.2.2.2.1.cell 0
        rw [hI] at k4
        obtain ⟨J, hJ⟩ : ∃ J, J = (t1.tenant + 1) % 4294967296 := ⟨_, rfl⟩
        have hJ0 : Fits32 J := by unfold Fits32; omega
        have hJ1 : J ≠ t1.tenant := by rw [← hI]; rw [← hI] at hJ; omega
        obtain ⟨T2, hT2⟩ : ∃ T2 : Ten, T2 = ⟨J, z0, 0, 18446744073709551615, []⟩ := ⟨_, rfl⟩
        have N2 := new_one a0 n0 c0 z0 J 18446744073709551615 w4 H4.out.2.2.2.2.1 H.out.2.2.1.2.1 H.out.2.2.1.2.2 (by omega) (by omega) hJ0 (by omega) (by omega)
        rw [← hT2] at N2
        rw [hJ] at N2
        have ck2 : checkI [T2] cs = (tok0, 51) := by
          obtain ⟨g1, g2, g3, g4⟩ := issue_good z0 hft
          have e : issueI z0 t1 = cs := by rw [HS.out.2.1, HS.out.1]; rfl
          rw [e] at g1 g4
          unfold checkI
          rw [if_pos g1, g4]
          have hf : findT [T2] t1.tenant = none := by unfold findT; rw [hT2]; simp [hJ1]
          rw [hf]
          rfl
        have hsmT : ∀ t ∈ [T], Small t := by intro t ht; simp only [List.mem_cons, List.not_mem_nil, or_false] at ht; rw [ht, hT]; exact ⟨by dsimp only; rw [H4.out.2.2.2.2.1.1]; omega, by simp⟩
        have hsmT2 : ∀ t ∈ [T2], Small t := by intro t ht; simp only [List.mem_cons, List.not_mem_nil, or_false] at ht; rw [ht, hT2]; exact ⟨by dsimp only; rw [H4.out.2.2.2.2.1.1]; omega, by simp⟩
        have CK1 := fun w h hG => check_of 0 p4 [T] u (flipS B A x) 80 w h hG HU0.out (flip_fits (by omega) (by omega)) (by unfold flipS; rw [List.length_map, flipV_length, HS.out.2.2.2.1]; rfl) (by omega) hsmT
        rw [ck1] at CK1
        have CK2 := fun p w h hG => check_of 0 p [T2] s cs 80 w h hG HS.out.2.2.1 HS.out.2.2.2.2.2.2.2 HS.out.2.2.2.2.1 (by omega) hsmT2
        rw [ck2] at CK2
        dsimp only at CK1 CK2
        clear b4 hT4 N1 H3 k0 hJ hJ0 hJ1 hI hI0 hI1 ck1 ck2 hsmT hsmT2 hT hT2
        go_upto_region 14 with (go_at_call 16; refine N2.mono ?_; rintro e w5 ⟨p5, rfl, hT5, b5⟩)
        have H5 : Hid (Below q w w5 ∧ GIn w5 ∧ q < w5.heap.size ∧ TabIn 0 w5 p4 [T] ∧ TabIn 0 w5 p5 [T2]) := by
          have h3 := H4.out.2.2.1
          exact ⟨H4.out.1.trans (b5.mono (by omega)), H4.out.2.1.below b5 H4.out.2.1.lt, by have := b5.size; omega, H4.out.2.2.2.2.2.below b5, hT5⟩
        have C1 := CK1 w5 H5.out.2.2.2.1 H5.out.2.1
        clear b5 hT5 N2 H4 k4 CK1
        go_upto_region 17 with (first
          | (go_at_call 18; refine C1.mono ?_; rintro e w6 ⟨rfl, b6⟩)
          | (refine wpList_store_mid rfl 26 (.tmp 15) (.tmp 98) rfl w6.heap.size 0 (tokL tok0).toArray rfl rfl ?hT (tok_size _) (tok_all _) ?_; (case hT => exact tok_there _)))
        generalize hU : World.setCells _ _ _ _ = U
        have HU : Hid (Below q w U ∧ GIn U ∧ q < U.heap.size ∧ TabIn 0 U p5 [T2]) := by
          have h1 := b6.size
          have h3 := H5.out.2.2.1
          have bu : Below w6.heap.size w6 U := by rw [← hU]; exact below_setCells (Nat.le_refl _) _ _ _ ((Below.refl _ _).alloc (Nat.le_refl _) _)
          have bb : Below w5.heap.size w5 U := b6.trans (bu.mono h1)
          exact ⟨H5.out.1.trans (bb.mono (by omega)), H5.out.2.1.below bb H5.out.2.1.lt, by have := bb.size; omega, H5.out.2.2.2.2.below bb⟩
        have C2 := CK2 p5 U HU.out.2.2.2 HU.out.2.1
        clear hU b6 C1 H5 CK2
        go_upto_region 18 with (first
          | (go_at_call 18; refine C2.mono ?_; rintro e w7 ⟨rfl, b7⟩)
          | (refine wpList_store_mid rfl 26 (.tmp 17) (.tmp 104) rfl w7.heap.size 0 (tokL tok0).toArray rfl rfl ?hT (tok_size _) (tok_all _) ?_; (case hT => exact tok_there _)))
        generalize hX : World.setCells _ _ _ _ = X
        have HXX : Hid (Below q w X) := by
          have h1 := b7.size
          have h3 := HU.out.2.2.1
          have bx : Below w7.heap.size w7 X := by rw [← hX]; exact below_setCells (Nat.le_refl _) _ _ _ ((Below.refl _ _).alloc (Nat.le_refl _) _)
          have bb : Below U.heap.size U X := b7.trans (bx.mono h1)
          exact HU.out.1.trans (bb.mono (by omega))
        clear hX b7 C2 HU
        go_wp2
        go_ret
        exact ⟨rfl, HXX.out⟩
      · have hne : ¬ signI (k : Int) = signI (v : Int) := fun h => hkv (sign_inj (by omega) hv1 h)
        obtain ⟨S1, hS1⟩ : ∃ S1, S1 = signI (k : Int) := ⟨_, rfl⟩
        obtain ⟨S2, hS2⟩ : ∃ S2, S2 = signI (v : Int) := ⟨_, rfl⟩
        rw [← hS1] at hix hne
        rw [← hS2] at hidx hne
        go_wp2
        go_quiet (fail)
        go_wp2
        go_roundw
        case rel => exact ⟨k + 1, _, by omega, by go_num, rfl⟩
        case measure => simp [intOf]; omega

set_option maxRecDepth 100000 in
theorem lifted (os : Os) (started : os.Started) (H : Type) (enc : TypeId × Value → H) :
    ReturnsInHanded {} Tryd.checked os 7 .any (fun w args => (Rows.passTagsSpec.pre enc Tryd.prog Tryd.f7 [] false w args ∧ laidMetH Tryd.prog laid2 w) ∧ sizedMet enc Tryd.prog Tryd.f7 (OpenSpec.ofChange Rows.passTagsSpec) false w args)
      (Rows.passTagsSpec.post enc Tryd.prog Tryd.f7 false true false false) := by
  refine returnsInHanded_of_change_and (C := Tryd.checked) (X := fun w _ => laidMetH Tryd.prog laid2 w) (fun _ _ _ hh h => h.of_heap hh) own started (by kernel_rfl) Tryd.func7
    (ChangeSpec.witness_shaped (enc := enc) (C := Tryd.checked) (os := os) (X := fun w _ => laidMetH Tryd.prog laid2 w) false (World.doorLaid Tryd.prog 400 os) #[.slice none 0 0, .agg #[.int .u32 0, .int .u32 0, .bool false, .int .u64 0], .int .u8 0] 8 rfl (World.shaped_of_RefB (by kernel_rfl) (by kernel_rfl)) (by kernel_rfl) (by kernel_rfl) (by kernel_rfl) (door_met os _)) ?_
  intro W base args ds gs before hval0 hW hcnd _ hL _
  have hval : ∀ (j : Nat) t v, Tryd.f7.params[j]? = some t → args[j]? = some v → Value.okWide Tryd.prog W .any base t v := hval0
  have hW' := hW
  obtain ⟨p, q, hA0, hV, rfl, hfz, hnd⟩ := hW
  have hA : DataW.TrodAll enc Tryd.prog W 0 (fun _ => true) true Tryd.f7.params.toList args.toList ds p := hA0
  rw [Tryd.params7] at hA hval
  obtain ⟨v0, vs0, d0, ds0, p0, q0, hargs, rfl, rfl, h0, r0⟩ := trodAll_cons hA
  obtain ⟨v1, vs1, d1, ds1, p1, q1, rfl, rfl, rfl, h1, r1⟩ := trodAll_cons r0
  obtain ⟨v2, vs2, d2, ds2, p2, q2, rfl, rfl, rfl, h2, r2⟩ := trodAll_cons r1
  obtain ⟨rfl, rfl, rfl⟩ := trodAll_nil r2
  obtain rfl : args = #[v0, v1, v2] := by cases args; simp_all
  obtain ⟨rfl, rfl⟩ := trodVars_none hV
  obtain ⟨a0, n0, c0, rfl⟩ := okWide_slice Tryd.underlying22 (hval 0 22 v0 rfl rfl)
  have k0 := h0
  have lt0 : ∀ x ∈ p0, x.block < W.heap.size := by obtain ⟨m, hm⟩ := k0; exact DataW.trod_lt m _ _ _ hm
  obtain ⟨z0, w0⟩ := open_bytes h0
  have k1 := h1
  have lt1 : ∀ x ∈ p1, x.block < W.heap.size := by obtain ⟨m, hm⟩ := k1; exact DataW.trod_lt m _ _ _ hm
  obtain ⟨t1, rfl, w1⟩ := open_token (hval 1 26 v1 rfl rfl) h1
  obtain ⟨a2, rfl, rfl, rfl, w2⟩ := open_int Tryd.underlying5 (hval 2 5 v2 rfl rfl) h2
  clear hA0 hval0
  refine (walk a0 n0 c0 z0 t1 a2 W (of_laid hL) w0 w1 w2).mono fun e W' ⟨he, bel⟩ => ?_
  subst he
  exact ⟨_, rfl, _, _, _, [], _, [], hW', trodAll_mk1 (shut_bool Tryd.underlying4 _), (trodAll_cons_mk (Below.trod laidOut (by kernel_rfl) (of_decide_eq_true (by kernel_rfl)) k0 bel lt0) (trodAll_cons_mk (Below.trod laidOut (by kernel_rfl) (of_decide_eq_true (by kernel_rfl)) k1 bel lt1) (trodAll_cons_mk (shut_int Tryd.underlying5 w2) trodAll_mk0))), rfl, bel.frame _, fun h => by cases h⟩

theorem over : Rows.passTagsRow.holds Tryd.pinned (OpenSpec.ofChange Rows.passTagsSpec) :=
  OpenClaim.holds_of_wide 7 Tryd.f7 rfl rfl rfl rfl rfl rfl rfl ⟨rfl, rfl, rfl, rfl, rfl⟩ rfl rfl rfl rfl rfl (by kernel_rfl) Tryd.func7 (by kernel_rfl)
    (of_decide_eq_true (by kernel_rfl)) (by unfold Func.isWrapper; first | (rw [if_pos (by decide +kernel)]; kernel_rfl) | (rw [if_neg (by decide +kernel)]; exact ⟨rfl, rfl⟩))
    (fun os started H enc _ => lifted os started H enc)

theorem said : Rows.PassTagsSaid := over
end Go.Proofs.YtpliokkmiijieaaDoor.passTags
namespace Go.Proofs.YtpliokkmiijieaaDoor
/-- The tied card. -/
theorem passTags_card : Rows.PassTagsCardSaid :=
  Claim7.holds_tied_plain_at .later [] [.data, .data] true (true, "174549403fd69341d97145101e0688a2ff013689e5871de57477a2bae9234ed5") false
    passTags.said (fun _ h => by cases h) (by kernel_rfl) (fun _ h => by cases h) passTags_row_tie rfl ⟨rfl, rfl⟩ (by kernel_rfl) rfl
    (fun f fn hf hfn => by
      obtain rfl : f = 7 := Option.some.inj ((show Tryd.prog.funcNamed "coaming/coaminglaw05.PassTags" = some 7 by kernel_rfl).symm.trans hf) |>.symm
      obtain rfl : fn = Tryd.f7 := (Option.some.inj (Tryd.func7.symm.trans hfn)).symm
      exact ⟨by kernel_rfl, fun j t ht => by
        rw [Tryd.params7] at ht
        have hm : t ∈ [22,26,5] := by simpa using Array.mem_of_getElem? ht
        have hall : ([22,26,5].all fun u => !Tryd.prog.wantsStandIn u) = true := by kernel_rfl
        exact (show Tryd.prog.wantsStandIn t = false by simpa using List.all_eq_true.1 hall t hm)⟩)
    (by kernel_rfl)
#print axioms passTags_card
end Go.Proofs.YtpliokkmiijieaaDoor
