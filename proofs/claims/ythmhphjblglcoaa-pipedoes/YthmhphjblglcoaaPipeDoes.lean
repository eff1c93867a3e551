/- Of whatever calls: each answers as the chapter says, and so do Len, Full and All behind each. -/
import Derived.Test.YthmhphjblglcoaaRows
import Derived.Test.YthmhphjblglcoaaPiB
import Derived.WalkKit
import Derived.ProofKit
import Derived.OpenShut
import Derived.ShutString
import Derived.ChangeOld
import Derived.Below
namespace Go.Proofs.Ythmhphjblglcoaa.pipeDoes
open Go.ChangeShapes Go.WideShapes Go.ChangeAt Go.RowKit
open Go.ChangeMaps (open_string shut_string)
set_option linter.unusedVariables false

theorem own : ownKnob Try.prog.godebug = none := by kernel_rfl
theorem laidOut : laidOutB Try.prog = true := by kernel_rfl

set_option maxRecDepth 10000 in
set_option maxHeartbeats 8000000 in
theorem walk (a0 : Option Addr) (n0 c0 : Nat) (x0 : List Po) (w : World) (w0 : OsIn w a0 n0 x0 ∧ n0 ≤ c0 ∧ (a0 = none → n0 = 0 ∧ c0 = 0)) :
    Calls Try.prog 3 #[.slice a0 n0 c0] w fun e w' => e = .returned (.bool true) ∧ Below w.heap.size w w' := by
  obtain ⟨hrs, hnc, hnil⟩ := w0
  have H := hid_of hrs
  obtain ⟨hv, hHv⟩ : ∃ hv, hv = hvO n0 x0 := ⟨_, rfl⟩
  have HH := heavy_of a0 n0 c0 x0 w hrs
  rw [← hHv] at HH
  have HH' := hid_of HH
  have HHv := hid_of hHv
  have hln := hrs.1
  clear hrs hnc hnil HH hHv
  cases hv with
  | true =>
    go_enter Try.func3, Try.ntmps3
    go_wp2_with (first
      | (go_at_call 7; refine HH'.out.mono ?_; rintro e V0 ⟨rfl, hb0⟩)
      | (go_at_call 8; refine (known_b hb0).mono ?_; rintro e V ⟨rfl, hb⟩))
    go_ret
    exact ⟨rfl, hb⟩
  | false =>
    go_enter Try.func3, Try.ntmps3
    go_wp2_with (first
      | (go_at_call 7; refine HH'.out.mono ?_; rintro e V0 ⟨rfl, hb0⟩)
      | (go_at_call 8; refine (known_b hb0).mono ?_; rintro e V ⟨rfl, hb⟩)
      | (go_at_call 9; refine (pNew_b hb).mono ?_; rintro e V1 ⟨b, rfl, hbb, hp1, hb1⟩)
      | (go_at_call 10; refine (dpNew_of All V1).mono ?_; rintro e V2 ⟨rfl, hr2, hb2⟩))
    obtain ⟨d, hd⟩ : ∃ d, d = V1.heap.size := ⟨_, rfl⟩
    rw [← hd]
    have HB : Hid (n0 ≤ 150 ∧ (∀ o ∈ x0, o.p.2.length ≤ 100) ∧ B2 w V2 b d [] []) := ⟨(hvO_no HHv.out.symm).1, (hvO_no HHv.out.symm).2, hp1.below hb2, by rw [hd]; exact hr2, hb1.trans (hb2.mono hb1.size), hbb, by rw [hd]; exact hb1.size⟩
    clear hb hbb hb0 hp1 hb1 hr2 hb2 hd
    have hn150 := HB.out.1
    go_loopw [5] (fun x wr => ∃ (j : Nat) (L : List Pq), x = .int .i64 j ∧ j ≤ n0 ∧ L.length ≤ 16 ∧ B2 w wr b d L L) (fun x _ => n0 - (intOf x).toNat)
    case atStart => exact ⟨0, [], rfl, Nat.zero_le _, by simp, HB.out.2.2⟩
    case round =>
      obtain ⟨j, L, rfl, hj, hL, hr⟩ := hrel
      by_cases hlt : j < n0
      · have hj' : (j : Int) < n0 := by omega
        have hwj : IntKind.i64.wrap ((j : Int) + 1) = (j : Int) + 1 := by rw [IntKind.wrap_i64]; omega
        obtain ⟨g, off, o, A1, k1, C1, rfl, ho, hf, hk, hd, hc⟩ := H.out.at hlt
        have hgb : g < w.heap.size := old_block (hc 0 _ rfl)
        have HCW : Hid (∀ V, Below w.heap.size w V → ∀ (i : Nat) (v : Value), (poL o (.slice A1 k1 C1))[i]? = some v → V.cell? ⟨g, off + j * 9 + i, none⟩ = some v) := fun V hV i v hv => by rw [hV.cell hgb]; exact hc i v hv
        have x00 : wr.cell? ⟨g, off + j * 9, none⟩ = some (.bool o.ad) := HCW.out _ hr.bel 0 _ rfl
        have x01 : wr.cell? ⟨g, off + j * 9 + 1, none⟩ = some (.bool o.cl) := HCW.out _ hr.bel 1 _ rfl
        have x02 : wr.cell? ⟨g, off + j * 9 + 2, none⟩ = some (.int .i64 o.k) := HCW.out _ hr.bel 2 _ rfl
        have x03 : wr.cell? ⟨g, off + j * 9 + 3, none⟩ = some (.int .u16 o.p.1.fl) := HCW.out _ hr.bel 3 _ rfl
        have x04 : wr.cell? ⟨g, off + j * 9 + 4, none⟩ = some (.int .u16 o.p.1.kd) := HCW.out _ hr.bel 4 _ rfl
        have x05 : wr.cell? ⟨g, off + j * 9 + 5, none⟩ = some (.int .u64 o.p.1.ck) := HCW.out _ hr.bel 5 _ rfl
        have x06 : wr.cell? ⟨g, off + j * 9 + 6, none⟩ = some (.int .u64 o.p.1.ofs) := HCW.out _ hr.bel 6 _ rfl
        have x07 : wr.cell? ⟨g, off + j * 9 + 7, none⟩ = some (.int .u32 o.p.1.ln) := HCW.out _ hr.bel 7 _ rfl
        have x08 : wr.cell? ⟨g, off + j * 9 + 8, none⟩ = some (.slice A1 k1 C1) := HCW.out _ hr.bel 8 _ rfl
        have hk100 : o.p.2.length ≤ 100 := HB.out.2.1 o (List.mem_of_getElem? ho)
        have HO := hid_of (And.intro ho (And.intro hf (And.intro hk (And.intro hd (And.intro hk100 hr)))))
        clear ho hf hk hd hc hr hk100 hgb
        obtain ⟨ad, cl, K, ⟨⟨fl, kd, ck, ofs, ln⟩, D⟩⟩ := o
        dsimp only at x00 x01 x02 x03 x04 x05 x06 x07 x08
        cases cl with
        | true =>
          have HR := hid_of HO.out.2.2.2.2.2
          go_wp2_with (first
            | (go_at_call 11; refine (bo_pClear HR.out).mono ?_; rintro e w2 ⟨rfl, h2⟩; have HR2 := hid_of h2; clear h2)
            | (go_at_call 12; refine (bo_dpClear HR2.out).mono ?_; rintro e w3 ⟨rfl, h3⟩; have HR3 := hid_of h3; clear h3))
          have hR := HR3.out
          clear HR HR2 HR3
          obtain ⟨M, hM⟩ : ∃ M, M = ([] : List Pq) := ⟨_, rfl⟩
          rw [← hM] at hR
          have hMl : M.length ≤ 16 := by rw [hM]; exact by decide
          obtain ⟨fb, hfb⟩ : ∃ fb, decide (M.length = 16) = fb := ⟨_, rfl⟩
          obtain ⟨nn, hnn⟩ : ∃ nn : Nat, M.length = nn := ⟨_, rfl⟩
          have HL := hid_of (bo_pLen (nn : Int) (by rw [hnn]) hR)
          have HL2 := hid_of (bo_dpLen (nn : Int) (by rw [hnn]) hR)
          have HF := hid_of (bo_pFull fb hfb hR)
          have HF2 := hid_of (bo_dpFull fb hfb hR)
          have HA := hid_of (bo_all nn hnn hR hMl)
          have HE : Hid (M.length ≤ 16) := hMl
          clear hM hMl hfb hnn hR
          go_wp2_with (first
            | (go_at_call 18; refine HL.out.mono ?_; rintro e V5 ⟨rfl, hv⟩; have hv' := hv.symm; clear hv; subst hv')
            | (go_at_call 19; refine HL2.out.mono ?_; rintro e V5 ⟨rfl, hv⟩; have hv' := hv.symm; clear hv; subst hv')
            | (go_at_call 20; refine HF.out.mono ?_; rintro e V5 ⟨rfl, hv⟩; have hv' := hv.symm; clear hv; subst hv')
            | (go_at_call 21; refine HF2.out.mono ?_; rintro e V5 ⟨rfl, hv⟩; have hv' := hv.symm; clear hv; subst hv')
            | (go_at_call 23; refine HA.out.mono ?_; rintro e w5 ⟨A5, C5, rfl, hs5⟩; have HS5 := hid_of hs5; clear hs5)
            | (go_at_call 24; refine HS5.out.mono ?_; rintro e w6 ⟨A6, C6, rfl, hs6⟩; have HS6 := hid_of hs6; clear hs6)
            | (go_at_call 22; refine HS6.out.mono ?_; rintro e w7 ⟨rfl, h7⟩; have HR7 := hid_of h7; clear h7))
          exact ⟨⟨j + 1, M, by simp, by omega, HE.out, HR7.out⟩, by simp [intOf]; omega⟩
        | false =>
          cases ad with
          | true =>
            have HR := hid_of HO.out.2.2.2.2.2
            obtain ⟨ab, hab⟩ : ∃ ab, ab = decide (L.length < 16) := ⟨_, rfl⟩
            have hkl := HO.out.2.2.2.1.1.1
            dsimp only at hkl
            have HA1 : ∀ V, B2 w V b d L L → _ := fun V h => bo_pAdd (⟨fl, kd, ck, ofs, ln⟩, D) A1 k1 C1 h HO.out.2.2.2.1 (by have := HO.out.2.2.2.2.1; dsimp only at this; omega) HO.out.2.1
            have HA2 : ∀ V, B2 w V b d (addL L (⟨fl, kd, ck, ofs, ln⟩, D)) L → _ := fun V h => bo_dpAdd (⟨fl, kd, ck, ofs, ln⟩, D) A1 k1 C1 h HO.out.2.2.2.1 (by have := HO.out.2.2.2.2.1; dsimp only at this; omega) HO.out.2.1
            rw [← hab] at HA1 HA2
            dsimp only at HA1 HA2
            have HA1' := hid_of HA1
            have HA2' := hid_of HA2
            clear HA1 HA2 hkl hab
            go_wp2_with fail
            have HD := hid_of (HO.out.2.2.2.2.2.below (Below.refl _ _).drew)
            have d3 : wr.drew.cell? ⟨g, off + j * 9 + 3, none⟩ = some (.int .u16 fl) := HCW.out _ HD.out.bel 3 _ rfl
            have d4 : wr.drew.cell? ⟨g, off + j * 9 + 4, none⟩ = some (.int .u16 kd) := HCW.out _ HD.out.bel 4 _ rfl
            have d5 : wr.drew.cell? ⟨g, off + j * 9 + 5, none⟩ = some (.int .u64 ck) := HCW.out _ HD.out.bel 5 _ rfl
            have d6 : wr.drew.cell? ⟨g, off + j * 9 + 6, none⟩ = some (.int .u64 ofs) := HCW.out _ HD.out.bel 6 _ rfl
            have d7 : wr.drew.cell? ⟨g, off + j * 9 + 7, none⟩ = some (.int .u32 ln) := HCW.out _ HD.out.bel 7 _ rfl
            have d8 : wr.drew.cell? ⟨g, off + j * 9 + 8, none⟩ = some (.slice A1 k1 C1) := HCW.out _ HD.out.bel 8 _ rfl
            clear x00 x01 x02 x03 x04 x05 x06 x07 x08
            go_region_held3 (fun Y => Y.cell? ⟨g, off + j * 9 + 3, none⟩ = some (.int .u16 fl) ∧ Y.cell? ⟨g, off + j * 9 + 4, none⟩ = some (.int .u16 kd) ∧ Y.cell? ⟨g, off + j * 9 + 5, none⟩ = some (.int .u64 ck) ∧ Y.cell? ⟨g, off + j * 9 + 6, none⟩ = some (.int .u64 ofs) ∧ Y.cell? ⟨g, off + j * 9 + 7, none⟩ = some (.int .u32 ln) ∧ Y.cell? ⟨g, off + j * 9 + 8, none⟩ = some (.slice A1 k1 C1)) (refine ⟨?_, ?_, ?_, ?_, ?_, ?_⟩ <;> with_reducible assumption)
              (first
                | (go_simp; go_at_call 13; refine (HA1'.out _ HD.out).mono ?_; rintro e w2 ⟨rfl, h2⟩; have z3 : w2.cell? ⟨g, off + j * 9 + 3, none⟩ = some (.int .u16 fl) := HCW.out _ h2.bel 3 _ rfl; have z4 : w2.cell? ⟨g, off + j * 9 + 4, none⟩ = some (.int .u16 kd) := HCW.out _ h2.bel 4 _ rfl; have z5 : w2.cell? ⟨g, off + j * 9 + 5, none⟩ = some (.int .u64 ck) := HCW.out _ h2.bel 5 _ rfl; have z6 : w2.cell? ⟨g, off + j * 9 + 6, none⟩ = some (.int .u64 ofs) := HCW.out _ h2.bel 6 _ rfl; have z7 : w2.cell? ⟨g, off + j * 9 + 7, none⟩ = some (.int .u32 ln) := HCW.out _ h2.bel 7 _ rfl; have z8 : w2.cell? ⟨g, off + j * 9 + 8, none⟩ = some (.slice A1 k1 C1) := HCW.out _ h2.bel 8 _ rfl; have HR2 := hid_of h2; clear h2)
                | (go_simp; go_at_call 14; refine (HA2'.out _ HR2.out).mono ?_; rintro e w3 ⟨rfl, h2⟩; have v3 : w3.cell? ⟨g, off + j * 9 + 3, none⟩ = some (.int .u16 fl) := HCW.out _ h2.bel 3 _ rfl; have v4 : w3.cell? ⟨g, off + j * 9 + 4, none⟩ = some (.int .u16 kd) := HCW.out _ h2.bel 4 _ rfl; have v5 : w3.cell? ⟨g, off + j * 9 + 5, none⟩ = some (.int .u64 ck) := HCW.out _ h2.bel 5 _ rfl; have v6 : w3.cell? ⟨g, off + j * 9 + 6, none⟩ = some (.int .u64 ofs) := HCW.out _ h2.bel 6 _ rfl; have v7 : w3.cell? ⟨g, off + j * 9 + 7, none⟩ = some (.int .u32 ln) := HCW.out _ h2.bel 7 _ rfl; have v8 : w3.cell? ⟨g, off + j * 9 + 8, none⟩ = some (.slice A1 k1 C1) := HCW.out _ h2.bel 8 _ rfl; have HR3 := hid_of h2; clear h2))
            clear d3 z3 v3 d4 z4 v4 d5 z5 v5 d6 z6 v6 d7 z7 v7 d8 z8 v8
            have hR := HR3.out
            clear HR HR2 HR3 HD
            obtain ⟨M, hM⟩ : ∃ M, M = addL L (⟨fl, kd, ck, ofs, ln⟩, D) := ⟨_, rfl⟩
            rw [← hM] at hR
            have hMl : M.length ≤ 16 := by rw [hM]; exact addL_few _ hL
            obtain ⟨fb, hfb⟩ : ∃ fb, decide (M.length = 16) = fb := ⟨_, rfl⟩
            obtain ⟨nn, hnn⟩ : ∃ nn : Nat, M.length = nn := ⟨_, rfl⟩
            have HL := hid_of (bo_pLen (nn : Int) (by rw [hnn]) hR)
            have HL2 := hid_of (bo_dpLen (nn : Int) (by rw [hnn]) hR)
            have HF := hid_of (bo_pFull fb hfb hR)
            have HF2 := hid_of (bo_dpFull fb hfb hR)
            have HA := hid_of (bo_all nn hnn hR hMl)
            have HE : Hid (M.length ≤ 16) := hMl
            clear hM hMl hfb hnn hR
            go_wp2_with (first
              | (go_at_call 18; refine HL.out.mono ?_; rintro e V5 ⟨rfl, hv⟩; have hv' := hv.symm; clear hv; subst hv')
              | (go_at_call 19; refine HL2.out.mono ?_; rintro e V5 ⟨rfl, hv⟩; have hv' := hv.symm; clear hv; subst hv')
              | (go_at_call 20; refine HF.out.mono ?_; rintro e V5 ⟨rfl, hv⟩; have hv' := hv.symm; clear hv; subst hv')
              | (go_at_call 21; refine HF2.out.mono ?_; rintro e V5 ⟨rfl, hv⟩; have hv' := hv.symm; clear hv; subst hv')
              | (go_at_call 23; refine HA.out.mono ?_; rintro e w5 ⟨A5, C5, rfl, hs5⟩; have HS5 := hid_of hs5; clear hs5)
              | (go_at_call 24; refine HS5.out.mono ?_; rintro e w6 ⟨A6, C6, rfl, hs6⟩; have HS6 := hid_of hs6; clear hs6)
              | (go_at_call 22; refine HS6.out.mono ?_; rintro e w7 ⟨rfl, h7⟩; have HR7 := hid_of h7; clear h7))
            exact ⟨⟨j + 1, M, by simp, by omega, HE.out, HR7.out⟩, by simp [intOf]; omega⟩
          | false =>
            have HR := hid_of HO.out.2.2.2.2.2
            obtain ⟨t, ht⟩ : ∃ t, t = takeO L K := ⟨_, rfl⟩
            have HT := bo_take K t ht HO.out.2.2.1 HR.out
            obtain ⟨⟨⟨fl', kd', ck', ofs', ln'⟩, D'⟩, tb⟩ := t
            dsimp only at HT
            have HT' := hid_of HT
            clear HT ht
            go_wp2_with (first
              | (go_at_call 15; refine HT'.out.mono ?_; rintro e w2 ⟨A7, C7, rfl, hs2⟩; obtain ⟨hV1b, hT2⟩ := hs2 _ _ rfl rfl; have zK : (w2.alloc (.cells #[.int .u16 fl', .int .u16 kd', .int .u64 ck', .int .u64 ofs', .int .u32 ln', .slice A7 D'.length C7] 34)).cell? ⟨g, off + j * 9 + 2, none⟩ = some (.int .i64 K) := HCW.out _ hV1b 2 _ rfl; have HT2 := hid_of hT2; clear hs2 hV1b hT2)
              | (go_at_call 16; refine HT2.out.mono ?_; rintro e w3 ⟨A8, C8, rfl, hs3⟩; obtain ⟨y0, y1, y2, y3, y4, y5, y6, y7, y8, y9, y10, y11, hcall⟩ := hs3 _ _ rfl rfl _ (Below.refl _ _); have HC := hid_of hcall; clear hs3 hcall)
              | (go_at_call 17; refine HC.out.mono ?_; rintro e w4 ⟨rfl, hR4, _⟩; have HR4 := hid_of hR4; clear hR4))
            have hR := HR4.out
            clear HR HR4
            obtain ⟨M, hM⟩ : ∃ M, M = takeL L K := ⟨_, rfl⟩
            rw [← hM] at hR
            have hMl : M.length ≤ 16 := by rw [hM]; exact (Nat.le_trans (takeL_length K) hL)
            obtain ⟨fb, hfb⟩ : ∃ fb, decide (M.length = 16) = fb := ⟨_, rfl⟩
            obtain ⟨nn, hnn⟩ : ∃ nn : Nat, M.length = nn := ⟨_, rfl⟩
            have HL := hid_of (bo_pLen (nn : Int) (by rw [hnn]) hR)
            have HL2 := hid_of (bo_dpLen (nn : Int) (by rw [hnn]) hR)
            have HF := hid_of (bo_pFull fb hfb hR)
            have HF2 := hid_of (bo_dpFull fb hfb hR)
            have HA := hid_of (bo_all nn hnn hR hMl)
            have HE : Hid (M.length ≤ 16) := hMl
            clear hM hMl hfb hnn hR
            go_wp2_with (first
              | (go_at_call 18; refine HL.out.mono ?_; rintro e V5 ⟨rfl, hv⟩; have hv' := hv.symm; clear hv; subst hv')
              | (go_at_call 19; refine HL2.out.mono ?_; rintro e V5 ⟨rfl, hv⟩; have hv' := hv.symm; clear hv; subst hv')
              | (go_at_call 20; refine HF.out.mono ?_; rintro e V5 ⟨rfl, hv⟩; have hv' := hv.symm; clear hv; subst hv')
              | (go_at_call 21; refine HF2.out.mono ?_; rintro e V5 ⟨rfl, hv⟩; have hv' := hv.symm; clear hv; subst hv')
              | (go_at_call 23; refine HA.out.mono ?_; rintro e w5 ⟨A5, C5, rfl, hs5⟩; have HS5 := hid_of hs5; clear hs5)
              | (go_at_call 24; refine HS5.out.mono ?_; rintro e w6 ⟨A6, C6, rfl, hs6⟩; have HS6 := hid_of hs6; clear hs6)
              | (go_at_call 22; refine HS6.out.mono ?_; rintro e w7 ⟨rfl, h7⟩; have HR7 := hid_of h7; clear h7))
            exact ⟨⟨j + 1, M, by simp, by omega, HE.out, HR7.out⟩, by simp [intOf]; omega⟩
      · obtain rfl : j = n0 := by omega
        have HR := hid_of hr
        clear hr
        go_wp2
        go_ret
        exact ⟨rfl, HR.out.bel⟩

set_option maxRecDepth 100000 in
theorem lifted (os : Os) (started : os.Started) (H : Type) (enc : TypeId × Value → H) :
    ReturnsInHanded {} Try.checked os 3 .any (Rows.pipeDoesSpec.pre6 enc Try.prog Try.f3 Rows.pipeDoesRow.domain false) (Rows.pipeDoesSpec.post enc Try.prog Try.f3 false true false false) := by
  refine returnsInHanded_of_change (C := Try.checked) own started (by kernel_rfl) Try.func3
    (ChangeSpec.witness6 (enc := enc) (C := Try.checked) false ⟨#[], #[.slice none 0 0], []⟩ 8 (by kernel_rfl) (by kernel_rfl) (by kernel_rfl) (by kernel_rfl)) ?_
  intro W base args ds gs before hval0 hW hcnd _
  have hval : ∀ (j : Nat) t v, Try.f3.params[j]? = some t → args[j]? = some v → Value.okWide Try.prog W .any base t v := hval0
  have hW' := hW
  obtain ⟨p, q, hA0, hV, rfl, hfz, hnd⟩ := hW
  have hA : DataW.TrodAll enc Try.prog W 0 (fun _ => true) true Try.f3.params.toList args.toList ds p := hA0
  rw [Try.params3] at hA hval
  obtain ⟨v0, vs0, d0, ds0, p0, q0, hargs, rfl, rfl, h0, r0⟩ := trodAll_cons hA
  obtain ⟨rfl, rfl, rfl⟩ := trodAll_nil r0
  obtain rfl : args = #[v0] := by cases args; simp_all
  obtain ⟨rfl, rfl⟩ := trodVars_none hV
  obtain ⟨a0, n0, c0, rfl⟩ := okWide_slice Try.underlying22 (hval 0 22 v0 rfl rfl)
  have k0 := h0
  have lt0 : ∀ x ∈ p0, x.block < W.heap.size := by obtain ⟨m, hm⟩ := k0; exact DataW.trod_lt m _ _ _ hm
  obtain ⟨x0, w0⟩ := open_pops h0
  clear hA0 hval0
  refine (walk a0 n0 c0 x0 W w0).mono fun e W' ⟨he, bel⟩ => ?_
  subst he
  exact ⟨_, rfl, _, _, _, [], _, [], hW', trodAll_mk1 (shut_bool Try.underlying4 _), (trodAll_cons_mk (Below.trod laidOut (by kernel_rfl) (of_decide_eq_true (by kernel_rfl)) k0 bel lt0) trodAll_mk0), rfl, bel.frame _, fun h => by cases h⟩

theorem over : Rows.pipeDoesRow.holds Try.pinned (OpenSpec.ofChange Rows.pipeDoesSpec) :=
  OpenClaim.holds_of_wide 3 Try.f3 rfl rfl rfl rfl rfl rfl rfl ⟨rfl, rfl, rfl, rfl, rfl⟩ rfl rfl rfl rfl rfl (by kernel_rfl) Try.func3 (by kernel_rfl)
    (of_decide_eq_true (by kernel_rfl)) (by unfold Func.isWrapper; first | (rw [if_pos (by decide +kernel)]; kernel_rfl) | (rw [if_neg (by decide +kernel)]; exact ⟨rfl, rfl⟩))
    (fun os started H enc _ => lifted os started H enc)

end Go.Proofs.Ythmhphjblglcoaa.pipeDoes
namespace Go.Proofs.Ythmhphjblglcoaa
/-- The statement. -/
theorem pipeDoes_holds : Rows.PipeDoesSaid := pipeDoes.over
#print axioms pipeDoes_holds
end Go.Proofs.Ythmhphjblglcoaa
