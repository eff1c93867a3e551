/- Of whatever calls: what was added is taken out once, as it was, and never more than sixteen wait. -/
import Derived.Test.YthmhphjblglcoaaRows
import Derived.Test.YthmhphjblglcoaaPiOn
import Derived.WalkKit
import Derived.ProofKit
import Derived.OpenShut
import Derived.ShutString
import Derived.ChangeOld
import Derived.Below
namespace Go.Proofs.Ythmhphjblglcoaa.pipeOnce
open Go.ChangeShapes Go.WideShapes Go.ChangeAt Go.RowKit
open Go.ChangeMaps (open_string shut_string)
set_option linter.unusedVariables false

theorem own : ownKnob Try.prog.godebug = none := by kernel_rfl
theorem laidOut : laidOutB Try.prog = true := by kernel_rfl

set_option maxRecDepth 10000 in
set_option maxHeartbeats 8000000 in
theorem walk (a0 : Option Addr) (n0 c0 : Nat) (x0 : List Po) (w : World) (w0 : OsIn w a0 n0 x0 ∧ n0 ≤ c0 ∧ (a0 = none → n0 = 0 ∧ c0 = 0)) :
    Calls Try.prog 4 #[.slice a0 n0 c0] w fun e w' => e = .returned (.bool true) ∧ Below w.heap.size w w' := by
  obtain ⟨hrs, hnc, hnil⟩ := w0
  have H := hid_of hrs
  obtain ⟨hv, hHv⟩ : ∃ hv, hv = hvO n0 x0 := ⟨_, rfl⟩
  have HH := heavy_of a0 n0 c0 x0 w hrs
  rw [← hHv] at HH
  have HH' := hid_of HH
  have HHv := hid_of hHv
  have hln := hrs.1
  clear hrs hnc hnil HH hHv
  cases hv with
  | true =>
    go_enter Try.func4, Try.ntmps4
    go_wp2_with (first
      | (go_at_call 7; refine HH'.out.mono ?_; rintro e V0 ⟨rfl, hb0⟩)
      | (go_at_call 8; refine (known_b hb0).mono ?_; rintro e V ⟨rfl, hb⟩))
    go_ret
    exact ⟨rfl, hb⟩
  | false =>
    go_enter Try.func4, Try.ntmps4
    go_wp2_with (first
      | (go_at_call 7; refine HH'.out.mono ?_; rintro e V0 ⟨rfl, hb0⟩)
      | (go_at_call 8; refine (known_b hb0).mono ?_; rintro e V ⟨rfl, hb⟩)
      | (go_at_call 9; refine (pNew_b hb).mono ?_; rintro e V1 ⟨b, rfl, hbb, hp1, hb1⟩))
    have HB : Hid (w.heap.size ≤ b ∧ n0 ≤ 150 ∧ ∀ o ∈ x0, o.p.2.length ≤ 100) := ⟨hbb, hvO_no HHv.out.symm⟩
    clear hb hbb hb0
    have hn150 := HB.out.2.1
    go_loopw [4, 5] (fun v x wr => ∃ (j : Nat) (A : Option Addr) (C : Nat) (L : List Pq), v = .slice A L.length C ∧ x = .int .i64 j ∧ j ≤ n0 ∧ L.length ≤ 16 ∧ PP All wr b L ∧ IrS w wr A C L) (fun _ x _ => n0 - (intOf x).toNat)
    case atStart => exact ⟨0, none, 0, [], rfl, rfl, Nat.zero_le _, by simp, hp1, IrS.start w _ hb1⟩
    case round =>
      clear hp1 hb1
      obtain ⟨j, A, C, L, rfl, rfl, hj, hL, hp, hr⟩ := hrel
      by_cases hlt : j < n0
      · have hj' : (j : Int) < n0 := by omega
        have hwj : IntKind.i64.wrap ((j : Int) + 1) = (j : Int) + 1 := by rw [IntKind.wrap_i64]; omega
        obtain ⟨g, off, o, A1, k1, C1, rfl, ho, hf, hk, hd, hc⟩ := H.out.at hlt
        have hgb : g < w.heap.size := old_block (hc 0 _ rfl)
        have hcw : ∀ (i : Nat) (v : Value), (poL o (.slice A1 k1 C1))[i]? = some v → wr.cell? ⟨g, off + j * 9 + i, none⟩ = some v := fun i v hv => by rw [hr.bel.cell hgb]; exact hc i v hv
        have x00 : wr.cell? ⟨g, off + j * 9, none⟩ = some (.bool o.ad) := hcw 0 _ rfl
        have x02 : wr.cell? ⟨g, off + j * 9 + 2, none⟩ = some (.int .i64 o.k) := hcw 2 _ rfl
        have x03 : wr.cell? ⟨g, off + j * 9 + 3, none⟩ = some (.int .u16 o.p.1.fl) := hcw 3 _ rfl
        have x04 : wr.cell? ⟨g, off + j * 9 + 4, none⟩ = some (.int .u16 o.p.1.kd) := hcw 4 _ rfl
        have x05 : wr.cell? ⟨g, off + j * 9 + 5, none⟩ = some (.int .u64 o.p.1.ck) := hcw 5 _ rfl
        have x06 : wr.cell? ⟨g, off + j * 9 + 6, none⟩ = some (.int .u64 o.p.1.ofs) := hcw 6 _ rfl
        have x07 : wr.cell? ⟨g, off + j * 9 + 7, none⟩ = some (.int .u32 o.p.1.ln) := hcw 7 _ rfl
        have x08 : wr.cell? ⟨g, off + j * 9 + 8, none⟩ = some (.slice A1 k1 C1) := hcw 8 _ rfl
        have HCW := hid_of hc
        have hk100 : o.p.2.length ≤ 100 := HB.out.2.2 o (List.mem_of_getElem? ho)
        have HO := hid_of (And.intro ho (And.intro hf (And.intro hk (And.intro hd (And.intro hk100 (And.intro hp hr))))))
        clear ho hf hk hd hc hcw hp hr hk100 hgb
        obtain ⟨ad, cl, K, ⟨⟨fl, kd, ck, ofs, ln⟩, D⟩⟩ := o
        dsimp only at x00 x02 x03 x04 x05 x06 x07 x08
        cases ad with
        | true =>
          have hkl := HO.out.2.2.2.1.1.1
          dsimp only at hkl
          have HA := hid_of (pAdd_ir (⟨fl, kd, ck, ofs, ln⟩, D) A1 k1 C1 HB.out.1 HO.out.2.2.2.2.2.1 HO.out.2.2.2.2.2.2 HO.out.2.2.2.1 (by have := HO.out.2.2.2.2.1; dsimp only at this; omega) HO.out.2.1)
          clear hkl
          have hLi : (L.length : Int) ≤ 16 := by omega
          by_cases h16 : L.length = 16
          · have e16 : addL L (⟨fl, kd, ck, ofs, ln⟩, D) = L := by simp [addL, h16]
            have HA2 : Hid (Calls Try.prog 13 #[.pointer (some ⟨b, 0, none⟩), .agg #[.int .u16 fl, .int .u16 kd, .int .u64 ck, .int .u64 ofs, .int .u32 ln, .slice A1 k1 C1]] wr fun e w' => e = .returned (.bool false) ∧ Hid (PP All w' b L ∧ IrS w w' A C L)) := by
              refine HA.out.mono ?_
              rintro e w' ⟨rfl, h1, h2⟩
              rw [e16] at h1
              exact ⟨by rw [decide_eq_false (by omega)], h1, h2⟩
            have h16' : (L.length : Int) = 16 := by omega
            have HPL : Hid (∀ V, PP All V b L → Calls Try.prog 18 #[.pointer (some ⟨b, 0, none⟩)] V fun e w' => e = .returned (.int .i64 (L.length : Int)) ∧ w' = V) := fun V hp => pLen_b _ rfl hp
            clear e16 HA
            go_wp2_with (first
              | (go_at_call 13; refine HA2.out.mono ?_; rintro e w2 ⟨rfl, H2⟩)
              | (go_at_call 18; refine (HPL.out _ H2.out.1).mono ?_; rintro e V5 ⟨rfl, rfl⟩))
            exact ⟨⟨j + 1, A, C, L, by rw [h16], by simp, by omega, by omega, H2.out⟩, by simp [intOf]; omega⟩
          · have e16 : addL L (⟨fl, kd, ck, ofs, ln⟩, D) = L ++ [(⟨fl, kd, ck, ofs, ln⟩, D)] := by simp [addL, h16]
            have HA2 : Hid (Calls Try.prog 13 #[.pointer (some ⟨b, 0, none⟩), .agg #[.int .u16 fl, .int .u16 kd, .int .u64 ck, .int .u64 ofs, .int .u32 ln, .slice A1 k1 C1]] wr fun e w' => e = .returned (.bool true) ∧ Hid (∀ i v, i < 9 → (poL ⟨true, cl, K, (⟨fl, kd, ck, ofs, ln⟩, D)⟩ (.slice A1 k1 C1))[i]? = some v → w'.cell? ⟨g, off + j * 9 + i, none⟩ = some v) ∧ ∃ a9 c9 w9, (Builtin.append_ #[43, 43] 43 #[.slice A L.length C, .slice (some ⟨w'.heap.size, 0, none⟩) 1 1]).run Try.prog (w'.alloc (.cells #[.int .u16 fl, .int .u16 kd, .int .u64 ck, .int .u64 ofs, .int .u32 ln, .slice A1 k1 C1] 34)) = .ok (.slice a9 (L.length + 1) c9) w9 ∧ Hid (PP All w9 b (L ++ [(⟨fl, kd, ck, ofs, ln⟩, D)]) ∧ IrS w w9 a9 c9 (L ++ [(⟨fl, kd, ck, ofs, ln⟩, D)]))) := by
              refine HA.out.mono ?_
              rintro e w' ⟨rfl, h1, h2⟩
              rw [e16] at h1
              obtain ⟨a9, c9, w9, e9, p9, i9⟩ := app_ir (p := (⟨fl, kd, ck, ofs, ln⟩, D)) h1 h2 ⟨A1, k1, C1, rfl, HO.out.2.2.2.1, HO.out.2.1, HO.out.2.2.2.2.1⟩ (by omega)
              exact ⟨by rw [decide_eq_true (by omega)], fun i v _ hv => by
                have hgb : g < w.heap.size := old_block (HCW.out 0 _ rfl)
                rw [h2.bel.cell hgb]; exact HCW.out i v hv, a9, c9, w9, e9, p9, i9⟩
            have h16' : ¬ (L.length : Int) = 16 := by omega
            have HPL : Hid (∀ V, PP All V b (L ++ [(⟨fl, kd, ck, ofs, ln⟩, D)]) → Calls Try.prog 18 #[.pointer (some ⟨b, 0, none⟩)] V fun e w' => e = .returned (.int .i64 ((L.length + 1 : Nat) : Int)) ∧ w' = V) := fun V hp => pLen_b _ (by simp) hp
            have hLp : ((L.length + 1 : Nat) : Int) ≤ 16 := by omega
            clear e16 HA
            go_wp2_with (first
              | (go_at_call 13; refine HA2.out.mono ?_; rintro e w2 ⟨rfl, HX, a9, c9, w9, e9, H2⟩; have z3 : w2.cell? ⟨g, off + j * 9 + 3, none⟩ = some (.int .u16 fl) := HX.out 3 _ (by decide) rfl; have z4 : w2.cell? ⟨g, off + j * 9 + 4, none⟩ = some (.int .u16 kd) := HX.out 4 _ (by decide) rfl; have z5 : w2.cell? ⟨g, off + j * 9 + 5, none⟩ = some (.int .u64 ck) := HX.out 5 _ (by decide) rfl; have z6 : w2.cell? ⟨g, off + j * 9 + 6, none⟩ = some (.int .u64 ofs) := HX.out 6 _ (by decide) rfl; have z7 : w2.cell? ⟨g, off + j * 9 + 7, none⟩ = some (.int .u32 ln) := HX.out 7 _ (by decide) rfl; have z8 : w2.cell? ⟨g, off + j * 9 + 8, none⟩ = some (.slice A1 k1 C1) := HX.out 8 _ (by decide) rfl)
              | (at_builtin; refine wpList_append_run rfl _ _ 43 43 rfl _ _ rfl rfl _ _ e9 ?_)
              | (go_at_call 18; refine (HPL.out _ H2.out.1).mono ?_; rintro e V5 ⟨rfl, rfl⟩))
            exact ⟨⟨j + 1, a9, c9, _, by rw [List.length_append]; rfl, by simp, by omega, by simp; omega, H2.out⟩, by simp [intOf]; omega⟩
        | false =>
          by_cases h0 : L.length = 0
          · have hL0 : (L.length : Int) = 0 := by omega
            have HPL : Hid (Calls Try.prog 18 #[.pointer (some ⟨b, 0, none⟩)] wr fun e w' => e = .returned (.int .i64 (L.length : Int)) ∧ w' = wr) := pLen_b _ rfl HO.out.2.2.2.2.2.1
            go_wp2_with (go_at_call 18; refine HPL.out.mono ?_; rintro e V5 ⟨rfl, rfl⟩)
            exact ⟨⟨j + 1, A, C, L, by rw [h0], by simp, by omega, hL, HO.out.2.2.2.2.2⟩, by simp [intOf]; omega⟩
          · have hLp : 0 < L.length := by omega
            have hLi : (0 : Int) < L.length := by omega
            have hL0 : ¬ (L.length : Int) = 0 := by omega
            by_cases hK : K < 0
            · have hκ : 0 < L.length := hLp
              obtain ⟨⟨⟨fl', kd', ck', ofs', ln'⟩, D'⟩, hpe⟩ : ∃ p, L[0]? = some p := ⟨L[0]'hκ, by simp⟩
              obtain ⟨g', A1', k1', C1', rfl, hT⟩ := take_ir HB.out.1 HO.out.2.2.2.2.2.1 HO.out.2.2.2.2.2.2 hpe
              have e0 : ((0 : Nat) : Int) = 0 := rfl
              rw [e0] at hT
              simp only [Nat.zero_mul, Nat.zero_add] at hT
              have HT := hid_of hT
              have hLe : (L.eraseIdx 0).length = L.length - 1 := by simp
              clear hpe hT
              go_wp2_with (go_at_call 15; refine HT.out.mono ?_; rintro e w2 ⟨A2, C2, rfl, HS⟩; have HS' := hid_of HS; clear HS)
              obtain ⟨q2, hq2⟩ : ∃ q2, q2 = w2.heap.size := ⟨_, rfl⟩
              rw [← hq2]
              generalize hV2 : World.alloc w2 _ = V2
              have HS2 := hid_of (HS'.out V2 q2 hV2.symm hq2)
              clear HS' hV2 hq2
              obtain ⟨y0, y1, y2, y3, y4, y5, y6, y7, y8, y9, y10, y11, hcall⟩ := HS2.out V2.drew (Below.refl _ _).drew
              have HC := hid_of hcall
              clear hcall
              go_region_held3 (fun Y => Y.cell? ⟨q2, 0, none⟩ = some (.int .u16 fl') ∧ Y.cell? ⟨q2, 1, none⟩ = some (.int .u16 kd') ∧ Y.cell? ⟨q2, 2, none⟩ = some (.int .u64 ck') ∧ Y.cell? ⟨q2, 3, none⟩ = some (.int .u64 ofs') ∧ Y.cell? ⟨q2, 4, none⟩ = some (.int .u32 ln') ∧ Y.cell? ⟨q2, 5, none⟩ = some (.slice A2 D'.length C2) ∧ Y.cell? ⟨g', 0, none⟩ = some (.int .u16 fl') ∧ Y.cell? ⟨g', 1, none⟩ = some (.int .u16 kd') ∧ Y.cell? ⟨g', 2, none⟩ = some (.int .u64 ck') ∧ Y.cell? ⟨g', 3, none⟩ = some (.int .u64 ofs') ∧ Y.cell? ⟨g', 4, none⟩ = some (.int .u32 ln') ∧ Y.cell? ⟨g', 5, none⟩ = some (.slice A1' k1' C1')) (refine ⟨?_, ?_, ?_, ?_, ?_, ?_, ?_, ?_, ?_, ?_, ?_, ?_⟩ <;> with_reducible assumption)
                (first | (go_simp; go_at_call 17; refine HC.out.mono ?_; rintro e w3 ⟨rfl, hp3, hr3, hb4⟩; obtain ⟨v0, v1, v2, v3, v4, v5, v6, v7, v8, v9, v10, v11, _⟩ := HS2.out w3 hb4; have H3 := hid_of (And.intro hp3 hr3); clear hp3 hr3 hb4))
              clear y0 y1 y2 y3 y4 y5 y6 y7 y8 y9 y10 y11 v0 v1 v2 v3 v4 v5 v6 v7 v8 v9 v10 v11 HC HS2
              obtain ⟨g9, hg9, hcap, a1, c1, w5, e5, hlast⟩ := H3.out.2.left hκ (by omega)
              obtain rfl : g' = g9 := by simpa using hg9
              clear hg9
              have hLm : ((L.length - 1 : Nat) : Int) ≤ 16 := by omega
              by_cases hC : C = 1
              · subst hC
                obtain ⟨a7, c7, w7, e7, i7, b7⟩ := hlast 0 0 (fun h => by omega)
                rw [show L.length - (0 + 1) = 0 by omega] at e7
                have H7 := hid_of (And.intro (H3.out.1.below b7) i7)
                have HPL : Hid (Calls Try.prog 18 #[.pointer (some ⟨b, 0, none⟩)] w7 fun e w' => e = .returned (.int .i64 ((L.length - 1 : Nat) : Int)) ∧ w' = w7) := pLen_b _ (by rw [hLe]) H7.out.1
                clear hlast i7 b7
                go_wp2_with (first
                  | (at_builtin; refine wpList_append_run rfl (.tmp 81) (.tmp 84) 43 43 rfl _ _ rfl rfl _ _ e5 ?_)
                  | (at_builtin; refine wpList_append_run rfl (.tmp 86) (.tmp 90) 43 43 rfl _ _ rfl rfl _ _ e7 ?_)
                  | (go_at_call 18; refine HPL.out.mono ?_; rintro e V5 ⟨rfl, rfl⟩))
                exact ⟨⟨j + 1, a7, c7, _, by rw [hLe]; congr 1; omega, by simp, by omega, by rw [hLe]; omega, H7.out⟩, by simp [intOf]; omega⟩
              · obtain ⟨a7, c7, w7, e7, i7, b7⟩ := hlast 6 (C - 1) (fun _ => rfl)
                have H7 := hid_of (And.intro (H3.out.1.below b7) i7)
                have HPL : Hid (Calls Try.prog 18 #[.pointer (some ⟨b, 0, none⟩)] w7 fun e w' => e = .returned (.int .i64 ((L.length - 1 : Nat) : Int)) ∧ w' = w7) := pLen_b _ (by rw [hLe]) H7.out.1
                clear hlast i7 b7
                go_wp2_with (first
                  | (at_builtin; refine wpList_append_run rfl (.tmp 81) (.tmp 84) 43 43 rfl _ _ rfl rfl _ _ e5 ?_)
                  | (at_builtin; refine wpList_append_run rfl (.tmp 86) (.tmp 90) 43 43 rfl _ _ rfl rfl _ _ e7 ?_)
                  | (go_at_call 18; refine HPL.out.mono ?_; rintro e V5 ⟨rfl, rfl⟩))
                exact ⟨⟨j + 1, a7, c7, _, by rw [hLe], by simp, by omega, by rw [hLe]; omega, H7.out⟩, by simp [intOf]; omega⟩
            · obtain ⟨κ, hκz⟩ : ∃ κ : Nat, K % (L.length : Int) = (κ : Int) := ⟨(K % (L.length : Int)).toNat, (Int.toNat_of_nonneg (Int.emod_nonneg _ (by omega))).symm⟩
              have hκ : κ < L.length := by have := Int.emod_lt_of_pos K hLi; omega
              have hκi : (κ : Int) < L.length := by omega
              have hwκ : IntKind.i64.wrap ((κ : Int) + 1) = (κ : Int) + 1 := by rw [IntKind.wrap_i64]; omega
              obtain ⟨⟨⟨fl', kd', ck', ofs', ln'⟩, D'⟩, hpe⟩ : ∃ p, L[κ]? = some p := ⟨L[κ]'hκ, by simp⟩
              obtain ⟨g', A1', k1', C1', rfl, hT⟩ := take_ir HB.out.1 HO.out.2.2.2.2.2.1 HO.out.2.2.2.2.2.2 hpe
              dsimp only at hT
              have HT := hid_of hT
              have hLe : (L.eraseIdx κ).length = L.length - 1 := by simp [List.length_eraseIdx, hκ]
              clear hpe hT
              go_wp2_with (go_at_call 15; refine HT.out.mono ?_; rintro e w2 ⟨A2, C2, rfl, HS⟩; have HS' := hid_of HS; clear HS)
              obtain ⟨q2, hq2⟩ : ∃ q2, q2 = w2.heap.size := ⟨_, rfl⟩
              rw [← hq2]
              generalize hV2 : World.alloc w2 _ = V2
              have HS2 := hid_of (HS'.out V2 q2 hV2.symm hq2)
              clear HS' hV2 hq2
              obtain ⟨y0, y1, y2, y3, y4, y5, y6, y7, y8, y9, y10, y11, hcall⟩ := HS2.out V2.drew (Below.refl _ _).drew
              have HC := hid_of hcall
              clear hcall
              go_region_held3 (fun Y => Y.cell? ⟨q2, 0, none⟩ = some (.int .u16 fl') ∧ Y.cell? ⟨q2, 1, none⟩ = some (.int .u16 kd') ∧ Y.cell? ⟨q2, 2, none⟩ = some (.int .u64 ck') ∧ Y.cell? ⟨q2, 3, none⟩ = some (.int .u64 ofs') ∧ Y.cell? ⟨q2, 4, none⟩ = some (.int .u32 ln') ∧ Y.cell? ⟨q2, 5, none⟩ = some (.slice A2 D'.length C2) ∧ Y.cell? ⟨g', κ * 6, none⟩ = some (.int .u16 fl') ∧ Y.cell? ⟨g', κ * 6 + 1, none⟩ = some (.int .u16 kd') ∧ Y.cell? ⟨g', κ * 6 + 2, none⟩ = some (.int .u64 ck') ∧ Y.cell? ⟨g', κ * 6 + 3, none⟩ = some (.int .u64 ofs') ∧ Y.cell? ⟨g', κ * 6 + 4, none⟩ = some (.int .u32 ln') ∧ Y.cell? ⟨g', κ * 6 + 5, none⟩ = some (.slice A1' k1' C1')) (refine ⟨?_, ?_, ?_, ?_, ?_, ?_, ?_, ?_, ?_, ?_, ?_, ?_⟩ <;> with_reducible assumption)
                (first | (go_simp; go_at_call 17; refine HC.out.mono ?_; rintro e w3 ⟨rfl, hp3, hr3, hb4⟩; obtain ⟨v0, v1, v2, v3, v4, v5, v6, v7, v8, v9, v10, v11, _⟩ := HS2.out w3 hb4; have H3 := hid_of (And.intro hp3 hr3); clear hp3 hr3 hb4))
              clear y0 y1 y2 y3 y4 y5 y6 y7 y8 y9 y10 y11 v0 v1 v2 v3 v4 v5 v6 v7 v8 v9 v10 v11 HC HS2
              obtain ⟨g9, hg9, hcap, a1, c1, w5, e5, hlast⟩ := H3.out.2.left hκ (by omega)
              obtain rfl : g' = g9 := by simpa using hg9
              clear hg9
              have hLm : ((L.length - 1 : Nat) : Int) ≤ 16 := by omega
              by_cases hC : C = κ + 1
              · subst hC
                obtain ⟨a7, c7, w7, e7, i7, b7⟩ := hlast 0 0 (fun h => by omega)
                rw [show L.length - (κ + 1) = 0 by omega] at e7
                have H7 := hid_of (And.intro (H3.out.1.below b7) i7)
                have HPL : Hid (Calls Try.prog 18 #[.pointer (some ⟨b, 0, none⟩)] w7 fun e w' => e = .returned (.int .i64 ((L.length - 1 : Nat) : Int)) ∧ w' = w7) := pLen_b _ (by rw [hLe]) H7.out.1
                clear hlast i7 b7
                go_wp2_with (first
                  | (at_builtin; refine wpList_append_run rfl (.tmp 81) (.tmp 84) 43 43 rfl _ _ rfl rfl _ _ e5 ?_)
                  | (at_builtin; refine wpList_append_run rfl (.tmp 86) (.tmp 90) 43 43 rfl _ _ rfl rfl _ _ e7 ?_)
                  | (go_at_call 18; refine HPL.out.mono ?_; rintro e V5 ⟨rfl, rfl⟩))
                exact ⟨⟨j + 1, a7, c7, _, by rw [hLe], by simp, by omega, by rw [hLe]; omega, H7.out⟩, by simp [intOf]; omega⟩
              · obtain ⟨a7, c7, w7, e7, i7, b7⟩ := hlast ((κ + 1) * 6) (C - (κ + 1)) (fun _ => rfl)
                have H7 := hid_of (And.intro (H3.out.1.below b7) i7)
                have HPL : Hid (Calls Try.prog 18 #[.pointer (some ⟨b, 0, none⟩)] w7 fun e w' => e = .returned (.int .i64 ((L.length - 1 : Nat) : Int)) ∧ w' = w7) := pLen_b _ (by rw [hLe]) H7.out.1
                clear hlast i7 b7
                go_wp2_with (first
                  | (at_builtin; refine wpList_append_run rfl (.tmp 81) (.tmp 84) 43 43 rfl _ _ rfl rfl _ _ e5 ?_)
                  | (at_builtin; refine wpList_append_run rfl (.tmp 86) (.tmp 90) 43 43 rfl _ _ rfl rfl _ _ e7 ?_)
                  | (go_at_call 18; refine HPL.out.mono ?_; rintro e V5 ⟨rfl, rfl⟩))
                exact ⟨⟨j + 1, a7, c7, _, by rw [hLe], by simp, by omega, by rw [hLe]; omega, H7.out⟩, by simp [intOf]; omega⟩
      · obtain rfl : j = n0 := by omega
        have HO := hid_of (And.intro hp hr)
        clear hp hr
        have HL : Hid (Calls Try.prog 23 #[.pointer (some ⟨b, 0, none⟩)] wr fun e w' => ∃ A2 C2, e = .returned (.slice A2 L.length C2) ∧ Hid (Calls Try.prog 22 #[.slice A2 L.length C2, .slice A L.length C] w' fun e w3 => e = .returned (.bool true) ∧ Below w.heap.size w w3)) := by
          refine (pAll_of HO.out.1).mono ?_
          rintro e w' ⟨A2, C2, rfl, hg⟩
          refine ⟨A2, C2, rfl, ?_⟩
          refine (sameAll_of A2 C2 A C L.length L w' hg.rs (HO.out.2.below hg.bel).rs (by omega)).mono ?_
          rintro e w3 ⟨rfl, h3⟩
          exact ⟨rfl, ((HO.out.2.below hg.bel).bel).trans (h3.mono (HO.out.2.below hg.bel).bel.size)⟩
        go_wp2_with (first
          | (go_at_call 23; refine HL.out.mono ?_; rintro e w2 ⟨A2, C2, rfl, HS⟩)
          | (go_at_call 22; refine HS.out.mono ?_; rintro e w3 ⟨rfl, hb3⟩))
        go_ret
        exact ⟨rfl, hb3⟩

set_option maxRecDepth 100000 in
theorem lifted (os : Os) (started : os.Started) (H : Type) (enc : TypeId × Value → H) :
    ReturnsInHanded {} Try.checked os 4 .any (Rows.pipeOnceSpec.pre6 enc Try.prog Try.f4 Rows.pipeOnceRow.domain false) (Rows.pipeOnceSpec.post enc Try.prog Try.f4 false true false false) := by
  refine returnsInHanded_of_change (C := Try.checked) own started (by kernel_rfl) Try.func4
    (ChangeSpec.witness6 (enc := enc) (C := Try.checked) false ⟨#[], #[.slice none 0 0], []⟩ 8 (by kernel_rfl) (by kernel_rfl) (by kernel_rfl) (by kernel_rfl)) ?_
  intro W base args ds gs before hval0 hW hcnd _
  have hval : ∀ (j : Nat) t v, Try.f4.params[j]? = some t → args[j]? = some v → Value.okWide Try.prog W .any base t v := hval0
  have hW' := hW
  obtain ⟨p, q, hA0, hV, rfl, hfz, hnd⟩ := hW
  have hA : DataW.TrodAll enc Try.prog W 0 (fun _ => true) true Try.f4.params.toList args.toList ds p := hA0
  rw [Try.params4] at hA hval
  obtain ⟨v0, vs0, d0, ds0, p0, q0, hargs, rfl, rfl, h0, r0⟩ := trodAll_cons hA
  obtain ⟨rfl, rfl, rfl⟩ := trodAll_nil r0
  obtain rfl : args = #[v0] := by cases args; simp_all
  obtain ⟨rfl, rfl⟩ := trodVars_none hV
  obtain ⟨a0, n0, c0, rfl⟩ := okWide_slice Try.underlying22 (hval 0 22 v0 rfl rfl)
  have k0 := h0
  have lt0 : ∀ x ∈ p0, x.block < W.heap.size := by obtain ⟨m, hm⟩ := k0; exact DataW.trod_lt m _ _ _ hm
  obtain ⟨x0, w0⟩ := open_pops h0
  clear hA0 hval0
  refine (walk a0 n0 c0 x0 W w0).mono fun e W' ⟨he, bel⟩ => ?_
  subst he
  exact ⟨_, rfl, _, _, _, [], _, [], hW', trodAll_mk1 (shut_bool Try.underlying4 _), (trodAll_cons_mk (Below.trod laidOut (by kernel_rfl) (of_decide_eq_true (by kernel_rfl)) k0 bel lt0) trodAll_mk0), rfl, bel.frame _, fun h => by cases h⟩

theorem over : Rows.pipeOnceRow.holds Try.pinned (OpenSpec.ofChange Rows.pipeOnceSpec) :=
  OpenClaim.holds_of_wide 4 Try.f4 rfl rfl rfl rfl rfl rfl rfl ⟨rfl, rfl, rfl, rfl, rfl⟩ rfl rfl rfl rfl rfl (by kernel_rfl) Try.func4 (by kernel_rfl)
    (of_decide_eq_true (by kernel_rfl)) (by unfold Func.isWrapper; first | (rw [if_pos (by decide +kernel)]; kernel_rfl) | (rw [if_neg (by decide +kernel)]; exact ⟨rfl, rfl⟩))
    (fun os started H enc _ => lifted os started H enc)

end Go.Proofs.Ythmhphjblglcoaa.pipeOnce
namespace Go.Proofs.Ythmhphjblglcoaa
/-- The statement. -/
theorem pipeOnce_holds : Rows.PipeOnceSaid := pipeOnce.over
#print axioms pipeOnce_holds
end Go.Proofs.Ythmhphjblglcoaa
