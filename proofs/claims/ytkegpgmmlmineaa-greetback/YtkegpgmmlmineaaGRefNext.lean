/- What one call of the document's own Next does. -/
import Derived.Test.YtkegpgmmlmineaaGNext
namespace Go.Proofs.Ytkegpgmmlmineaa
open Go.RowKit
set_option linter.unusedVariables false
set_option maxRecDepth 4000

set_option maxHeartbeats 2000000 in
theorem refNext_of (a : Option Addr) (n c : Nat) (xs : List Int) (w : World) (hx : BIn w a n xs) (hnil : a = none → n = 0 ∧ c = 0) (hnc : n ≤ c) (hn : n ≤ 100000) :
    Calls Try.prog 13 #[.slice a n c] w fun e w' => ∃ A k C, e = .returned (.tuple #[.agg (optL (nextK xs) A k C).toArray, .int .i64 (nextC xs), .int .i64 (nextE xs)]) ∧ BIn w' A k (nextD xs) ∧ (A = none → k = 0 ∧ C = 0) ∧ Below w.heap.size w w' := by
  obtain ⟨K0, hK⟩ : ∃ K, K = nextK xs := ⟨_, rfl⟩
  obtain ⟨D0, hD⟩ : ∃ D, D = nextD xs := ⟨_, rfl⟩
  obtain ⟨C0, hC⟩ : ∃ C, C = nextC xs := ⟨_, rfl⟩
  obtain ⟨E0, hE⟩ : ∃ E, E = nextE xs := ⟨_, rfl⟩
  obtain ⟨q, hq⟩ : ∃ q, q = w.heap.size := ⟨_, rfl⟩
  rw [← hK, ← hD, ← hC, ← hE, ← hq]
  have HF : Hid (K0 = nextK xs ∧ D0 = nextD xs ∧ C0 = nextC xs ∧ E0 = nextE xs) := ⟨hK, hD, hC, hE⟩
  have H : Hid (BIn w a n xs ∧ (a = none → n = 0 ∧ c = 0) ∧ n ≤ c ∧ q = w.heap.size) := ⟨hx, hnil, hnc, hq⟩
  clear hx hnil hnc hK hD hC hE
  go_enter Try.func13, Try.ntmps13
  go_wp2_with fail
  rw [← hq]
  clear hq
  refine (refTake_of a n c xs (some ⟨q + 1, 0, none⟩) 3 3 [8, 4, 4] _ ((H.out.1.alloc _).alloc _) H.out.2.1 H.out.2.2.1 (nin_lit 3 (by rw [H.out.2.2.2]; simp) rfl rfl rfl (by omega)) hn (by omega)).mono ?_
  rw [off844, H.out.1.1]
  rintro e V ⟨A, k, D, R, r, F, rfl, ow, ow3, bl⟩
  have HB : Hid (Blk V q (optL 0 none 0 0) 32 ∧ Below q w V) :=
    ⟨(Blk.new' (L := optL 0 none 0 0) H.out.2.2.2.symm rfl).below (below_two H.out.2.2.2 bl).2 (by omega), (below_two H.out.2.2.2 bl).1⟩
  clear bl
  by_cases h16 : 16 ≤ n
  · rw [decide_eq_true h16]
    rw [take844 xs (by rw [H.out.1.1]; exact h16)] at ow
    rw [rest844 xs (by rw [H.out.1.1]; exact h16)] at ow3
    obtain ⟨g, rfl, hk, hc⟩ := own_at ow (by simp)
    have c0 : V.cell? ⟨g, 0, none⟩ = some (.int .u64 (nM xs)) := hc 0 (by simp)
    have c1 : V.cell? ⟨g, 1, none⟩ = some (.int .u64 (nK xs)) := hc 1 (by simp)
    have c2 : V.cell? ⟨g, 2, none⟩ = some (.int .u64 (nL xs)) := hc 2 (by simp)
    have hk1 : k = 3 := by simpa using hk
    subst hk1
    have hr : r = n - 16 := by have := ow3.1; rw [u8s_length, List.length_drop, H.out.1.1] at this; omega
    have hbr : BIn V R r (xs.drop 16) := own_bin ow3 (by unfold maxLen; omega) (fun z hz => H.out.1.2.2.1 z (List.mem_of_mem_drop hz))
    have hrb : r ≤ 100000 := by omega
    have hrF := own_capN ow3
    have hrn := own_nil ow3
    have hl : ¬ xs.length < 16 := by rw [H.out.1.1]; omega
    have f1 := next_magic hl
    have f2 := next_long hl
    have f3 := next_more hl
    have f4 := next_good hl
    obtain ⟨K, eK⟩ : ∃ K, K = nK xs := ⟨_, rfl⟩
    obtain ⟨M, eM⟩ : ∃ M, M = nM xs := ⟨_, rfl⟩
    obtain ⟨Z, eZ⟩ : ∃ Z : Nat, (Z : Int) = nL xs := ⟨(nL xs).toNat, by rw [Int.toNat_of_nonneg (nL_fits H.out.1.2.2.1).1]⟩
    have hKf := nK_fits H.out.1.2.2.1
    rw [← eK] at c1 hKf f4
    rw [← eM] at c0 f1 f2 f3 f4
    rw [← eZ] at c2 f2 f3 f4
    rw [H.out.1.1] at f3 f4
    have HG : Hid ((M ≠ have8 → nextK xs = 0 ∧ nextD xs = [] ∧ nextC xs = 0 ∧ nextE xs = 71) ∧ (M = have8 → 1024 < (Z : Int) → nextK xs = 0 ∧ nextD xs = [] ∧ nextC xs = 0 ∧ nextE xs = 73) ∧
      (M = have8 → ¬ 1024 < (Z : Int) → (n : Int) < 16 + Z → nextK xs = 0 ∧ nextD xs = [] ∧ nextC xs = 0 ∧ nextE xs = 70) ∧
      (M = have8 → ¬ 1024 < (Z : Int) → ¬ (n : Int) < 16 + Z → nextK xs = K ∧ nextD xs = (xs.drop 16).take (Z : Int).toNat ∧ nextC xs = 16 + Z ∧ nextE xs = 0)) := ⟨f1, f2, f3, f4⟩
    have HV : Hid (Blk V q (optL 0 none 0 0) 32 ∧ Below q w V ∧ BIn V R r (xs.drop 16) ∧ r ≤ F ∧ (R = none → r = 0 ∧ F = 0)) := ⟨HB.out.1, HB.out.2, hbr, hrF, hrn⟩
    clear ow ow3 hc hk eK eM eZ hl f1 f2 f3 f4 HB hbr hrF hrn
    by_cases hM : M = have8
    · have HM : Hid (M = have8) := hM
      have hM' : (M != 5280542401877725268) = false := by rw [hM]; rfl
      clear hM
      by_cases hZ : 1024 < (Z : Int)
      · obtain ⟨r1, r2, r3, r4⟩ := HG.out.2.1 HM.out hZ
        have HR : Hid (K0 = 0 ∧ D0 = [] ∧ C0 = 0 ∧ E0 = 73) := ⟨HF.out.1.trans r1, HF.out.2.1.trans r2, HF.out.2.2.1.trans r3, HF.out.2.2.2.trans r4⟩
        clear r1 r2 r3 r4
        go_wp2_with (refine wpList_store_mid rfl 32 (.tmp 2) (.tmp 28) rfl q 0 (optL 0 none 0 0).toArray rfl rfl ?hT (opt_size _ _ _ _) (opt_all _ _ _ _) ?_; (case hT => exact HV.out.1.there 0 2 (by decide)))
        have b3 := HV.out.1.setAll (vs := optL 0 none 0 0) (by rfl)
        refine bodyPost_ret (v := .tuple #[.agg (optL 0 none 0 0).toArray, .int .i64 0, .int .i64 73]) (results_cell_three (p := 2) (u := 3) (v := 4) (ty := 32) rfl _ _ q _ _ _ rfl b3 Try.underlying32 rfl Try.info_option _ _ rfl rfl) rfl ⟨none, 0, 0, ?_, ?_, fun _ => ⟨rfl, rfl⟩, below_setCells (Nat.le_refl _) _ _ _ HV.out.2.1⟩
        · rw [HR.out.1, HR.out.2.2.1, HR.out.2.2.2]
        · rw [HR.out.2.1]; exact bin_none _
      · have hZ1 : (Z : Int) ≤ 1024 := by omega
        by_cases hZn : (r : Int) < Z
        · obtain ⟨r1, r2, r3, r4⟩ := HG.out.2.2.1 HM.out hZ (by omega)
          have HR : Hid (K0 = 0 ∧ D0 = [] ∧ C0 = 0 ∧ E0 = 70) := ⟨HF.out.1.trans r1, HF.out.2.1.trans r2, HF.out.2.2.1.trans r3, HF.out.2.2.2.trans r4⟩
          clear r1 r2 r3 r4
          clear hr
          go_wp2_with (refine wpList_store_mid rfl 32 (.tmp 2) (.tmp 36) rfl q 0 (optL 0 none 0 0).toArray rfl rfl ?hT (opt_size _ _ _ _) (opt_all _ _ _ _) ?_; (case hT => exact HV.out.1.there 0 2 (by decide)))
          have b3 := HV.out.1.setAll (vs := optL 0 none 0 0) (by rfl)
          refine bodyPost_ret (v := .tuple #[.agg (optL 0 none 0 0).toArray, .int .i64 0, .int .i64 70]) (results_cell_three (p := 2) (u := 3) (v := 4) (ty := 32) rfl _ _ q _ _ _ rfl b3 Try.underlying32 rfl Try.info_option _ _ rfl rfl) rfl ⟨none, 0, 0, ?_, ?_, fun _ => ⟨rfl, rfl⟩, below_setCells (Nat.le_refl _) _ _ _ HV.out.2.1⟩
          · rw [HR.out.1, HR.out.2.2.1, HR.out.2.2.2]
          · rw [HR.out.2.1]; exact bin_none _
        · obtain ⟨r1, r2, r3, r4⟩ := HG.out.2.2.2 HM.out hZ (by omega)
          have hZr : (Z : Int) ≤ r := by omega
          have hsl := fun w => slice_front Try.underlying22 Try.one_bytes R r F Z (by have := HV.out.2.2.2.1; omega) w
          have hY : BIn V R Z ((xs.drop 16).take Z) := (HV.out.2.2.1.n.front Z (by omega)).b
          have hnil6 : R = none → Z = 0 ∧ F = 0 := fun e => by have := HV.out.2.2.2.2 e; omega
          have HR : Hid (K0 = K ∧ D0 = (xs.drop 16).take Z ∧ C0 = 16 + (Z : Int) ∧ E0 = 0 ∧ BIn V R Z ((xs.drop 16).take Z) ∧ (R = none → Z = 0 ∧ F = 0) ∧ q < V.heap.size) := ⟨HF.out.1.trans r1, HF.out.2.1.trans r2, HF.out.2.2.1.trans r3, HF.out.2.2.2.trans r4, hY, hnil6, HV.out.1.lt⟩
          have HC : Hid (V.cell? ⟨g, 1, none⟩ = some (.int .u64 K) ∧ V.cell? ⟨g, 2, none⟩ = some (.int .u64 (Z : Int)) ∧ 0 ≤ K ∧ K < 4294967296) := ⟨c1, c2, hKf⟩
          clear r1 r2 r3 r4 hY hnil6 hZn hr hKf
          go_upto_region 12 with (at_builtin; refine wpList_append_bin rfl (.tmp 37) (.tmp 43) rfl V.heap.size none 0 0 [] rfl (World.ownsRow_nil _ _ _ _) R Z F ((xs.drop 16).take Z) rfl HR.out.2.2.2.2.1 HR.out.2.2.2.2.2.1 (by omega) (Nat.le_refl _) ?_; intro A2 C2 w2 ow2 bl2; simp only [Nat.zero_add, List.nil_append] at ow2 ⊢; have u0 := HV.out.1.below bl2 HV.out.1.lt)
          have d1 : w2.cell? ⟨g, 1, none⟩ = some (.int .u64 K) := by rw [bl2.cell (old_block HC.out.1)]; exact HC.out.1
          have d2 : w2.cell? ⟨g, 2, none⟩ = some (.int .u64 (Z : Int)) := by rw [bl2.cell (old_block HC.out.2.1)]; exact HC.out.2.1
          have HO : Hid (w2.ownsRow V.heap.size 5 1 (.slice A2 Z C2) Z (u8s ((xs.drop 16).take Z)) ∧ Below V.heap.size V w2 ∧ Blk w2 q (optL 0 none 0 0) 32) := ⟨ow2, bl2, u0⟩
          have k0 := HC.out.2.2.1
          have k1 := HC.out.2.2.2
          have e0 : w2.cell? ⟨q, 0, none⟩ = some (.int .u32 0) := u0.cell 0
          have e1 : w2.cell? ⟨q, 1, none⟩ = some (.slice none 0 0) := u0.cell 1
          have g0 := u0.frozen 0
          have g1 := u0.frozen 1
          have hqg : q ≠ g := by
            rintro rfl
            rw [d1] at e1
            cases e1
          have hgq : g ≠ q := fun e => hqg e.symm
          clear ow2 bl2 u0 c0 c1 c2
          go_wp2
          go_region
          go_wp2
          have b3 : Blk ((w2.setCell ⟨q, 0, none⟩ (.int .u32 K)).setCell ⟨q, 1, none⟩ (.slice A2 Z C2)).drew q (optL K A2 Z C2) 32 := (HO.out.2.2.setAll (vs := optL K A2 Z C2) (by rfl)).drew
          refine bodyPost_ret (v := .tuple #[.agg (optL K A2 Z C2).toArray, .int .i64 (16 + (Z : Int)), .int .i64 0]) (results_cell_three (p := 2) (u := 3) (v := 4) (ty := 32) rfl _ _ q _ _ _ rfl b3 Try.underlying32 rfl Try.info_option _ _ rfl rfl) rfl ⟨A2, Z, C2, ?_, ?_, own_nil HO.out.1, (((HV.out.2.1.trans (HO.out.2.1.mono (by have := HR.out.2.2.2.2.2.2; omega))).setCell (Nat.le_refl _) _).setCell (Nat.le_refl _) _).drew⟩
          · rw [HR.out.1, HR.out.2.2.1, HR.out.2.2.2.1]
          · rw [HR.out.2.1]
            exact own_bin (own_setCells HR.out.2.2.2.2.2.2 (optL K A2 Z C2) 0 _ HO.out.1).drew (by unfold maxLen; omega) HR.out.2.2.2.2.1.2.2.1
    · obtain ⟨r1, r2, r3, r4⟩ := HG.out.1 hM
      have HR : Hid (K0 = 0 ∧ D0 = [] ∧ C0 = 0 ∧ E0 = 71) := ⟨HF.out.1.trans r1, HF.out.2.1.trans r2, HF.out.2.2.1.trans r3, HF.out.2.2.2.trans r4⟩
      clear r1 r2 r3 r4
      unfold have8 at hM
      have hM' : (M != 5280542401877725268) = true := by simp [hM]
      clear hr
      go_wp2_with (refine wpList_store_mid rfl 32 (.tmp 2) (.tmp 23) rfl q 0 (optL 0 none 0 0).toArray rfl rfl ?hT (opt_size _ _ _ _) (opt_all _ _ _ _) ?_; (case hT => exact HV.out.1.there 0 2 (by decide)))
      have b3 := HV.out.1.setAll (vs := optL 0 none 0 0) (by rfl)
      refine bodyPost_ret (v := .tuple #[.agg (optL 0 none 0 0).toArray, .int .i64 0, .int .i64 71]) (results_cell_three (p := 2) (u := 3) (v := 4) (ty := 32) rfl _ _ q _ _ _ rfl b3 Try.underlying32 rfl Try.info_option _ _ rfl rfl) rfl ⟨none, 0, 0, ?_, ?_, fun _ => ⟨rfl, rfl⟩, below_setCells (Nat.le_refl _) _ _ _ HV.out.2.1⟩
      · rw [HR.out.1, HR.out.2.2.1, HR.out.2.2.2]
      · rw [HR.out.2.1]; exact bin_none _
  · rw [decide_eq_false h16]
    obtain ⟨r1, r2, r3, r4⟩ := next_few (xs := xs) (by rw [H.out.1.1]; omega)
    have HR : Hid (K0 = 0 ∧ D0 = [] ∧ C0 = 0 ∧ E0 = 70) := ⟨HF.out.1.trans r1, HF.out.2.1.trans r2, HF.out.2.2.1.trans r3, HF.out.2.2.2.trans r4⟩
    clear r1 r2 r3 r4
    clear ow ow3 h16
    go_wp2_with (refine wpList_store_mid rfl 32 (.tmp 2) (.tmp 18) rfl q 0 (optL 0 none 0 0).toArray rfl rfl ?hT (opt_size _ _ _ _) (opt_all _ _ _ _) ?_; (case hT => exact HB.out.1.there 0 2 (by decide)))
    have b3 := HB.out.1.setAll (vs := optL 0 none 0 0) (by rfl)
    refine bodyPost_ret (v := .tuple #[.agg (optL 0 none 0 0).toArray, .int .i64 0, .int .i64 70]) (results_cell_three (p := 2) (u := 3) (v := 4) (ty := 32) rfl _ _ q _ _ _ rfl b3 Try.underlying32 rfl Try.info_option _ _ rfl rfl) rfl ⟨none, 0, 0, ?_, ?_, fun _ => ⟨rfl, rfl⟩, below_setCells (Nat.le_refl _) _ _ _ HB.out.2⟩
    · rw [HR.out.1, HR.out.2.2.1, HR.out.2.2.2]
    · rw [HR.out.2.1]; exact bin_none _
end Go.Proofs.Ytkegpgmmlmineaa
