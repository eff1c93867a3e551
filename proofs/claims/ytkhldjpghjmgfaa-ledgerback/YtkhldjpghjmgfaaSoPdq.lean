/- pdqsort: what comes out is sorted. -/
import Derived.Test.YtkhldjpghjmgfaaSoIns
import Derived.Test.YtkhldjpghjmgfaaSoHeap
import Derived.Test.YtkhldjpghjmgfaaSoRev
import Derived.Test.YtkhldjpghjmgfaaSoCh
import Derived.Test.YtkhldjpghjmgfaaSoBrk
import Derived.Test.YtkhldjpghjmgfaaSoPEq
import Derived.Test.YtkhldjpghjmgfaaSoPI
import Derived.Deep.Cut
import Derived.Deep.DeepCutAuto
namespace Go.Proofs.Ytkhldjpghjmgfaa
open Go.RowKit Go.Sort
set_option linter.unusedVariables false

theorem swoI : SWO ltInt := by
  refine ⟨fun x => by simp [ltInt], fun x y z h1 h2 => ?_, fun x y z h1 h2 => ?_⟩
  · simp only [ltInt, decide_eq_true_eq] at h1 h2 ⊢; omega
  · simp only [ltInt, decide_eq_false_iff_not] at h1 h2 ⊢; omega
set_option maxRecDepth 100000 in
set_option maxHeartbeats 8000000 in
theorem pdq_of (W : World) (B g n cap : Nat) (hn : n ≤ 1000) : ∀ (k a b L : Nat) (d : Array Int) (w : World), b - a ≤ k → SR W w B g n cap d → a ≤ b → b ≤ n → Sort.Below ltInt a b d → L ≤ 100 →
    Calls Try.prog 42 #[.slice (some ⟨g, 0, none⟩) n cap, .int .i64 a, .int .i64 b, .int .i64 L] w fun e w' => e = .returned (.tuple #[]) ∧ ∃ d', PermIn a b d d' ∧ SortedIn ltInt a b d' ∧ SR W w' B g n cap d' := by
  intro k
  induction k using Nat.strongRecOn with
  | ind k ih =>
    intro a b L d w hk h hab hb hB hL
    --BODY
    have H0 : Hid (SR W w B g n cap d ∧ Sort.Below ltInt a b d ∧ a ≤ b ∧ b ≤ n ∧ L ≤ 100 ∧ b - a ≤ k) := ⟨h, hB, hab, hb, hL, hk⟩
    clear h hB hab hb hL hk
    go_enter Try.func42, Try.ntmps42
    go_wp2
    go_loopw [1, 2, 3, 8, 9] (fun va vb vl vwb vwp wr => ∃ (a1 b1 L1 : Nat) (wb wp : Bool) (dk : Array Int), va = .int .i64 a1 ∧ vb = .int .i64 b1 ∧ vl = .int .i64 L1 ∧ vwb = .bool wb ∧ vwp = .bool wp ∧ (a1 ≤ b1 ∧ b1 ≤ n ∧ L1 ≤ 100 ∧ b1 - a1 ≤ k) ∧ Sort.Below ltInt a1 b1 dk ∧ SR W wr B g n cap dk ∧ ∀ R, PermIn a1 b1 dk R → SortedIn ltInt a1 b1 R → PermIn a b d R ∧ SortedIn ltInt a b R) (fun va vb _ _ _ _ => (intOf vb - intOf va).toNat)
    case atStart => exact ⟨a, b, L, true, true, d, rfl, rfl, rfl, rfl, rfl, ⟨H0.out.2.2.1, H0.out.2.2.2.1, H0.out.2.2.2.2⟩, H0.out.2.1, H0.out.1, fun R h1 h2 => ⟨h1, h2⟩⟩
    case round =>
      obtain ⟨a1, b1, L1, wb, wp, dk, rfl, rfl, rfl, rfl, rfl, hN, hBk, hS, hJ⟩ := hrel
      obtain ⟨l, hl⟩ : ∃ l, l = b1 - a1 := ⟨_, rfl⟩
      have kl : IntKind.i64.wrap ((b1 : Int) - a1) = l := by rw [IntKind.wrap_i64]; omega
      have hsz := hS.size
      by_cases h12 : l ≤ 12
      · have h12' : (l : Int) ≤ 12 := by omega
        have cI := ins_of W B g n cap a1 b1 dk wr hS hN.1 hN.2.1 hn
        have HN : Hid (PermIn a b d (insertionSort ltInt dk a1 b1) ∧ SortedIn ltInt a b (insertionSort ltInt dk a1 b1)) := by
          obtain ⟨p1, p2⟩ := insertionSort_holds swoI dk a1 b1 hN.1 (by omega)
          exact hJ _ p1 p2
        clear hS hBk hJ hN hl
        go_wp2_with (go_at_call 44; refine cI.mono ?_; rintro e w1 ⟨rfl, hS1⟩)
        first | go_end0 | refine bodyPost_ret (results_none rfl _ _ _) rfl ?_
        exact ⟨rfl, _, HN.out.1, HN.out.2, hS1⟩
      · have h12' : ¬ ((l : Int) ≤ 12) := by omega
        have hab1 : a1 + 12 < b1 := by omega
        by_cases h0 : L1 = 0
        · subst h0
          have cI := heap_of W B g n cap a1 b1 dk wr hS (by omega) hN.2.1 hn
          have HN : Hid (PermIn a b d (heapSort ltInt dk a1 b1) ∧ SortedIn ltInt a b (heapSort ltInt dk a1 b1)) := by
            obtain ⟨p1, p2⟩ := heapSort_holds swoI dk a1 b1 hN.1 (by omega)
            exact hJ _ p1 p2
          clear hS hBk hJ hN hl
          go_wp2_with (go_at_call 45; refine cI.mono ?_; rintro e w1 ⟨rfl, hS1⟩)
          first | go_end0 | refine bodyPost_ret (results_none rfl _ _ _) rfl ?_
          exact ⟨rfl, _, HN.out.1, HN.out.2, hS1⟩
        · have h0' : ¬ ((L1 : Int) = 0) := by omega
          have HK : Hid (SR W wr B g n cap dk ∧ Sort.Below ltInt a1 b1 dk ∧ (∀ R, PermIn a1 b1 dk R → SortedIn ltInt a1 b1 R → PermIn a b d R ∧ SortedIn ltInt a b R) ∧ (a1 ≤ b1 ∧ b1 ≤ n ∧ L1 ≤ 100 ∧ b1 - a1 ≤ k ∧ 1 ≤ L1 ∧ l = b1 - a1)) := ⟨hS, hBk, hJ, hN.1, hN.2.1, hN.2.2.1, hN.2.2.2, by omega, hl⟩
          clear hS hBk hJ hN hl h0 hsz
          go_upto_if 35 with fail
          go_cut [3] (fun vl X => ∃ (L2 : Nat) (d1 : Array Int), vl = .int .i64 L2 ∧ L2 ≤ 100 ∧ PermIn a1 b1 dk d1 ∧ SR W X B g n cap d1)
          case first =>
            cases wb with
            | true =>
              go_wp2_with fail
              go_meet
              exact ⟨L1, dk, rfl, HK.out.2.2.2.2.2.1, permIn_refl _ _ _, HK.out.1⟩
            | false =>
              obtain ⟨L2, hL2⟩ : ∃ L2, L2 + 1 = L1 := ⟨L1 - 1, by have := HK.out.2.2.2; omega⟩
              have kL : IntKind.i64.wrap ((L1 : Int) - 1) = L2 := by have := HK.out.2.2.2; rw [IntKind.wrap_i64]; omega
              have HL2 : Hid (L2 ≤ 100) := by have := HK.out.2.2.2; show _ ≤ _; omega
              have cI := break_of W B g n cap a1 b1 dk wr HK.out.1 hab1 HK.out.2.2.2.2.1 hn
              clear hL2
              go_wp2_with (go_at_call 46; refine cI.mono ?_; rintro e w1 ⟨rfl, d1, hp1, hS1⟩)
              go_meet
              exact ⟨L2, d1, rfl, HL2.out, hp1, hS1⟩
          case rest =>
            obtain ⟨L2, d1, rfl, hL2, hp1, hS1⟩ := hcut
            obtain ⟨V1, rfl⟩ : ∃ V, V = wc := ⟨_, rfl⟩
            have cP := pivot_of W B g n cap a1 b1 d1 V1 hS1 hab1 HK.out.2.2.2.2.1 hn
            have HL2 : Hid (L2 ≤ 100 ∧ PermIn a1 b1 dk d1) := ⟨hL2, hp1⟩
            clear hL2 hp1 hS1
            go_upto_if 50 with (go_at_call 47; refine cP.mono ?_; clear cP; rintro e w2 ⟨p0, hint, rfl, hp0, hp1, hh, hS2⟩)
            go_cut [11, 12] (fun vp vh X => ∃ (p : Nat) (h : Int) (d2 : Array Int), vp = .int .i64 p ∧ vh = .int .i64 h ∧ a1 ≤ p ∧ p < b1 ∧ (h = 0 ∨ h = 1) ∧ PermIn a1 b1 d1 d2 ∧ SR W X B g n cap d2)
            case first =>
              rcases hh with rfl | rfl | rfl
              · go_wp2_with fail
                go_meet
                exact ⟨p0, 0, d1, rfl, rfl, hp0, hp1, .inl rfl, permIn_refl _ _ _, hS2⟩
              · go_wp2_with fail
                go_meet
                exact ⟨p0, 1, d1, rfl, rfl, hp0, hp1, .inr rfl, permIn_refl _ _ _, hS2⟩
              · have cR := reverse_of W B g n cap a1 b1 d1 w2 hS2 (by omega) HK.out.2.2.2.2.1 hn
                obtain ⟨u1, hu1⟩ : ∃ u, u + 1 = b1 := ⟨b1 - 1, by omega⟩
                obtain ⟨u2, hu2⟩ : ∃ u, u + a1 = p0 := ⟨p0 - a1, by omega⟩
                obtain ⟨p, hp⟩ : ∃ p, p + u2 = u1 := ⟨u1 - u2, by omega⟩
                have e1 : IntKind.i64.wrap ((b1 : Int) - 1) = u1 := by have := HK.out.2.2.2; rw [IntKind.wrap_i64]; omega
                have e2 : IntKind.i64.wrap ((p0 : Int) - a1) = u2 := by have := HK.out.2.2.2; rw [IntKind.wrap_i64]; omega
                have e3 : IntKind.i64.wrap ((u1 : Int) - u2) = p := by have := HK.out.2.2.2; rw [IntKind.wrap_i64]; omega
                have HP : Hid (a1 ≤ p ∧ p < b1 ∧ PermIn a1 b1 d1 (reverseRange d1 a1 b1)) := ⟨by omega, by omega, reverseRange_holds d1 a1 b1 (by omega) (by have := hS2.size; have := HK.out.2.2.2; omega)⟩
                clear hu1 hu2 hp hS2
                go_wp2_with (go_at_call 48; refine cR.mono ?_; rintro e w3 ⟨rfl, hS3⟩)
                go_meet
                exact ⟨p, 1, _, rfl, rfl, HP.out.1, HP.out.2.1, .inr rfl, HP.out.2.2, hS3⟩
            case rest =>
              obtain ⟨p, h, d2, rfl, rfl, hp2, hp3, hh2, hpm, hS3⟩ := hcut
              obtain ⟨V2, rfl⟩ : ∃ V, V = wc := ⟨_, rfl⟩
              have hsz2 : b1 ≤ dk.size := by have := HK.out.1.size; have := HK.out.2.2.2; omega
              have hpm2 : PermIn a1 b1 dk d2 := permIn_trans _ _ _ _ _ HL2.out.2 hpm
              have hB2 : Sort.Below ltInt a1 b1 d2 := HK.out.2.1.perm hsz2 hpm2
              have HM : Hid (PermIn a1 b1 dk d2 ∧ Sort.Below ltInt a1 b1 d2 ∧ a1 ≤ p ∧ p < b1 ∧ SR W V2 B g n cap d2) := ⟨hpm2, hB2, hp2, hp3, hS3⟩
              have cPI := partial_of W B g n cap a1 b1 d2 V2 hS3 (by omega) HK.out.2.2.2.2.1 hn
              clear hpm hpm2 hB2 hp2 hp3 hS3 hsz2 hp0 hp1 hh hS2
              obtain ⟨cc, hcc⟩ : ∃ cc, cc = (wb && wp && decide (h = 1)) := ⟨_, rfl⟩
              have HCC : Hid (cc = (wb && wp && decide (h = 1))) := hcc
              clear hcc
              go_upto_region 15 with fail
              go_cut [68] (fun v X => v = .bool cc ∧ X = V2)
              case first =>
                have hce := HCC.out
                rcases hh2 with rfl | rfl
                · cases wb <;> cases wp <;> simp at hce <;> subst hce
                  all_goals (
                    go_wp2_with fail
                    go_meet
                    exact ⟨rfl, rfl⟩)
                · cases wb <;> cases wp <;> simp at hce <;> subst hce
                  all_goals (
                    go_wp2_with fail
                    go_meet
                    exact ⟨rfl, rfl⟩)
              case rest =>
               obtain ⟨rfl, hwc⟩ := hcut
               subst hwc
               go_upto_if 68 with fail
               go_cut [11] (fun vp X => vp = .int .i64 p ∧ ∃ d3 : Array Int, PermIn a1 b1 d2 d3 ∧ SR W X B g n cap d3)
               case first =>
                cases cc with
                | true =>
                  obtain ⟨t1, t2⟩ := partialInsertionSort_holds swoI d2 a1 b1 (by omega) (by have := HM.out.2.2.2.2.size; have := HK.out.2.2.2; omega) HM.out.2.1
                  generalize partialInsertionSort ltInt d2 a1 b1 = PR at cPI t1 t2
                  obtain ⟨P1, P2⟩ := PR
                  simp only at cPI t1 t2
                  have HT : Hid (PermIn a1 b1 d2 P1 ∧ (P2 = true → SortedIn ltInt a1 b1 P1)) := ⟨t1, t2⟩
                  clear t1 t2
                  cases P2 with
                  | true =>
                    have HF : Hid (PermIn a b d P1 ∧ SortedIn ltInt a b P1) := HK.out.2.2.1 _ (permIn_trans _ _ _ _ _ HM.out.1 HT.out.1) (HT.out.2 rfl)
                    go_wp2_with (go_at_call 49; refine cPI.mono ?_; rintro e w3 ⟨rfl, hS4⟩)
                    first | go_end0 | refine bodyPost_ret (results_none rfl _ _ _) rfl ?_
                    exact ⟨rfl, _, HF.out.1, HF.out.2, hS4⟩
                  | false =>
                    go_wp2_with (go_at_call 49; refine cPI.mono ?_; rintro e w3 ⟨rfl, hS4⟩)
                    go_meet
                    exact ⟨rfl, P1, HT.out.1, hS4⟩
                | false =>
                  go_wp2_with fail
                  go_meet
                  exact ⟨rfl, d2, permIn_refl _ _ _, HM.out.2.2.2.2⟩
               case rest =>
                 obtain ⟨rfl, d3, hp3, hS4⟩ := hcut
                 obtain ⟨V3, rfl⟩ : ∃ V, V = wc := ⟨_, rfl⟩
                 have hszd : b1 ≤ d2.size := by have := HM.out.2.2.2.2.size; have := HK.out.2.2.2; omega
                 have HT : Hid (PermIn a1 b1 dk d3 ∧ Sort.Below ltInt a1 b1 d3 ∧ SR W V3 B g n cap d3 ∧ (a1 ≤ p ∧ p < b1 ∧ b1 ≤ d3.size)) := ⟨permIn_trans _ _ _ _ _ HM.out.1 hp3, HM.out.2.1.perm hszd hp3, hS4, HM.out.2.2.1, HM.out.2.2.2.1, by have := hS4.size; have := HK.out.2.2.2; omega⟩
                 clear hp3 hS4 hszd cPI
                 obtain ⟨y, hy⟩ : ∃ y, d3[p]! = y := ⟨_, rfl⟩
                 obtain ⟨x, hx⟩ : ∃ x, d3[a1 - 1]! = x := ⟨_, rfl⟩
                 obtain ⟨c, hc⟩ : ∃ c, c = (decide (0 < a1) && !ltInt x y) := ⟨_, rfl⟩
                 have HU : Hid (c = (decide (0 < a1) && !ltInt x y) ∧ d3[a1 - 1]! = x ∧ d3[p]! = y) := ⟨hc, hx, hy⟩
                 clear hx hy hc
                 go_upto_region 17 with fail
                 go_cut [87] (fun v X => v = .bool c ∧ SR W X B g n cap d3)
                 case first =>
                   by_cases ha0 : 0 < a1
                   · obtain ⟨m, hm⟩ : ∃ m, m + 1 = a1 := ⟨a1 - 1, by omega⟩
                     have ha0' : (0 : Int) < a1 := by omega
                     have hd : decide ((0 : Int) < a1) = true := decide_eq_true ha0'
                     have km : IntKind.i64.wrap ((a1 : Int) - 1) = m := by have := HK.out.2.2.2; rw [IntKind.wrap_i64]; omega
                     have b0m : (0 : Int) ≤ m := by omega
                     have b1m : (m : Int) < n := by have := HK.out.2.2.2; omega
                     have b0p : (0 : Int) ≤ p := by omega
                     have b1p : (p : Int) < n := by have := HK.out.2.2.2; have := HT.out.2.2.2; omega
                     have hcl : ltInt x y = !c := by rw [HU.out.1, decide_eq_true ha0]; simp
                     have hL := less_of x y
                     rw [hcl] at hL
                     have em : a1 - 1 = m := by omega
                     have zS : V3.cell? ⟨g, m, none⟩ = some (.int .u32 x) ∧ V3.cell? ⟨g, p, none⟩ = some (.int .u32 y) := ⟨by rw [← HU.out.2.1, em]; exact HT.out.2.2.1.cell (by omega), by rw [← HU.out.2.2]; exact HT.out.2.2.1.cell (by omega)⟩
                     clear hm em hcl
                     go_region_held3 (fun X => X.cell? ⟨g, m, none⟩ = some (.int .u32 x) ∧ X.cell? ⟨g, p, none⟩ = some (.int .u32 y)) (exact zS)
                       ((go_simp; go_at_call 50; refine (hL _).mono ?_; rintro e w11 ⟨rfl, hw11⟩; replace hw11 := hw11.symm; subst hw11))
                     all_goals (try go_wp2_with fail)
                     all_goals go_meet
                     all_goals exact ⟨by simp, HT.out.2.2.1.same rfl rfl rfl rfl⟩
                   · have ha0' : ¬ ((0 : Int) < a1) := by omega
                     have hd : decide ((0 : Int) < a1) = false := decide_eq_false ha0'
                     have hcl : c = false := by rw [HU.out.1, decide_eq_false ha0]; rfl
                     have HCL : Hid (c = false) := hcl
                     clear hcl
                     go_quiet (fail)
                     all_goals (try go_wp2_with fail)
                     all_goals go_meet
                     all_goals exact ⟨by rw [HCL.out], HT.out.2.2.1.same rfl rfl rfl rfl⟩
                 case rest =>
                   obtain ⟨rfl, hS5⟩ := hcut
                   obtain ⟨V4, rfl⟩ : ∃ V, V = wc := ⟨_, rfl⟩
                   cases c with
                   | true =>
                     have hcc : 0 < a1 ∧ ltInt x y = false := by have := HU.out.1.symm; simpa using this
                     have hcc2 : ltInt d3[a1 - 1]! d3[p]! = false := by rw [HU.out.2.1, HU.out.2.2]; exact hcc.2
                     obtain ⟨mid, d4, hx4⟩ : ∃ mid d4, partitionEqual ltInt d3 a1 b1 p = (mid, d4) := ⟨_, _, rfl⟩
                     obtain ⟨r1, r2, r3, r4, r5⟩ := round_eq swoI (partitionEqual_holds ltInt) hcc.1 HT.out.2.2.2.1 HT.out.2.2.2.2.1 HT.out.2.2.2.2.2 HT.out.2.1 hcc2 hx4
                     have cE := partEq_of W B g n cap a1 b1 p d3 V4 hS5 HT.out.2.2.2.1 HT.out.2.2.2.2.1 HK.out.2.2.2.2.1 hn
                     rw [hx4] at cE
                     have HF : Hid (Sort.Below ltInt mid b1 d4 ∧ (∀ R, PermIn mid b1 d4 R → SortedIn ltInt mid b1 R → PermIn a b d R ∧ SortedIn ltInt a b R) ∧ (a1 < mid ∧ mid ≤ b1)) := ⟨r4, fun R q1 q2 => by
                       obtain ⟨q3, q4⟩ := r5 R q1 q2
                       exact HK.out.2.2.1 R (permIn_trans _ _ _ _ _ HT.out.1 q3) q4, r1, r2⟩
                     clear r1 r2 r3 r4 r5 hcc hcc2 hx4 hS5
                     go_wp2_with (go_at_call 51; refine cE.mono ?_; rintro e w5 ⟨rfl, hS6⟩)
                     go_roundw
                     case rel => exact ⟨mid, b1, L2, wb, wp, d4, rfl, rfl, rfl, rfl, rfl, by have := HK.out.2.2.2; have := HF.out.2.2; have := HL2.out.1; omega, HF.out.1, hS6, HF.out.2.1⟩
                     case measure => (simp only [intOf]; have := HF.out.2.2; omega)
                   | false =>
                     obtain ⟨mid, ap, d4, hx4⟩ : ∃ mid ap d4, partition ltInt d3 a1 b1 p = (mid, ap, d4) := ⟨_, _, _, rfl⟩
                     obtain ⟨r1, r2, r3, r4, r5, r6, r7⟩ := round_part swoI (partition_holds ltInt) HT.out.2.2.2.1 HT.out.2.2.2.2.1 HT.out.2.2.2.2.2 HT.out.2.1 hx4
                     have cE := part_of W B g n cap a1 b1 p d3 V4 hS5 HT.out.2.2.2.1 HT.out.2.2.2.2.1 HK.out.2.2.2.2.1 hn
                     rw [hx4] at cE
                     have HF : Hid (Sort.Below ltInt a1 mid d4 ∧ Sort.Below ltInt (mid + 1) b1 d4 ∧ (∀ L, PermIn a1 mid d4 L → SortedIn ltInt a1 mid L → Sort.Below ltInt (mid + 1) b1 L ∧ ∀ R, PermIn (mid + 1) b1 L R → SortedIn ltInt (mid + 1) b1 R → PermIn a b d R ∧ SortedIn ltInt a b R) ∧ (∀ L, PermIn (mid + 1) b1 d4 L → SortedIn ltInt (mid + 1) b1 L → Sort.Below ltInt a1 mid L ∧ ∀ R, PermIn a1 mid L R → SortedIn ltInt a1 mid R → PermIn a b d R ∧ SortedIn ltInt a b R) ∧ (a1 ≤ mid ∧ mid < b1)) := ⟨r4, r5, fun L q1 q2 => by
                       obtain ⟨s1, s2⟩ := r6 L q1 q2
                       refine ⟨s1, fun R q3 q4 => ?_⟩
                       obtain ⟨q5, q6⟩ := s2 R q3 q4
                       exact HK.out.2.2.1 R (permIn_trans _ _ _ _ _ HT.out.1 q5) q6, fun L q1 q2 => by
                       obtain ⟨s1, s2⟩ := r7 L q1 q2
                       refine ⟨s1, fun R q3 q4 => ?_⟩
                       obtain ⟨q5, q6⟩ := s2 R q3 q4
                       exact HK.out.2.2.1 R (permIn_trans _ _ _ _ _ HT.out.1 q5) q6, r1, r2⟩
                     obtain ⟨ll, hll⟩ : ∃ ll, ll + a1 = mid := ⟨mid - a1, by omega⟩
                     obtain ⟨rl, hrl⟩ : ∃ rl, rl + mid = b1 := ⟨b1 - mid, by omega⟩
                     obtain ⟨m1, hm1⟩ : ∃ m1, m1 = mid + 1 := ⟨_, rfl⟩
                     have e1 : IntKind.i64.wrap ((mid : Int) - a1) = ll := by have := HK.out.2.2.2; rw [IntKind.wrap_i64]; omega
                     have e2 : IntKind.i64.wrap ((b1 : Int) - mid) = rl := by have := HK.out.2.2.2; rw [IntKind.wrap_i64]; omega
                     have e3 : IntKind.i64.wrap ((mid : Int) + 1) = m1 := by have := HK.out.2.2.2; rw [IntKind.wrap_i64]; omega
                     have l0 : (0 : Int) ≤ l := by omega
                     have l1 : (l : Int) ≤ 1000 := by have := HK.out.2.2.2; omega
                     have HG : Hid (ll + a1 = mid ∧ rl + mid = b1 ∧ m1 = mid + 1) := ⟨hll, hrl, hm1⟩
                     clear r1 r2 r3 r4 r5 r6 r7 hx4 hS5 hll hrl hm1
                     by_cases hlr : (ll : Int) < rl
                     · go_upto_region 26 with (go_at_call 52; refine cE.mono ?_; clear cE; rintro e w5 ⟨rfl, hS6⟩)
                       have cQ := ih (mid - a1) (by have := HK.out.2.2.2; have := HF.out.2.2.2.2; omega) a1 mid L2 d4 w5 (Nat.le_refl _) hS6 HF.out.2.2.2.2.1 (by have := HK.out.2.2.2; have := HF.out.2.2.2.2; omega) HF.out.1 HL2.out.1
                       go_wp2_with (go_at_call 42; refine cQ.mono ?_; clear cQ; rintro e w6 ⟨rfl, L5, t1, t2, hS7⟩)
                       go_roundw
                       case rel =>
                         obtain ⟨s1, s2⟩ := HF.out.2.2.1 L5 t1 t2
                         rw [← HG.out.2.2] at s1 s2
                         exact ⟨m1, b1, L2, _, ap, L5, rfl, rfl, rfl, rfl, rfl, by have := HK.out.2.2.2; have := HF.out.2.2.2.2; have := HG.out; have := HL2.out.1; omega, s1, hS7, s2⟩
                       case measure => (simp only [intOf]; have := HF.out.2.2.2.2; have := HG.out; omega)
                     · go_upto_region 29 with (go_at_call 52; refine cE.mono ?_; clear cE; rintro e w5 ⟨rfl, hS6⟩)
                       have cQ := ih (b1 - m1) (by have := HK.out.2.2.2; have := HF.out.2.2.2.2; have := HG.out; omega) m1 b1 L2 d4 w5 (Nat.le_refl _) hS6 (by have := HF.out.2.2.2.2; have := HG.out; omega) (by have := HK.out.2.2.2; omega) (by rw [HG.out.2.2]; exact HF.out.2.1) HL2.out.1
                       go_wp2_with (go_at_call 42; refine cQ.mono ?_; clear cQ; rintro e w6 ⟨rfl, L5, t1, t2, hS7⟩)
                       go_roundw
                       case rel =>
                         rw [HG.out.2.2] at t1 t2
                         obtain ⟨s1, s2⟩ := HF.out.2.2.2.1 L5 t1 t2
                         exact ⟨a1, mid, L2, _, ap, L5, rfl, rfl, rfl, rfl, rfl, by have := HK.out.2.2.2; have := HF.out.2.2.2.2; have := HL2.out.1; omega, s1, hS7, s2⟩
                       case measure => (simp only [intOf]; have := HF.out.2.2.2.2; omega)
end Go.Proofs.Ytkhldjpghjmgfaa
