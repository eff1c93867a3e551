/- partition. -/
import Derived.Test.YtkhldjpghjmgfaaSoB
import Derived.Deep.DeepCutAuto
namespace Go.Proofs.Ytkhldjpghjmgfaa
open Go.RowKit Go.Sort
set_option linter.unusedVariables false

theorem scanUp_go {p : Int → Bool} {d : Array Int} {j i : Nat} (h : i ≤ j) (hp : p d[i]! = true) : scanUp p d j i = scanUp p d j (i + 1) := by
  conv => lhs; rw [scanUp]
  rw [if_pos (by simp [h, hp])]
theorem scanUp_stop {p : Int → Bool} {d : Array Int} {j i : Nat} (h : ¬ i ≤ j ∨ p d[i]! = false) : scanUp p d j i = i := by
  rw [scanUp, if_neg]
  rcases h with h | h <;> simp [h]
theorem scanDown_go {p : Int → Bool} {d : Array Int} {i j : Nat} (h : i ≤ j + 1) (hp : p d[j + 1]! = true) : scanDown p d i (j + 1) = scanDown p d i j := by
  conv => lhs; rw [scanDown]
  rw [if_pos (by simp [h, hp])]
theorem scanDown_stop {p : Int → Bool} {d : Array Int} {i j : Nat} (h : ¬ i ≤ j ∨ p d[j]! = false) : scanDown p d i j = j := by
  cases j with
  | zero => rfl
  | succ j =>
    rw [scanDown, if_neg]
    rcases h with h | h
    · simp; omega
    · simp [h]
theorem partLoop_stop {lt : Int → Int → Bool} {a i j I J : Nat} {d : Array Int} {pv : Int} (hp : d[a]! = pv) (hI : scanUp (fun x => lt x pv) d j i = I) (hJ : scanDown (fun x => !lt x pv) d I j = J) (h : J < I) : partLoop lt a i j d = (J, d) := by
  rw [partLoop]
  simp only [hp, hI, hJ]
  rw [if_pos h]
theorem partLoop_go {lt : Int → Int → Bool} {a i j I J : Nat} {d : Array Int} {pv : Int} (hp : d[a]! = pv) (hI : scanUp (fun x => lt x pv) d j i = I) (hJ : scanDown (fun x => !lt x pv) d I j = J) (h : I ≤ J) (h1 : i ≤ I) (h2 : J ≤ j) (h3 : 1 ≤ I) : partLoop lt a i j d = partLoop lt a (I + 1) (J - 1) (swp d I J) := by
  conv => lhs; rw [partLoop]
  simp only [hp, hI, hJ]
  rw [if_neg (by omega), dif_pos (by omega)]
theorem part_stop {a b p I J : Nat} {d D : Array Int} {pv : Int} (hD : swp d a p = D) (hp : D[a]! = pv) (hI : scanUp (fun x => ltInt x pv) D (b - 1) (a + 1) = I) (hJ : scanDown (fun x => !ltInt x pv) D I (b - 1) = J) (h : J < I) : partition ltInt d a b p = (J, true, swp D J a) := by
  unfold partition
  simp only [hD, hp, hI, hJ]
  rw [if_pos h]
theorem part_go {a b p I J : Nat} {d D : Array Int} {pv : Int} (hD : swp d a p = D) (hp : D[a]! = pv) (hI : scanUp (fun x => ltInt x pv) D (b - 1) (a + 1) = I) (hJ : scanDown (fun x => !ltInt x pv) D I (b - 1) = J) (h : I ≤ J) : partition ltInt d a b p = ((partLoop ltInt a (I + 1) (J - 1) (swp D I J)).1, false, swp (partLoop ltInt a (I + 1) (J - 1) (swp D I J)).2 (partLoop ltInt a (I + 1) (J - 1) (swp D I J)).1 a) := by
  unfold partition
  simp only [hD, hp, hI, hJ]
  rw [if_neg (by omega)]
set_option maxRecDepth 100000 in
set_option maxHeartbeats 4000000 in
theorem part_of (W : World) (B g n cap a b p : Nat) (d : Array Int) (w : World) (h : SR W w B g n cap d) (hp1 : a ≤ p) (hp2 : p < b) (hb : b ≤ n) (hn : n ≤ 1000) :
    Calls Try.prog 52 #[.slice (some ⟨g, 0, none⟩) n cap, .int .i64 a, .int .i64 b, .int .i64 p] w fun e w' => e = .returned (.tuple #[.int .i64 (partition ltInt d a b p).1, .bool (partition ltInt d a b p).2.1]) ∧ SR W w' B g n cap (partition ltInt d a b p).2.2 := by
  have b0a : (0 : Int) ≤ a := by omega
  have b1a : (a : Int) < n := by omega
  have b0p : (0 : Int) ≤ p := by omega
  have b1p : (p : Int) < n := by omega
  obtain ⟨x, hx⟩ : ∃ x, d[a]! = x := ⟨_, rfl⟩
  obtain ⟨y, hy⟩ : ∃ y, d[p]! = y := ⟨_, rfl⟩
  obtain ⟨⟨q0, q1, q2, q3⟩, q4, q5, q6⟩ := h.swf (i := a) (j := p) (by omega) (by omega) hx hy
  obtain ⟨i0, hi0⟩ : ∃ i0, i0 = a + 1 := ⟨_, rfl⟩
  obtain ⟨j0, hj0⟩ : ∃ j0, j0 + 1 = b := ⟨b - 1, by omega⟩
  have k1 : IntKind.i64.wrap ((a : Int) + 1) = i0 := by rw [IntKind.wrap_i64]; omega
  have k2 : IntKind.i64.wrap ((b : Int) - 1) = j0 := by rw [IntKind.wrap_i64]; omega
  have HS : Hid (SR W ((w.setCell ⟨g, a, none⟩ (.int .u32 y)).setCell ⟨g, p, none⟩ (.int .u32 x)).drew B g n cap (swp d a p) ∧ i0 = a + 1 ∧ j0 + 1 = b) := ⟨q6.drew, hi0, hj0⟩
  clear h q6 hx hy hi0 hj0
  go_enter Try.func52, Try.ntmps52
  go_wp2_with fail
  go_region
  all_goals go_wp2_with fail
  --BODY
  generalize hV : World.drew _ = V0 at HS
  clear hV
  obtain ⟨D, hD⟩ : ∃ D, swp d a p = D := ⟨_, rfl⟩
  obtain ⟨pv, hpv⟩ : ∃ pv, D[a]! = pv := ⟨_, rfl⟩
  have HPVD : Hid (D[a]! = pv) := hpv
  have HDD : Hid (swp d a p = D) := hD
  have HB : Hid (a < b ∧ b ≤ n ∧ i0 = a + 1 ∧ j0 + 1 = b ∧ n ≤ 1000) := ⟨by omega, hb, HS.out.2.1, HS.out.2.2, hn⟩
  have HS0 : Hid (SR W V0 B g n cap D) := by rw [← hD]; exact HS.out.1
  clear HS hD hpv q0 q1 q2 q3 q4 q5
  obtain ⟨I, hT⟩ : ∃ T, scanUp (fun x => ltInt x pv) D j0 i0 = T := ⟨_, rfl⟩
  have HI : Hid (scanUp (fun x => ltInt x pv) D j0 i0 = I) := hT
  clear hT
  go_wp2
  go_loopw [10] (fun vi wr => ∃ i : Nat, vi = .int .i64 i ∧ i0 ≤ i ∧ (i ≤ j0 + 1 ∨ i = i0) ∧ scanUp (fun x => ltInt x pv) D j0 i = I ∧ SR W wr B g n cap D) (fun vi _ => j0 + 2 - (intOf vi).toNat)
  case atStart => exact ⟨i0, rfl, Nat.le_refl _, .inr rfl, HI.out, HS0.out⟩
  case round =>
    obtain ⟨i, rfl, hi1, hi2, hU, hS⟩ := hrel
    obtain ⟨VI, rfl⟩ : ∃ V, V = wr := ⟨_, rfl⟩
    obtain ⟨x, hx⟩ : ∃ x, D[i]! = x := ⟨_, rfl⟩
    obtain ⟨c, hc⟩ : ∃ c, c = (decide (i ≤ j0) && ltInt x pv) := ⟨_, rfl⟩
    have HU : Hid (c = (decide (i ≤ j0) && ltInt x pv) ∧ D[i]! = x ∧ scanUp (fun x => ltInt x pv) D j0 i = I ∧ SR W VI B g n cap D ∧ (i0 ≤ i ∧ (i ≤ j0 + 1 ∨ i = i0))) := ⟨hc, hx, hU, hS, hi1, hi2⟩
    clear hU hS hi1 hi2 hx hc
    go_wp2_with fail
    go_cut [43] (fun v X => v = .bool c ∧ SR W X B g n cap D)
    case first =>
      by_cases hij : i ≤ j0
      · have hij' : (i : Int) ≤ j0 := by omega
        have hd : decide ((i : Int) ≤ j0) = true := decide_eq_true hij'
        have b0i : (0 : Int) ≤ i := by omega
        have b1i : (i : Int) < n := by have := HB.out; omega
        have hcl : ltInt x pv = c := by rw [HU.out.1, decide_eq_true hij]; simp
        have hL := less_of x pv
        rw [hcl] at hL
        have zS : VI.cell? ⟨g, i, none⟩ = some (.int .u32 x) ∧ VI.cell? ⟨g, a, none⟩ = some (.int .u32 pv) := ⟨by rw [← HU.out.2.1]; exact HU.out.2.2.2.1.cell (by omega), by rw [← HPVD.out]; exact HU.out.2.2.2.1.cell (by omega)⟩
        go_region_held3 (fun X => X.cell? ⟨g, i, none⟩ = some (.int .u32 x) ∧ X.cell? ⟨g, a, none⟩ = some (.int .u32 pv)) (exact zS)
          ((go_simp; go_at_call 50; refine (hL _).mono ?_; rintro e w11 ⟨rfl, hw11⟩; replace hw11 := hw11.symm; subst hw11))
        all_goals (try go_wp2_with fail)
        all_goals go_meet
        all_goals exact ⟨by simp, HU.out.2.2.2.1.same rfl rfl rfl rfl⟩
      · have hij' : ¬ ((i : Int) ≤ j0) := by omega
        have hd : decide ((i : Int) ≤ j0) = false := decide_eq_false hij'
        have hcl : c = false := by rw [HU.out.1, decide_eq_false hij]; rfl
        have HCL : Hid (c = false) := hcl
        clear hcl
        go_quiet (fail)
        all_goals (try go_wp2_with fail)
        all_goals go_meet
        all_goals exact ⟨by rw [HCL.out], HU.out.2.2.2.1.same rfl rfl rfl rfl⟩
    case rest =>
      obtain ⟨rfl, hS2⟩ := hcut
      have HS2 : Hid (SR W wc B g n cap D) := hS2
      clear hS2
      cases c with
      | true =>
        have hcc : i ≤ j0 ∧ (ltInt x pv) = true := by have := HU.out.1.symm; simpa using this
        obtain ⟨m, hm⟩ : ∃ m, m = i + 1 := ⟨_, rfl⟩
        have km : IntKind.i64.wrap ((i : Int) + 1) = m := by have := HB.out; have := HU.out.2.2.2.2; rw [IntKind.wrap_i64]; omega
        have HN : Hid (scanUp (fun x => ltInt x pv) D j0 m = I ∧ m ≤ j0 + 1 ∧ i0 ≤ m ∧ i < m ∧ i ≤ j0) := ⟨by rw [← HU.out.2.2.1, hm, scanUp_go (p := (fun x => ltInt x pv)) hcc.1 (by rw [HU.out.2.1]; exact hcc.2)], by omega, by have := HU.out.2.2.2.2; omega, by omega, hcc.1⟩
        clear hcc hm
        go_wp2
        go_roundw
        case rel => exact ⟨m, rfl, HN.out.2.2.1, .inl HN.out.2.1, HN.out.1, HS2.out⟩
        case measure => (simp only [intOf]; have := HN.out.2; omega)
      | false =>
        have HEI : Hid (I = i ∧ (i0 ≤ i ∧ (i ≤ j0 + 1 ∨ i = i0))) := ⟨by rw [← HU.out.2.2.1]; exact scanUp_stop (p := (fun x => ltInt x pv)) (by rcases Bool.and_eq_false_iff.1 HU.out.1.symm with h | h; exact .inl (of_decide_eq_false h); exact .inr (by have e := HU.out.2.1; simp only [e]; exact h)), HU.out.2.2.2.2⟩
        obtain ⟨V, rfl⟩ : ∃ V, V = wc := ⟨_, rfl⟩
        clear HU
        obtain ⟨J, hT⟩ : ∃ T, scanDown (fun x => !ltInt x pv) D i j0 = T := ⟨_, rfl⟩
        have HJ : Hid (scanDown (fun x => !ltInt x pv) D i j0 = J) := hT
        clear hT
        go_wp2
        go_loopw [11] (fun vj wr => ∃ j : Nat, vj = .int .i64 j ∧ j ≤ j0 ∧ (i ≤ j + 1 ∨ j = j0) ∧ scanDown (fun x => !ltInt x pv) D i j = J ∧ SR W wr B g n cap D) (fun vj _ => (intOf vj).toNat)
        case atStart => exact ⟨j0, rfl, Nat.le_refl _, .inr rfl, HJ.out, HS2.out⟩
        case round =>
          obtain ⟨j, rfl, hj1, hj2, hU, hS⟩ := hrel
          obtain ⟨VJ, rfl⟩ : ∃ V, V = wr := ⟨_, rfl⟩
          obtain ⟨x, hx⟩ : ∃ x, D[j]! = x := ⟨_, rfl⟩
          obtain ⟨c, hc⟩ : ∃ c, c = (decide (i ≤ j) && !ltInt x pv) := ⟨_, rfl⟩
          have HU : Hid (c = (decide (i ≤ j) && !ltInt x pv) ∧ D[j]! = x ∧ scanDown (fun x => !ltInt x pv) D i j = J ∧ SR W VJ B g n cap D ∧ (j ≤ j0 ∧ (i ≤ j + 1 ∨ j = j0))) := ⟨hc, hx, hU, hS, hj1, hj2⟩
          clear hU hS hj1 hj2 hx hc
          go_wp2_with fail
          go_cut [60] (fun v X => v = .bool c ∧ SR W X B g n cap D)
          case first =>
            by_cases hij : i ≤ j
            · have hij' : (i : Int) ≤ j := by omega
              have hd : decide ((i : Int) ≤ j) = true := decide_eq_true hij'
              have b0j : (0 : Int) ≤ j := by omega
              have b1j : (j : Int) < n := by have := HB.out; have := HU.out.2.2.2.2; omega
              have hcl : ltInt x pv = !c := by rw [HU.out.1, decide_eq_true hij]; simp
              have hL := less_of x pv
              rw [hcl] at hL
              have zS : VJ.cell? ⟨g, j, none⟩ = some (.int .u32 x) ∧ VJ.cell? ⟨g, a, none⟩ = some (.int .u32 pv) := ⟨by rw [← HU.out.2.1]; exact HU.out.2.2.2.1.cell (by omega), by rw [← HPVD.out]; exact HU.out.2.2.2.1.cell (by omega)⟩
              go_region_held3 (fun X => X.cell? ⟨g, j, none⟩ = some (.int .u32 x) ∧ X.cell? ⟨g, a, none⟩ = some (.int .u32 pv)) (exact zS)
                ((go_simp; go_at_call 50; refine (hL _).mono ?_; rintro e w11 ⟨rfl, hw11⟩; replace hw11 := hw11.symm; subst hw11))
              all_goals (try go_wp2_with fail)
              all_goals go_meet
              all_goals exact ⟨by simp, HU.out.2.2.2.1.same rfl rfl rfl rfl⟩
            · have hij' : ¬ ((i : Int) ≤ j) := by omega
              have hd : decide ((i : Int) ≤ j) = false := decide_eq_false hij'
              have hcl : c = false := by rw [HU.out.1, decide_eq_false hij]; rfl
              have HCL : Hid (c = false) := hcl
              clear hcl
              go_quiet (fail)
              all_goals (try go_wp2_with fail)
              all_goals go_meet
              all_goals exact ⟨by rw [HCL.out], HU.out.2.2.2.1.same rfl rfl rfl rfl⟩
          case rest =>
            obtain ⟨rfl, hS2⟩ := hcut
            have HS2 : Hid (SR W wc B g n cap D) := hS2
            clear hS2
            cases c with
            | true =>
              have hcc : i ≤ j ∧ (!ltInt x pv) = true := by have := HU.out.1.symm; simpa using this
              have hj1 : 1 ≤ j := by have := HB.out; have := HEI.out; omega
              obtain ⟨m, hm⟩ : ∃ m, j = m + 1 := ⟨j - 1, by omega⟩
              have km : IntKind.i64.wrap ((j : Int) - 1) = m := by have := HB.out; have := HU.out.2.2.2.2; rw [IntKind.wrap_i64]; omega
              have HN : Hid (scanDown (fun x => !ltInt x pv) D i m = J ∧ i ≤ m + 1 ∧ m < j ∧ m ≤ j0) := ⟨by rw [← HU.out.2.2.1, hm, scanDown_go (p := (fun x => !ltInt x pv)) (by omega) (by rw [← hm, HU.out.2.1]; exact hcc.2)], by omega, by omega, by have := HU.out.2.2.2.2; omega⟩
              clear hcc hm
              go_wp2
              go_roundw
              case rel => exact ⟨m, rfl, HN.out.2.2.2, .inl HN.out.2.1, HN.out.1, HS2.out⟩
              case measure => (simp only [intOf]; have := HN.out.2.2; omega)
            | false =>
              have HEJ : Hid (J = j ∧ (j ≤ j0 ∧ (i ≤ j + 1 ∨ j = j0))) := ⟨by rw [← HU.out.2.2.1]; exact scanDown_stop (p := (fun x => !ltInt x pv)) (by rcases Bool.and_eq_false_iff.1 HU.out.1.symm with h | h; exact .inl (of_decide_eq_false h); exact .inr (by have e := HU.out.2.1; simp only [e]; exact h)), HU.out.2.2.2.2⟩
              obtain ⟨V, rfl⟩ : ∃ V, V = wc := ⟨_, rfl⟩
              clear HU
              have hb2 : a + 1 ≤ i ∧ a ≤ j ∧ j < b := by have := HB.out; have := HEI.out; have := HEJ.out; omega
              by_cases hgt : j < i
              · have hgt' : (j : Int) < i := by omega
                have e2 : b - 1 = j0 := by have := HB.out; omega
                have e3 : a + 1 = i0 := by have := HB.out; omega
                obtain ⟨x1, hx1⟩ : ∃ x, D[j]! = x := ⟨_, rfl⟩
                have b0j : (0 : Int) ≤ j := by omega
                have b1j : (j : Int) < n := by have := HB.out; omega
                obtain ⟨⟨q0, q1, q2, q3⟩, q4, q5, q6⟩ := HS2.out.swf (i := j) (j := a) (by omega) (by omega) hx1 HPVD.out
                have HQ : Hid (SR W ((V.setCell ⟨g, j, none⟩ (.int .u32 pv)).setCell ⟨g, a, none⟩ (.int .u32 x1)) B g n cap (swp D j a) ∧ partition ltInt d a b p = (j, true, swp D j a)) := ⟨q6, part_stop HDD.out HPVD.out (by rw [e2, e3, HI.out, HEI.out.1]) (by rw [e2, HJ.out, HEJ.out.1]) hgt⟩
                clear q6 hx1
                go_wp2_with fail
                go_region
                all_goals go_wp2
                all_goals go_ret2
                all_goals exact ⟨by rw [HQ.out.2]; rfl, by rw [HQ.out.2]; exact HQ.out.1.same rfl rfl rfl rfl⟩
              · have hgt' : ¬ ((j : Int) < i) := by omega
                obtain ⟨x1, hx1⟩ : ∃ x, D[i]! = x := ⟨_, rfl⟩
                obtain ⟨y1, hy1⟩ : ∃ x, D[j]! = x := ⟨_, rfl⟩
                have b0i : (0 : Int) ≤ i := by omega
                have b1i : (i : Int) < n := by have := HB.out; omega
                have b0j : (0 : Int) ≤ j := by omega
                have b1j : (j : Int) < n := by have := HB.out; omega
                obtain ⟨⟨q0, q1, q2, q3⟩, q4, q5, q6⟩ := HS2.out.swf (i := i) (j := j) (by omega) (by omega) hx1 hy1
                obtain ⟨i1, hi1⟩ : ∃ i1, i1 = i + 1 := ⟨_, rfl⟩
                obtain ⟨j1, hj1⟩ : ∃ j1, j1 + 1 = j := ⟨j - 1, by omega⟩
                have k1 : IntKind.i64.wrap ((i : Int) + 1) = i1 := by have := HB.out; rw [IntKind.wrap_i64]; omega
                have k2 : IntKind.i64.wrap ((j : Int) - 1) = j1 := by have := HB.out; rw [IntKind.wrap_i64]; omega
                have hpv2 : (swp D i j)[a]! = pv := by rw [swp_other _ _ _ _ (by omega) (by omega)]; exact HPVD.out
                obtain ⟨R, hR⟩ : ∃ R, partLoop ltInt a i1 j1 (swp D i j) = R := ⟨_, rfl⟩
                have HQ : Hid (SR W ((V.setCell ⟨g, i, none⟩ (.int .u32 y1)).setCell ⟨g, j, none⟩ (.int .u32 x1)) B g n cap (swp D i j) ∧ partLoop ltInt a i1 j1 (swp D i j) = R ∧ (swp D i j)[a]! = pv ∧ (i1 = i + 1 ∧ j1 + 1 = j ∧ a + 1 ≤ i ∧ i ≤ j ∧ j < b)) := ⟨q6, hR, hpv2, hi1, hj1, by omega, by omega, by omega⟩
                have HPT : Hid (partition ltInt d a b p = (R.1, false, swp R.2 R.1 a)) := by
                  have e : j1 = j - 1 := by omega
                  have e2 : b - 1 = j0 := by have := HB.out; omega
                  have e3 : a + 1 = i0 := by have := HB.out; omega
                  show _ = _
                  rw [← hR, hi1, e]
                  exact part_go HDD.out HPVD.out (by rw [e2, e3, HI.out, HEI.out.1]) (by rw [e2, HJ.out, HEJ.out.1]) (by omega)
                clear q6 hx1 hy1 hpv2 hi1 hj1 hR
                go_wp2_with fail
                go_region
                all_goals go_wp2
                go_loopw [10, 11] (fun vi vj wr => ∃ (ii jj : Nat) (dk : Array Int), vi = .int .i64 ii ∧ vj = .int .i64 jj ∧ a + 1 ≤ ii ∧ (a ≤ jj ∧ jj < b) ∧ ii ≤ jj + 2 ∧ dk[a]! = pv ∧ partLoop ltInt a ii jj dk = R ∧ SR W wr B g n cap dk) (fun vi vj _ => (intOf vj).toNat + 3 - (intOf vi).toNat)
                case atStart => exact ⟨i1, j1, swp D i j, rfl, rfl, by have := HQ.out.2.2.2; omega, by have := HQ.out.2.2.2; omega, by have := HQ.out.2.2.2; omega, HQ.out.2.2.1, HQ.out.2.1, HQ.out.1.same rfl rfl rfl rfl⟩
                case round =>
                  obtain ⟨ii, jj, dk, rfl, rfl, hii, hjj, hij, hpk, hRk, hSk⟩ := hrel
                  obtain ⟨Vm, rfl⟩ : ∃ Vm, Vm = wr := ⟨_, rfl⟩
                  have HPVdk : Hid (dk[a]! = pv) := hpk
                  have HRk : Hid (partLoop ltInt a ii jj dk = R) := hRk
                  have HSk : Hid (SR W Vm B g n cap dk) := hSk
                  have HB : Hid (a < b ∧ b ≤ n ∧ a + 1 ≤ ii ∧ jj < b ∧ a ≤ jj ∧ ii ≤ jj + 2 ∧ n ≤ 1000) := ⟨by omega, hb, hii, by omega, by omega, hij, hn⟩
                  clear hpk hRk hSk hii hjj hij
                  obtain ⟨I2, hT⟩ : ∃ T, scanUp (fun x => ltInt x pv) dk jj ii = T := ⟨_, rfl⟩
                  have HI2 : Hid (scanUp (fun x => ltInt x pv) dk jj ii = I2) := hT
                  clear hT
                  go_wp2
                  go_loopw [10] (fun vi wr => ∃ i : Nat, vi = .int .i64 i ∧ ii ≤ i ∧ (i ≤ jj + 1 ∨ i = ii) ∧ scanUp (fun x => ltInt x pv) dk jj i = I2 ∧ SR W wr B g n cap dk) (fun vi _ => jj + 2 - (intOf vi).toNat)
                  case atStart => exact ⟨ii, rfl, Nat.le_refl _, .inr rfl, HI2.out, HSk.out⟩
                  case round =>
                    obtain ⟨i, rfl, hi1, hi2, hU, hS⟩ := hrel
                    obtain ⟨VI2, rfl⟩ : ∃ V, V = wr := ⟨_, rfl⟩
                    obtain ⟨x, hx⟩ : ∃ x, dk[i]! = x := ⟨_, rfl⟩
                    obtain ⟨c, hc⟩ : ∃ c, c = (decide (i ≤ jj) && ltInt x pv) := ⟨_, rfl⟩
                    have HU : Hid (c = (decide (i ≤ jj) && ltInt x pv) ∧ dk[i]! = x ∧ scanUp (fun x => ltInt x pv) dk jj i = I2 ∧ SR W VI2 B g n cap dk ∧ (ii ≤ i ∧ (i ≤ jj + 1 ∨ i = ii))) := ⟨hc, hx, hU, hS, hi1, hi2⟩
                    clear hU hS hi1 hi2 hx hc
                    go_wp2_with fail
                    go_cut [112] (fun v X => v = .bool c ∧ SR W X B g n cap dk)
                    case first =>
                      by_cases hij : i ≤ jj
                      · have hij' : (i : Int) ≤ jj := by omega
                        have hd : decide ((i : Int) ≤ jj) = true := decide_eq_true hij'
                        have b0i : (0 : Int) ≤ i := by omega
                        have b1i : (i : Int) < n := by have := HB.out; omega
                        have hcl : ltInt x pv = c := by rw [HU.out.1, decide_eq_true hij]; simp
                        have hL := less_of x pv
                        rw [hcl] at hL
                        have zS : VI2.cell? ⟨g, i, none⟩ = some (.int .u32 x) ∧ VI2.cell? ⟨g, a, none⟩ = some (.int .u32 pv) := ⟨by rw [← HU.out.2.1]; exact HU.out.2.2.2.1.cell (by omega), by rw [← HPVdk.out]; exact HU.out.2.2.2.1.cell (by omega)⟩
                        go_region_held3 (fun X => X.cell? ⟨g, i, none⟩ = some (.int .u32 x) ∧ X.cell? ⟨g, a, none⟩ = some (.int .u32 pv)) (exact zS)
                          ((go_simp; go_at_call 50; refine (hL _).mono ?_; rintro e w11 ⟨rfl, hw11⟩; replace hw11 := hw11.symm; subst hw11))
                        all_goals (try go_wp2_with fail)
                        all_goals go_meet
                        all_goals exact ⟨by simp, HU.out.2.2.2.1.same rfl rfl rfl rfl⟩
                      · have hij' : ¬ ((i : Int) ≤ jj) := by omega
                        have hd : decide ((i : Int) ≤ jj) = false := decide_eq_false hij'
                        have hcl : c = false := by rw [HU.out.1, decide_eq_false hij]; rfl
                        have HCL : Hid (c = false) := hcl
                        clear hcl
                        go_quiet (fail)
                        all_goals (try go_wp2_with fail)
                        all_goals go_meet
                        all_goals exact ⟨by rw [HCL.out], HU.out.2.2.2.1.same rfl rfl rfl rfl⟩
                    case rest =>
                      obtain ⟨rfl, hS2⟩ := hcut
                      have HS2 : Hid (SR W wc B g n cap dk) := hS2
                      clear hS2
                      cases c with
                      | true =>
                        have hcc : i ≤ jj ∧ (ltInt x pv) = true := by have := HU.out.1.symm; simpa using this
                        obtain ⟨m, hm⟩ : ∃ m, m = i + 1 := ⟨_, rfl⟩
                        have km : IntKind.i64.wrap ((i : Int) + 1) = m := by have := HB.out; have := HU.out.2.2.2.2; rw [IntKind.wrap_i64]; omega
                        have HN : Hid (scanUp (fun x => ltInt x pv) dk jj m = I2 ∧ m ≤ jj + 1 ∧ ii ≤ m ∧ i < m ∧ i ≤ jj) := ⟨by rw [← HU.out.2.2.1, hm, scanUp_go (p := (fun x => ltInt x pv)) hcc.1 (by rw [HU.out.2.1]; exact hcc.2)], by omega, by have := HU.out.2.2.2.2; omega, by omega, hcc.1⟩
                        clear hcc hm
                        go_wp2
                        go_roundw
                        case rel => exact ⟨m, rfl, HN.out.2.2.1, .inl HN.out.2.1, HN.out.1, HS2.out⟩
                        case measure => (simp only [intOf]; have := HN.out.2; omega)
                      | false =>
                        have HEI2 : Hid (I2 = i ∧ (ii ≤ i ∧ (i ≤ jj + 1 ∨ i = ii))) := ⟨by rw [← HU.out.2.2.1]; exact scanUp_stop (p := (fun x => ltInt x pv)) (by rcases Bool.and_eq_false_iff.1 HU.out.1.symm with h | h; exact .inl (of_decide_eq_false h); exact .inr (by have e := HU.out.2.1; simp only [e]; exact h)), HU.out.2.2.2.2⟩
                        obtain ⟨V, rfl⟩ : ∃ V, V = wc := ⟨_, rfl⟩
                        clear HU
                        obtain ⟨J2, hT⟩ : ∃ T, scanDown (fun x => !ltInt x pv) dk i jj = T := ⟨_, rfl⟩
                        have HJ2 : Hid (scanDown (fun x => !ltInt x pv) dk i jj = J2) := hT
                        clear hT
                        go_wp2
                        go_loopw [11] (fun vj wr => ∃ j : Nat, vj = .int .i64 j ∧ j ≤ jj ∧ (i ≤ j + 1 ∨ j = jj) ∧ scanDown (fun x => !ltInt x pv) dk i j = J2 ∧ SR W wr B g n cap dk) (fun vj _ => (intOf vj).toNat)
                        case atStart => exact ⟨jj, rfl, Nat.le_refl _, .inr rfl, HJ2.out, HS2.out⟩
                        case round =>
                          obtain ⟨j, rfl, hj1, hj2, hU, hS⟩ := hrel
                          obtain ⟨VJ2, rfl⟩ : ∃ V, V = wr := ⟨_, rfl⟩
                          obtain ⟨x, hx⟩ : ∃ x, dk[j]! = x := ⟨_, rfl⟩
                          obtain ⟨c, hc⟩ : ∃ c, c = (decide (i ≤ j) && !ltInt x pv) := ⟨_, rfl⟩
                          have HU : Hid (c = (decide (i ≤ j) && !ltInt x pv) ∧ dk[j]! = x ∧ scanDown (fun x => !ltInt x pv) dk i j = J2 ∧ SR W VJ2 B g n cap dk ∧ (j ≤ jj ∧ (i ≤ j + 1 ∨ j = jj))) := ⟨hc, hx, hU, hS, hj1, hj2⟩
                          clear hU hS hj1 hj2 hx hc
                          go_wp2_with fail
                          go_cut [129] (fun v X => v = .bool c ∧ SR W X B g n cap dk)
                          case first =>
                            by_cases hij : i ≤ j
                            · have hij' : (i : Int) ≤ j := by omega
                              have hd : decide ((i : Int) ≤ j) = true := decide_eq_true hij'
                              have b0j : (0 : Int) ≤ j := by omega
                              have b1j : (j : Int) < n := by have := HB.out; have := HU.out.2.2.2.2; omega
                              have hcl : ltInt x pv = !c := by rw [HU.out.1, decide_eq_true hij]; simp
                              have hL := less_of x pv
                              rw [hcl] at hL
                              have zS : VJ2.cell? ⟨g, j, none⟩ = some (.int .u32 x) ∧ VJ2.cell? ⟨g, a, none⟩ = some (.int .u32 pv) := ⟨by rw [← HU.out.2.1]; exact HU.out.2.2.2.1.cell (by omega), by rw [← HPVdk.out]; exact HU.out.2.2.2.1.cell (by omega)⟩
                              go_region_held3 (fun X => X.cell? ⟨g, j, none⟩ = some (.int .u32 x) ∧ X.cell? ⟨g, a, none⟩ = some (.int .u32 pv)) (exact zS)
                                ((go_simp; go_at_call 50; refine (hL _).mono ?_; rintro e w11 ⟨rfl, hw11⟩; replace hw11 := hw11.symm; subst hw11))
                              all_goals (try go_wp2_with fail)
                              all_goals go_meet
                              all_goals exact ⟨by simp, HU.out.2.2.2.1.same rfl rfl rfl rfl⟩
                            · have hij' : ¬ ((i : Int) ≤ j) := by omega
                              have hd : decide ((i : Int) ≤ j) = false := decide_eq_false hij'
                              have hcl : c = false := by rw [HU.out.1, decide_eq_false hij]; rfl
                              have HCL : Hid (c = false) := hcl
                              clear hcl
                              go_quiet (fail)
                              all_goals (try go_wp2_with fail)
                              all_goals go_meet
                              all_goals exact ⟨by rw [HCL.out], HU.out.2.2.2.1.same rfl rfl rfl rfl⟩
                          case rest =>
                            obtain ⟨rfl, hS2⟩ := hcut
                            have HS2 : Hid (SR W wc B g n cap dk) := hS2
                            clear hS2
                            cases c with
                            | true =>
                              have hcc : i ≤ j ∧ (!ltInt x pv) = true := by have := HU.out.1.symm; simpa using this
                              have hj1 : 1 ≤ j := by have := HB.out; have := HEI2.out; omega
                              obtain ⟨m, hm⟩ : ∃ m, j = m + 1 := ⟨j - 1, by omega⟩
                              have km : IntKind.i64.wrap ((j : Int) - 1) = m := by have := HB.out; have := HU.out.2.2.2.2; rw [IntKind.wrap_i64]; omega
                              have HN : Hid (scanDown (fun x => !ltInt x pv) dk i m = J2 ∧ i ≤ m + 1 ∧ m < j ∧ m ≤ jj) := ⟨by rw [← HU.out.2.2.1, hm, scanDown_go (p := (fun x => !ltInt x pv)) (by omega) (by rw [← hm, HU.out.2.1]; exact hcc.2)], by omega, by omega, by have := HU.out.2.2.2.2; omega⟩
                              clear hcc hm
                              go_wp2
                              go_roundw
                              case rel => exact ⟨m, rfl, HN.out.2.2.2, .inl HN.out.2.1, HN.out.1, HS2.out⟩
                              case measure => (simp only [intOf]; have := HN.out.2.2; omega)
                            | false =>
                              have HEJ2 : Hid (J2 = j ∧ (j ≤ jj ∧ (i ≤ j + 1 ∨ j = jj))) := ⟨by rw [← HU.out.2.2.1]; exact scanDown_stop (p := (fun x => !ltInt x pv)) (by rcases Bool.and_eq_false_iff.1 HU.out.1.symm with h | h; exact .inl (of_decide_eq_false h); exact .inr (by have e := HU.out.2.1; simp only [e]; exact h)), HU.out.2.2.2.2⟩
                              obtain ⟨V, rfl⟩ : ∃ V, V = wc := ⟨_, rfl⟩
                              clear HU
                              have hb3 : a + 1 ≤ i ∧ a ≤ j ∧ j < b := by have := HB.out; have := HEI2.out; have := HEJ2.out; omega
                              by_cases hgt : j < i
                              · have hgt' : (j : Int) < i := by omega
                                obtain ⟨x1, hx1⟩ : ∃ x, dk[j]! = x := ⟨_, rfl⟩
                                have b0j : (0 : Int) ≤ j := by omega
                                have b1j : (j : Int) < n := by have := HB.out; omega
                                obtain ⟨⟨q0, q1, q2, q3⟩, q4, q5, q6⟩ := HS2.out.swf (i := j) (j := a) (by omega) (by omega) hx1 HPVdk.out
                                have HQ : Hid (SR W ((V.setCell ⟨g, j, none⟩ (.int .u32 pv)).setCell ⟨g, a, none⟩ (.int .u32 x1)) B g n cap (swp dk j a) ∧ partition ltInt d a b p = (j, false, swp dk j a)) := ⟨q6, by rw [HPT.out, ← HRk.out, partLoop_stop HPVdk.out (by rw [HI2.out, HEI2.out.1]) (by rw [HJ2.out, HEJ2.out.1]) hgt]⟩
                                clear q6 hx1
                                go_wp2_with fail
                                go_region
                                all_goals go_wp2
                                all_goals go_ret2
                                all_goals exact ⟨by rw [HQ.out.2]; rfl, by rw [HQ.out.2]; exact HQ.out.1.same rfl rfl rfl rfl⟩
                              · have hgt' : ¬ ((j : Int) < i) := by omega
                                obtain ⟨x1, hx1⟩ : ∃ x, dk[i]! = x := ⟨_, rfl⟩
                                obtain ⟨y1, hy1⟩ : ∃ x, dk[j]! = x := ⟨_, rfl⟩
                                have b0i : (0 : Int) ≤ i := by omega
                                have b1i : (i : Int) < n := by have := HB.out; omega
                                have b0j : (0 : Int) ≤ j := by omega
                                have b1j : (j : Int) < n := by have := HB.out; omega
                                obtain ⟨⟨q0, q1, q2, q3⟩, q4, q5, q6⟩ := HS2.out.swf (i := i) (j := j) (by omega) (by omega) hx1 hy1
                                obtain ⟨i1, hi1⟩ : ∃ i1, i1 = i + 1 := ⟨_, rfl⟩
                                obtain ⟨j1, hj1⟩ : ∃ j1, j1 + 1 = j := ⟨j - 1, by omega⟩
                                have k1 : IntKind.i64.wrap ((i : Int) + 1) = i1 := by have := HB.out; rw [IntKind.wrap_i64]; omega
                                have k2 : IntKind.i64.wrap ((j : Int) - 1) = j1 := by have := HB.out; rw [IntKind.wrap_i64]; omega
                                have hpv2 : (swp dk i j)[a]! = pv := by rw [swp_other _ _ _ _ (by omega) (by omega)]; exact HPVdk.out
                                have HQ : Hid (SR W ((V.setCell ⟨g, i, none⟩ (.int .u32 y1)).setCell ⟨g, j, none⟩ (.int .u32 x1)) B g n cap (swp dk i j) ∧ partLoop ltInt a i1 j1 (swp dk i j) = R ∧ (swp dk i j)[a]! = pv ∧ (i1 = i + 1 ∧ j1 + 1 = j ∧ a + 1 ≤ i ∧ i ≤ j ∧ j ≤ jj ∧ jj < b ∧ ii ≤ i)) := ⟨q6, by
                                  have e : j1 = j - 1 := by omega
                                  rw [← HRk.out, hi1, e, partLoop_go HPVdk.out (by rw [HI2.out, HEI2.out.1]) (by rw [HJ2.out, HEJ2.out.1]) (by omega) (by have := HEI2.out; omega) (by have := HEJ2.out; omega) (by omega)], hpv2, hi1, hj1, by omega, by omega, by have := HEJ2.out; omega, by have := HB.out; omega, by have := HEI2.out; omega⟩
                                clear q6 hx1 hy1 hpv2 hi1 hj1
                                go_wp2_with fail
                                go_region
                                all_goals go_wp2
                                all_goals (
                                  go_roundw
                                  case rel => exact ⟨i1, j1, _, rfl, rfl, by have := HQ.out.2.2.2; omega, by have := HQ.out.2.2.2; omega, by have := HQ.out.2.2.2; omega, HQ.out.2.2.1, HQ.out.2.1, HQ.out.1.same rfl rfl rfl rfl⟩
                                  case measure => (simp only [intOf]; have := HQ.out.2.2.2; omega))
end Go.Proofs.Ytkhldjpghjmgfaa
