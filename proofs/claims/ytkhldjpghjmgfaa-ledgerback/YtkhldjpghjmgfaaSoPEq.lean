/- partitionEqual. -/
import Derived.Test.YtkhldjpghjmgfaaSoPart
namespace Go.Proofs.Ytkhldjpghjmgfaa
open Go.RowKit Go.Sort
set_option linter.unusedVariables false

theorem partEq_stop {lt : Int → Int → Bool} {a i j I J : Nat} {d : Array Int} {pv : Int} (hp : d[a]! = pv) (hI : scanUp (fun x => !lt pv x) d j i = I) (hJ : scanDown (fun x => lt pv x) d I j = J) (h : J < I) : partEqLoop lt a i j d = (I, d) := by
  rw [partEqLoop]
  simp only [hp, hI, hJ]
  rw [if_pos h]
theorem partEq_go {lt : Int → Int → Bool} {a i j I J : Nat} {d : Array Int} {pv : Int} (hp : d[a]! = pv) (hI : scanUp (fun x => !lt pv x) d j i = I) (hJ : scanDown (fun x => lt pv x) d I j = J) (h : I ≤ J) (h1 : i ≤ I) (h2 : J ≤ j) (h3 : 1 ≤ I) : partEqLoop lt a i j d = partEqLoop lt a (I + 1) (J - 1) (swp d I J) := by
  conv => lhs; rw [partEqLoop]
  simp only [hp, hI, hJ]
  rw [if_neg (by omega), dif_pos (by omega)]
set_option maxRecDepth 100000 in
set_option maxHeartbeats 4000000 in
theorem partEq_of (W : World) (B g n cap a b p : Nat) (d : Array Int) (w : World) (h : SR W w B g n cap d) (hp1 : a ≤ p) (hp2 : p < b) (hb : b ≤ n) (hn : n ≤ 1000) :
    Calls Try.prog 51 #[.slice (some ⟨g, 0, none⟩) n cap, .int .i64 a, .int .i64 b, .int .i64 p] w fun e w' => e = .returned (.int .i64 (partitionEqual ltInt d a b p).1) ∧ SR W w' B g n cap (partitionEqual ltInt d a b p).2 := by
  have b0a : (0 : Int) ≤ a := by omega
  have b1a : (a : Int) < n := by omega
  have b0p : (0 : Int) ≤ p := by omega
  have b1p : (p : Int) < n := by omega
  obtain ⟨x, hx⟩ : ∃ x, d[a]! = x := ⟨_, rfl⟩
  obtain ⟨y, hy⟩ : ∃ y, d[p]! = y := ⟨_, rfl⟩
  obtain ⟨⟨q0, q1, q2, q3⟩, q4, q5, q6⟩ := h.swf (i := a) (j := p) (by omega) (by omega) hx hy
  obtain ⟨i0, hi0⟩ : ∃ i0, i0 = a + 1 := ⟨_, rfl⟩
  obtain ⟨j0, hj0⟩ : ∃ j0, j0 + 1 = b := ⟨b - 1, by omega⟩
  have k1 : IntKind.i64.wrap ((a : Int) + 1) = i0 := by rw [IntKind.wrap_i64]; omega
  have k2 : IntKind.i64.wrap ((b : Int) - 1) = j0 := by rw [IntKind.wrap_i64]; omega
  have HS : Hid (SR W ((w.setCell ⟨g, a, none⟩ (.int .u32 y)).setCell ⟨g, p, none⟩ (.int .u32 x)).drew B g n cap (swp d a p) ∧ i0 = a + 1 ∧ j0 + 1 = b) := ⟨q6.drew, hi0, hj0⟩
  clear h q6 hx hy hi0 hj0
  go_enter Try.func51, Try.ntmps51
  go_wp2_with fail
  go_region
  all_goals go_wp2_with fail
  --BODY
  generalize hV : World.drew _ = V0 at HS
  clear hV
  obtain ⟨D, hD⟩ : ∃ D, swp d a p = D := ⟨_, rfl⟩
  obtain ⟨pv, hpv⟩ : ∃ pv, D[a]! = pv := ⟨_, rfl⟩
  obtain ⟨R, hR⟩ : ∃ R, partEqLoop ltInt a i0 j0 D = R := ⟨_, rfl⟩
  have HPT : Hid (partitionEqual ltInt d a b p = R) := by
    have e2 : b - 1 = j0 := by have := HS.out.2.2; omega
    show _ = _
    rw [← hR, ← hD, HS.out.2.1, ← e2]
    rfl
  have HQ : Hid (SR W V0 B g n cap D ∧ partEqLoop ltInt a i0 j0 D = R ∧ D[a]! = pv ∧ i0 = a + 1 ∧ j0 + 1 = b) := ⟨by rw [← hD]; exact HS.out.1, hR, hpv, HS.out.2⟩
  clear HS hD hpv hR q0 q1 q2 q3 q4 q5
  go_loopw [9, 10] (fun vi vj wr => ∃ (ii jj : Nat) (dk : Array Int), vi = .int .i64 ii ∧ vj = .int .i64 jj ∧ a + 1 ≤ ii ∧ (a ≤ jj ∧ jj < b) ∧ ii ≤ jj + 2 ∧ dk[a]! = pv ∧ partEqLoop ltInt a ii jj dk = R ∧ SR W wr B g n cap dk) (fun vi vj _ => (intOf vj).toNat + 3 - (intOf vi).toNat)
  case atStart => exact ⟨i0, j0, D, rfl, rfl, by have := HQ.out.2.2.2; omega, by have := HQ.out.2.2.2; omega, by have := HQ.out.2.2.2; omega, HQ.out.2.2.1, HQ.out.2.1, HQ.out.1⟩
  case round =>
    obtain ⟨ii, jj, dk, rfl, rfl, hii, hjj, hij, hpk, hRk, hSk⟩ := hrel
    obtain ⟨Vm, rfl⟩ : ∃ Vm, Vm = wr := ⟨_, rfl⟩
    have HPVdk : Hid (dk[a]! = pv) := hpk
    have HRk : Hid (partEqLoop ltInt a ii jj dk = R) := hRk
    have HSk : Hid (SR W Vm B g n cap dk) := hSk
    have HB : Hid (a < b ∧ b ≤ n ∧ a + 1 ≤ ii ∧ jj < b ∧ a ≤ jj ∧ ii ≤ jj + 2 ∧ n ≤ 1000) := ⟨by omega, hb, hii, by omega, by omega, hij, hn⟩
    clear hpk hRk hSk hii hjj hij
    obtain ⟨I2, hT⟩ : ∃ T, scanUp (fun x => !ltInt pv x) dk jj ii = T := ⟨_, rfl⟩
    have HI2 : Hid (scanUp (fun x => !ltInt pv x) dk jj ii = I2) := hT
    clear hT
    go_wp2
    go_loopw [9] (fun vi wr => ∃ i : Nat, vi = .int .i64 i ∧ ii ≤ i ∧ (i ≤ jj + 1 ∨ i = ii) ∧ scanUp (fun x => !ltInt pv x) dk jj i = I2 ∧ SR W wr B g n cap dk) (fun vi _ => jj + 2 - (intOf vi).toNat)
    case atStart => exact ⟨ii, rfl, Nat.le_refl _, .inr rfl, HI2.out, HSk.out⟩
    case round =>
      obtain ⟨i, rfl, hi1, hi2, hU, hS⟩ := hrel
      obtain ⟨VI2, rfl⟩ : ∃ V, V = wr := ⟨_, rfl⟩
      obtain ⟨x, hx⟩ : ∃ x, dk[i]! = x := ⟨_, rfl⟩
      obtain ⟨c, hc⟩ : ∃ c, c = (decide (i ≤ jj) && !ltInt pv x) := ⟨_, rfl⟩
      have HU : Hid (c = (decide (i ≤ jj) && !ltInt pv x) ∧ dk[i]! = x ∧ scanUp (fun x => !ltInt pv x) dk jj i = I2 ∧ SR W VI2 B g n cap dk ∧ (ii ≤ i ∧ (i ≤ jj + 1 ∨ i = ii))) := ⟨hc, hx, hU, hS, hi1, hi2⟩
      clear hU hS hi1 hi2 hx hc
      go_wp2_with fail
      go_cut [43] (fun v X => v = .bool c ∧ SR W X B g n cap dk)
      case first =>
        by_cases hij : i ≤ jj
        · have hij' : (i : Int) ≤ jj := by omega
          have hd : decide ((i : Int) ≤ jj) = true := decide_eq_true hij'
          have b0i : (0 : Int) ≤ i := by omega
          have b1i : (i : Int) < n := by have := HB.out; omega
          have hcl : ltInt pv x = !c := by rw [HU.out.1, decide_eq_true hij]; simp
          have hL := less_of pv x
          rw [hcl] at hL
          have zS : VI2.cell? ⟨g, i, none⟩ = some (.int .u32 x) ∧ VI2.cell? ⟨g, a, none⟩ = some (.int .u32 pv) := ⟨by rw [← HU.out.2.1]; exact HU.out.2.2.2.1.cell (by omega), by rw [← HPVdk.out]; exact HU.out.2.2.2.1.cell (by omega)⟩
          go_region_held3 (fun X => X.cell? ⟨g, i, none⟩ = some (.int .u32 x) ∧ X.cell? ⟨g, a, none⟩ = some (.int .u32 pv)) (exact zS)
            ((go_simp; go_at_call 50; refine (hL _).mono ?_; rintro e w11 ⟨rfl, hw11⟩; replace hw11 := hw11.symm; subst hw11))
          all_goals (try go_wp2_with fail)
          all_goals go_meet
          all_goals exact ⟨by simp, HU.out.2.2.2.1.same rfl rfl rfl rfl⟩
        · have hij' : ¬ ((i : Int) ≤ jj) := by omega
          have hd : decide ((i : Int) ≤ jj) = false := decide_eq_false hij'
          have hcl : c = false := by rw [HU.out.1, decide_eq_false hij]; rfl
          have HCL : Hid (c = false) := hcl
          clear hcl
          go_quiet (fail)
          all_goals (try go_wp2_with fail)
          all_goals go_meet
          all_goals exact ⟨by rw [HCL.out], HU.out.2.2.2.1.same rfl rfl rfl rfl⟩
      case rest =>
        obtain ⟨rfl, hS2⟩ := hcut
        have HS2 : Hid (SR W wc B g n cap dk) := hS2
        clear hS2
        cases c with
        | true =>
          have hcc : i ≤ jj ∧ (!ltInt pv x) = true := by have := HU.out.1.symm; simpa using this
          obtain ⟨m, hm⟩ : ∃ m, m = i + 1 := ⟨_, rfl⟩
          have km : IntKind.i64.wrap ((i : Int) + 1) = m := by have := HB.out; have := HU.out.2.2.2.2; rw [IntKind.wrap_i64]; omega
          have HN : Hid (scanUp (fun x => !ltInt pv x) dk jj m = I2 ∧ m ≤ jj + 1 ∧ ii ≤ m ∧ i < m ∧ i ≤ jj) := ⟨by rw [← HU.out.2.2.1, hm, scanUp_go (p := (fun x => !ltInt pv x)) hcc.1 (by rw [HU.out.2.1]; exact hcc.2)], by omega, by have := HU.out.2.2.2.2; omega, by omega, hcc.1⟩
          clear hcc hm
          go_wp2
          go_roundw
          case rel => exact ⟨m, rfl, HN.out.2.2.1, .inl HN.out.2.1, HN.out.1, HS2.out⟩
          case measure => (simp only [intOf]; have := HN.out.2; omega)
        | false =>
          have HEI2 : Hid (I2 = i ∧ (ii ≤ i ∧ (i ≤ jj + 1 ∨ i = ii))) := ⟨by rw [← HU.out.2.2.1]; exact scanUp_stop (p := (fun x => !ltInt pv x)) (by rcases Bool.and_eq_false_iff.1 HU.out.1.symm with h | h; exact .inl (of_decide_eq_false h); exact .inr (by have e := HU.out.2.1; simp only [e]; exact h)), HU.out.2.2.2.2⟩
          obtain ⟨V, rfl⟩ : ∃ V, V = wc := ⟨_, rfl⟩
          clear HU
          obtain ⟨J2, hT⟩ : ∃ T, scanDown (fun x => ltInt pv x) dk i jj = T := ⟨_, rfl⟩
          have HJ2 : Hid (scanDown (fun x => ltInt pv x) dk i jj = J2) := hT
          clear hT
          go_wp2
          go_loopw [10] (fun vj wr => ∃ j : Nat, vj = .int .i64 j ∧ j ≤ jj ∧ (i ≤ j + 1 ∨ j = jj) ∧ scanDown (fun x => ltInt pv x) dk i j = J2 ∧ SR W wr B g n cap dk) (fun vj _ => (intOf vj).toNat)
          case atStart => exact ⟨jj, rfl, Nat.le_refl _, .inr rfl, HJ2.out, HS2.out⟩
          case round =>
            obtain ⟨j, rfl, hj1, hj2, hU, hS⟩ := hrel
            obtain ⟨VJ2, rfl⟩ : ∃ V, V = wr := ⟨_, rfl⟩
            obtain ⟨x, hx⟩ : ∃ x, dk[j]! = x := ⟨_, rfl⟩
            obtain ⟨c, hc⟩ : ∃ c, c = (decide (i ≤ j) && ltInt pv x) := ⟨_, rfl⟩
            have HU : Hid (c = (decide (i ≤ j) && ltInt pv x) ∧ dk[j]! = x ∧ scanDown (fun x => ltInt pv x) dk i j = J2 ∧ SR W VJ2 B g n cap dk ∧ (j ≤ jj ∧ (i ≤ j + 1 ∨ j = jj))) := ⟨hc, hx, hU, hS, hj1, hj2⟩
            clear hU hS hj1 hj2 hx hc
            go_wp2_with fail
            go_cut [59] (fun v X => v = .bool c ∧ SR W X B g n cap dk)
            case first =>
              by_cases hij : i ≤ j
              · have hij' : (i : Int) ≤ j := by omega
                have hd : decide ((i : Int) ≤ j) = true := decide_eq_true hij'
                have b0j : (0 : Int) ≤ j := by omega
                have b1j : (j : Int) < n := by have := HB.out; have := HU.out.2.2.2.2; omega
                have hcl : ltInt pv x = c := by rw [HU.out.1, decide_eq_true hij]; simp
                have hL := less_of pv x
                rw [hcl] at hL
                have zS : VJ2.cell? ⟨g, j, none⟩ = some (.int .u32 x) ∧ VJ2.cell? ⟨g, a, none⟩ = some (.int .u32 pv) := ⟨by rw [← HU.out.2.1]; exact HU.out.2.2.2.1.cell (by omega), by rw [← HPVdk.out]; exact HU.out.2.2.2.1.cell (by omega)⟩
                go_region_held3 (fun X => X.cell? ⟨g, j, none⟩ = some (.int .u32 x) ∧ X.cell? ⟨g, a, none⟩ = some (.int .u32 pv)) (exact zS)
                  ((go_simp; go_at_call 50; refine (hL _).mono ?_; rintro e w11 ⟨rfl, hw11⟩; replace hw11 := hw11.symm; subst hw11))
                all_goals (try go_wp2_with fail)
                all_goals go_meet
                all_goals exact ⟨by simp, HU.out.2.2.2.1.same rfl rfl rfl rfl⟩
              · have hij' : ¬ ((i : Int) ≤ j) := by omega
                have hd : decide ((i : Int) ≤ j) = false := decide_eq_false hij'
                have hcl : c = false := by rw [HU.out.1, decide_eq_false hij]; rfl
                have HCL : Hid (c = false) := hcl
                clear hcl
                go_quiet (fail)
                all_goals (try go_wp2_with fail)
                all_goals go_meet
                all_goals exact ⟨by rw [HCL.out], HU.out.2.2.2.1.same rfl rfl rfl rfl⟩
            case rest =>
              obtain ⟨rfl, hS2⟩ := hcut
              have HS2 : Hid (SR W wc B g n cap dk) := hS2
              clear hS2
              cases c with
              | true =>
                have hcc : i ≤ j ∧ (ltInt pv x) = true := by have := HU.out.1.symm; simpa using this
                have hj1 : 1 ≤ j := by have := HB.out; have := HEI2.out; omega
                obtain ⟨m, hm⟩ : ∃ m, j = m + 1 := ⟨j - 1, by omega⟩
                have km : IntKind.i64.wrap ((j : Int) - 1) = m := by have := HB.out; have := HU.out.2.2.2.2; rw [IntKind.wrap_i64]; omega
                have HN : Hid (scanDown (fun x => ltInt pv x) dk i m = J2 ∧ i ≤ m + 1 ∧ m < j ∧ m ≤ jj) := ⟨by rw [← HU.out.2.2.1, hm, scanDown_go (p := (fun x => ltInt pv x)) (by omega) (by rw [← hm, HU.out.2.1]; exact hcc.2)], by omega, by omega, by have := HU.out.2.2.2.2; omega⟩
                clear hcc hm
                go_wp2
                go_roundw
                case rel => exact ⟨m, rfl, HN.out.2.2.2, .inl HN.out.2.1, HN.out.1, HS2.out⟩
                case measure => (simp only [intOf]; have := HN.out.2.2; omega)
              | false =>
                have HEJ2 : Hid (J2 = j ∧ (j ≤ jj ∧ (i ≤ j + 1 ∨ j = jj))) := ⟨by rw [← HU.out.2.2.1]; exact scanDown_stop (p := (fun x => ltInt pv x)) (by rcases Bool.and_eq_false_iff.1 HU.out.1.symm with h | h; exact .inl (of_decide_eq_false h); exact .inr (by have e := HU.out.2.1; simp only [e]; exact h)), HU.out.2.2.2.2⟩
                obtain ⟨V, rfl⟩ : ∃ V, V = wc := ⟨_, rfl⟩
                clear HU
                have hb3 : a + 1 ≤ i ∧ a ≤ j ∧ j < b := by have := HB.out; have := HEI2.out; have := HEJ2.out; omega
                by_cases hgt : j < i
                · have hgt' : (j : Int) < i := by omega
                  have HQ : Hid (SR W V B g n cap dk ∧ partitionEqual ltInt d a b p = (i, dk)) := ⟨HS2.out, by rw [HPT.out, ← HRk.out, partEq_stop HPVdk.out (by rw [HI2.out, HEI2.out.1]) (by rw [HJ2.out, HEJ2.out.1]) hgt]⟩
                  go_wp2
                  go_ret
                  exact ⟨by rw [HQ.out.2]; rfl, by rw [HQ.out.2]; exact HQ.out.1⟩
                · have hgt' : ¬ ((j : Int) < i) := by omega
                  obtain ⟨x1, hx1⟩ : ∃ x, dk[i]! = x := ⟨_, rfl⟩
                  obtain ⟨y1, hy1⟩ : ∃ x, dk[j]! = x := ⟨_, rfl⟩
                  have b0i : (0 : Int) ≤ i := by omega
                  have b1i : (i : Int) < n := by have := HB.out; omega
                  have b0j : (0 : Int) ≤ j := by omega
                  have b1j : (j : Int) < n := by have := HB.out; omega
                  obtain ⟨⟨q0, q1, q2, q3⟩, q4, q5, q6⟩ := HS2.out.swf (i := i) (j := j) (by omega) (by omega) hx1 hy1
                  obtain ⟨i1, hi1⟩ : ∃ i1, i1 = i + 1 := ⟨_, rfl⟩
                  obtain ⟨j1, hj1⟩ : ∃ j1, j1 + 1 = j := ⟨j - 1, by omega⟩
                  have k1 : IntKind.i64.wrap ((i : Int) + 1) = i1 := by have := HB.out; rw [IntKind.wrap_i64]; omega
                  have k2 : IntKind.i64.wrap ((j : Int) - 1) = j1 := by have := HB.out; rw [IntKind.wrap_i64]; omega
                  have hpv2 : (swp dk i j)[a]! = pv := by rw [swp_other _ _ _ _ (by omega) (by omega)]; exact HPVdk.out
                  have HQ : Hid (SR W ((V.setCell ⟨g, i, none⟩ (.int .u32 y1)).setCell ⟨g, j, none⟩ (.int .u32 x1)) B g n cap (swp dk i j) ∧ partEqLoop ltInt a i1 j1 (swp dk i j) = R ∧ (swp dk i j)[a]! = pv ∧ (i1 = i + 1 ∧ j1 + 1 = j ∧ a + 1 ≤ i ∧ i ≤ j ∧ j ≤ jj ∧ jj < b ∧ ii ≤ i)) := ⟨q6, by
                    have e : j1 = j - 1 := by omega
                    rw [← HRk.out, hi1, e, partEq_go HPVdk.out (by rw [HI2.out, HEI2.out.1]) (by rw [HJ2.out, HEJ2.out.1]) (by omega) (by have := HEI2.out; omega) (by have := HEJ2.out; omega) (by omega)], hpv2, hi1, hj1, by omega, by omega, by have := HEJ2.out; omega, by have := HB.out; omega, by have := HEI2.out; omega⟩
                  clear q6 hx1 hy1 hpv2 hi1 hj1
                  go_wp2_with fail
                  go_region
                  all_goals go_wp2
                  all_goals (
                    go_roundw
                    case rel => exact ⟨i1, j1, _, rfl, rfl, by have := HQ.out.2.2.2; omega, by have := HQ.out.2.2.2; omega, by have := HQ.out.2.2.2; omega, HQ.out.2.2.1, HQ.out.2.1, HQ.out.1.same rfl rfl rfl rfl⟩
                    case measure => (simp only [intOf]; have := HQ.out.2.2.2; omega))
end Go.Proofs.Ytkhldjpghjmgfaa
