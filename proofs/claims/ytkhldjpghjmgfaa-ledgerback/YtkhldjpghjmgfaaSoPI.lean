/- partialInsertionSort. -/
import Derived.Test.YtkhldjpghjmgfaaSoPart
namespace Go.Proofs.Ytkhldjpghjmgfaa
open Go.RowKit Go.Sort
set_option linter.unusedVariables false

theorem scanSorted_go {d : Array Int} {b i : Nat} (h : i < b) (hp : ltInt d[i]! d[i - 1]! = false) : scanSorted ltInt d b i = scanSorted ltInt d b (i + 1) := by
  conv => lhs; rw [scanSorted]
  rw [if_pos (by simp [h, hp])]
theorem scanSorted_stop {d : Array Int} {b i : Nat} (h : ¬ i < b ∨ ltInt d[i]! d[i - 1]! = true) : scanSorted ltInt d b i = i := by
  rw [scanSorted, if_neg]
  rcases h with h | h <;> simp [h]
theorem pI_true {a b s ii i : Nat} {d : Array Int} (hT : scanSorted ltInt d b ii = i) (h1 : i = b) : partialIns ltInt a b (s + 1) ii d = (d, true) := by
  unfold partialIns
  simp only [hT]
  rw [if_pos h1]
theorem pI_false {a b s ii i : Nat} {d : Array Int} (hT : scanSorted ltInt d b ii = i) (h1 : i ≠ b) (h2 : b - a < 50) : partialIns ltInt a b (s + 1) ii d = (d, false) := by
  unfold partialIns
  simp only [hT]
  rw [if_neg h1, if_pos h2]
theorem pI_go {a b s ii i : Nat} {d : Array Int} (hT : scanSorted ltInt d b ii = i) (h1 : i ≠ b) (h2 : ¬ b - a < 50) : partialIns ltInt a b (s + 1) ii d = partialIns ltInt a b s i (if b - i ≥ 2 then shiftUp ltInt b (i + 1) (if i - a ≥ 2 then shiftDown ltInt (i - 1) (swp d i (i - 1)) else swp d i (i - 1)) else (if i - a ≥ 2 then shiftDown ltInt (i - 1) (swp d i (i - 1)) else swp d i (i - 1))) := by
  conv => lhs; unfold partialIns
  simp only [hT]
  rw [if_neg h1, if_neg h2]
theorem shiftUp_end {b j : Nat} {d : Array Int} (h : ¬ j < b) : shiftUp ltInt b j d = d := by rw [shiftUp, if_neg h]
theorem shiftUp_stop {b j : Nat} {d : Array Int} (h : ltInt d[j]! d[j - 1]! = false) : shiftUp ltInt b j d = d := by
  rw [shiftUp]
  split
  · rw [if_pos (by simp [h])]
  · rfl
theorem shiftUp_go {b j : Nat} {d : Array Int} (h : j < b) (hl : ltInt d[j]! d[j - 1]! = true) : shiftUp ltInt b j d = shiftUp ltInt b (j + 1) (swp d j (j - 1)) := by
  conv => lhs; rw [shiftUp]
  rw [if_pos h, if_neg (by simp [hl])]
theorem shiftDown_stop {q : Nat} {d : Array Int} (h : ltInt d[q + 1]! d[q]! = false) : shiftDown ltInt (q + 1) d = d := by
  rw [shiftDown, if_pos (by simp [h])]
theorem shiftDown_go {q : Nat} {d : Array Int} (hl : ltInt d[q + 1]! d[q]! = true) : shiftDown ltInt (q + 1) d = shiftDown ltInt q (swp d (q + 1) q) := by
  conv => lhs; rw [shiftDown]
  rw [if_neg (by simp [hl])]
set_option maxRecDepth 100000 in
set_option maxHeartbeats 4000000 in
theorem partial_of (W : World) (B g n cap a b : Nat) (d : Array Int) (w : World) (h : SR W w B g n cap d) (hab : a < b) (hb : b ≤ n) (hn : n ≤ 1000) :
    Calls Try.prog 49 #[.slice (some ⟨g, 0, none⟩) n cap, .int .i64 a, .int .i64 b] w fun e w' => e = .returned (.bool (partialInsertionSort ltInt d a b).2) ∧ SR W w' B g n cap (partialInsertionSort ltInt d a b).1 := by
  obtain ⟨i0, hi0⟩ : ∃ i0, i0 = a + 1 := ⟨_, rfl⟩
  have k1 : IntKind.i64.wrap ((a : Int) + 1) = i0 := by rw [IntKind.wrap_i64]; omega
  obtain ⟨R, hR⟩ : ∃ R, partialIns ltInt a b 5 i0 d = R := ⟨_, rfl⟩
  have HPT : Hid (partialInsertionSort ltInt d a b = R ∧ SR W w B g n cap d ∧ i0 = a + 1 ∧ partialIns ltInt a b 5 i0 d = R) := ⟨by rw [← hR, hi0]; rfl, h, hi0, hR⟩
  clear h hi0 hR
  go_enter Try.func49, Try.ntmps49
  go_wp2
  --BODY
  go_loopw [7, 8] (fun vi vj wr => ∃ (s ii : Nat) (dk : Array Int), vi = .int .i64 ii ∧ vj = .int .i64 (5 - (s : Int)) ∧ a + 1 ≤ ii ∧ ii ≤ b ∧ s ≤ 5 ∧ partialIns ltInt a b s ii dk = R ∧ SR W wr B g n cap dk) (fun _ vj _ => (5 - intOf vj).toNat)
  case atStart => exact ⟨5, i0, d, rfl, rfl, by have := HPT.out.2.2.1; omega, by have := HPT.out.2.2.1; omega, Nat.le_refl _, HPT.out.2.2.2, HPT.out.2.1⟩
  case round =>
    obtain ⟨s', ii, dk, rfl, rfl, hii, hib, hs, hRk, hSk⟩ := hrel
    cases s' with
    | succ s =>
      have kj : (5 : Int) - ((s + 1 : Nat) : Int) < 5 := by omega
      have HRk : Hid (partialIns ltInt a b (s + 1) ii dk = R) := hRk
      have HB : Hid (a < b ∧ b ≤ n ∧ a + 1 ≤ ii ∧ ii ≤ b ∧ n ≤ 1000 ∧ s + 1 ≤ 5) := ⟨hab, hb, hii, hib, hn, hs⟩
      have kw : IntKind.i64.wrap ((5 : Int) - ((s + 1 : Nat) : Int) + 1) = 5 - (s : Int) := by rw [IntKind.wrap_i64]; omega
      generalize hJJ : (5 : Int) - ((s + 1 : Nat) : Int) = JJ at kj kw ⊢
      have HJJ : Hid ((5 : Int) - ((s + 1 : Nat) : Int) = JJ) := hJJ
      obtain ⟨Vm, rfl⟩ : ∃ Vm, Vm = wr := ⟨_, rfl⟩
      have HSk : Hid (SR W Vm B g n cap dk) := hSk
      clear hRk hSk hii hib hs hJJ
      obtain ⟨T, hT⟩ : ∃ T, scanSorted ltInt dk b ii = T := ⟨_, rfl⟩
      have HT : Hid (scanSorted ltInt dk b ii = T) := hT
      clear hT
      go_wp2
      go_loopw [7] (fun vi wr => ∃ i : Nat, vi = .int .i64 i ∧ ii ≤ i ∧ i ≤ b ∧ scanSorted ltInt dk b i = T ∧ SR W wr B g n cap dk) (fun vi _ => b + 1 - (intOf vi).toNat)
      case atStart => exact ⟨ii, rfl, Nat.le_refl _, by have := HB.out; omega, HT.out, HSk.out⟩
      case round =>
        obtain ⟨i, rfl, hi1, hi2, hU, hS⟩ := hrel
        obtain ⟨VT, rfl⟩ : ∃ V, V = wr := ⟨_, rfl⟩
        obtain ⟨m, hm⟩ : ∃ m, m + 1 = i := ⟨i - 1, by have := HB.out; omega⟩
        obtain ⟨x, hx⟩ : ∃ x, dk[i]! = x := ⟨_, rfl⟩
        obtain ⟨y, hy⟩ : ∃ x, dk[m]! = x := ⟨_, rfl⟩
        obtain ⟨c, hc⟩ : ∃ c, c = (decide (i < b) && !ltInt x y) := ⟨_, rfl⟩
        have km : IntKind.i64.wrap ((i : Int) - 1) = m := by have := HB.out; rw [IntKind.wrap_i64]; omega
        have HU : Hid (c = (decide (i < b) && !ltInt x y) ∧ (dk[i]! = x ∧ dk[m]! = y) ∧ scanSorted ltInt dk b i = T ∧ SR W VT B g n cap dk ∧ (ii ≤ i ∧ i ≤ b ∧ m + 1 = i)) := ⟨hc, ⟨hx, hy⟩, hU, hS, hi1, hi2, hm⟩
        have em : i - 1 = m := by omega
        have HEM : Hid (i - 1 = m) := em
        clear hU hS hi1 hi2 hx hy hc hm em
        go_wp2_with fail
        go_cut [32] (fun v X => v = .bool c ∧ SR W X B g n cap dk)
        case first =>
          by_cases hij : i < b
          · have hij' : (i : Int) < b := by omega
            have hd : decide ((i : Int) < b) = true := decide_eq_true hij'
            have hmi := HU.out.2.2.2.2
            have b0i : (0 : Int) ≤ i := by omega
            have b1i : (i : Int) < n := by have := HB.out; omega
            have b0m : (0 : Int) ≤ m := by omega
            have b1m : (m : Int) < n := by have := HB.out; omega
            have hcl : ltInt x y = !c := by rw [HU.out.1, decide_eq_true hij]; simp
            have hL := less_of x y
            rw [hcl] at hL
            have zS : VT.cell? ⟨g, i, none⟩ = some (.int .u32 x) ∧ VT.cell? ⟨g, m, none⟩ = some (.int .u32 y) := ⟨by rw [← HU.out.2.1.1]; exact HU.out.2.2.2.1.cell (by omega), by rw [← HU.out.2.1.2]; exact HU.out.2.2.2.1.cell (by omega)⟩
            clear hmi hcl
            go_region_held3 (fun X => X.cell? ⟨g, i, none⟩ = some (.int .u32 x) ∧ X.cell? ⟨g, m, none⟩ = some (.int .u32 y)) (exact zS)
              ((go_simp; go_at_call 50; refine (hL _).mono ?_; rintro e w11 ⟨rfl, hw11⟩; replace hw11 := hw11.symm; subst hw11))
            all_goals (try go_wp2_with fail)
            all_goals go_meet
            all_goals exact ⟨by simp, HU.out.2.2.2.1.same rfl rfl rfl rfl⟩
          · have hij' : ¬ ((i : Int) < b) := by omega
            have hd : decide ((i : Int) < b) = false := decide_eq_false hij'
            have hcl : c = false := by rw [HU.out.1, decide_eq_false hij]; rfl
            have HCL : Hid (c = false) := hcl
            clear hcl
            go_quiet (fail)
            all_goals (try go_wp2_with fail)
            all_goals go_meet
            all_goals exact ⟨by rw [HCL.out], HU.out.2.2.2.1.same rfl rfl rfl rfl⟩
        case rest =>
          obtain ⟨rfl, hS2⟩ := hcut
          have HS2 : Hid (SR W wc B g n cap dk) := hS2
          clear hS2
          cases c with
          | true =>
            have hcc : i < b ∧ ltInt x y = false := by have := HU.out.1.symm; simpa using this
            obtain ⟨i', hi'⟩ : ∃ i', i' = i + 1 := ⟨_, rfl⟩
            have ki : IntKind.i64.wrap ((i : Int) + 1) = i' := by have := HB.out; rw [IntKind.wrap_i64]; omega
            have HN : Hid (scanSorted ltInt dk b i' = T ∧ (i' ≤ b ∧ ii ≤ i' ∧ i < i' ∧ i < b)) := ⟨by rw [← HU.out.2.2.1, hi', scanSorted_go hcc.1 (by rw [HEM.out, HU.out.2.1.1, HU.out.2.1.2]; exact hcc.2)], by omega, by have := HU.out.2.2.2.2; omega, by omega, hcc.1⟩
            clear hcc hi'
            go_wp2
            go_roundw
            case rel => exact ⟨i', rfl, HN.out.2.2.1, HN.out.2.1, HN.out.1, HS2.out⟩
            case measure => (simp only [intOf]; have := HN.out.2; omega)
          | false =>
            have HEi : Hid (T = i ∧ (ii ≤ i ∧ i ≤ b ∧ m + 1 = i)) := ⟨by rw [← HU.out.2.2.1]; exact scanSorted_stop (by rcases Bool.and_eq_false_iff.1 HU.out.1.symm with h | h; exact .inl (of_decide_eq_false h); exact .inr (by rw [HEM.out, HU.out.2.1.1, HU.out.2.1.2]; simpa using h)), HU.out.2.2.2.2⟩
            obtain ⟨V, rfl⟩ : ∃ V, V = wc := ⟨_, rfl⟩
            clear HU
            by_cases he : i = b
            · have he' : (i : Int) = b := by omega
              have HQ : Hid (partialInsertionSort ltInt d a b = (dk, true)) := by show _ = _; rw [HPT.out.1, ← HRk.out]; exact pI_true (by rw [HT.out, HEi.out.1]) he
              subst he
              clear he'
              go_wp2
              go_ret
              exact ⟨by rw [HQ.out]; rfl, by rw [HQ.out]; exact HS2.out⟩
            · have he' : ¬ ((i : Int) = b) := by omega
              have kb : IntKind.i64.wrap ((b : Int) - a) = (b : Int) - a := by have := HB.out; rw [IntKind.wrap_i64]; omega
              by_cases h50 : (b : Int) - a < 50
              · have HQ : Hid (partialInsertionSort ltInt d a b = (dk, false)) := by show _ = _; rw [HPT.out.1, ← HRk.out]; exact pI_false (by rw [HT.out, HEi.out.1]) he (by omega)
                go_wp2
                go_ret
                exact ⟨by rw [HQ.out]; rfl, by rw [HQ.out]; exact HS2.out⟩
              · have hR2 := HRk.out
                rw [pI_go (by rw [HT.out, HEi.out.1]) he (by omega)] at hR2
                obtain ⟨D2, hD2⟩ : ∃ D2, swp dk i m = D2 := ⟨_, rfl⟩
                obtain ⟨D1, hD1⟩ : ∃ D1, D1 = (if i - a ≥ 2 then shiftDown ltInt m D2 else D2) := ⟨_, rfl⟩
                have em : i - 1 = m := by have := HEi.out; omega
                have HD1 : Hid (D1 = (if i - a ≥ 2 then shiftDown ltInt m D2 else D2)) := hD1
                have HR2 : Hid (partialIns ltInt a b s i (if b - i ≥ 2 then shiftUp ltInt b (i + 1) D1 else D1) = R) := by rw [hD1, ← hD2]; rw [em] at hR2; exact hR2
                have hib : i < b := by have := HEi.out; omega
                have b0i : (0 : Int) ≤ i := by omega
                have b1i : (i : Int) < n := by have := HB.out; omega
                have b0m : (0 : Int) ≤ m := by omega
                have b1m : (m : Int) < n := by have := HB.out; omega
                obtain ⟨x1, hx1⟩ : ∃ x, dk[i]! = x := ⟨_, rfl⟩
                obtain ⟨y1, hy1⟩ : ∃ x, dk[m]! = x := ⟨_, rfl⟩
                obtain ⟨⟨q0, q1, q2, q3⟩, q4, q5, q6⟩ := HS2.out.swf (i := i) (j := m) (by omega) (by omega) hx1 hy1
                have HSS : Hid (SR W ((V.setCell ⟨g, i, none⟩ (.int .u32 y1)).setCell ⟨g, m, none⟩ (.int .u32 x1)).drew B g n cap D2) := by rw [← hD2]; exact q6.drew
                have ka : IntKind.i64.wrap ((i : Int) - a) = (i : Int) - a := by have := HB.out; rw [IntKind.wrap_i64]; omega
                clear q6 hx1 hy1 hD2 hD1 hR2 em
                go_wp2_with fail
                go_region
                generalize hVV : World.drew _ = Vd at HSS ⊢
                clear hVV q0 q1 q2 q3 q4 q5
                have HS2 : Hid (SR W Vd B g n cap D2) := HSS.out
                by_cases h2 : (2 : Int) ≤ (i : Int) - a
                · have HU1 : Hid (shiftDown ltInt m D2 = D1) := by
                    show _ = _
                    rw [HD1.out, if_pos (by omega)]
                  go_wp2
                  go_loopw [9] (fun vj wr => ∃ (j : Nat) (dj : Array Int), vj = .int .i64 j ∧ j ≤ m ∧ shiftDown ltInt j dj = D1 ∧ SR W wr B g n cap dj) (fun vj _ => (intOf vj).toNat)
                  case atStart => exact ⟨m, D2, rfl, Nat.le_refl _, HU1.out, HS2.out⟩
                  case round =>
                    obtain ⟨j, dj, rfl, hj2, hU, hS⟩ := hrel
                    have hmi := HEi.out
                    by_cases hjb : 1 ≤ j
                    · have hjb' : (1 : Int) ≤ j := by omega
                      obtain ⟨q, hq⟩ : ∃ q, q + 1 = j := ⟨j - 1, by omega⟩
                      have b0j : (0 : Int) ≤ j := by omega
                      have b1j : (j : Int) < n := by have := HB.out; omega
                      have b0q : (0 : Int) ≤ q := by omega
                      have b1q : (q : Int) < n := by have := HB.out; omega
                      have kq : IntKind.i64.wrap ((j : Int) - 1) = q := by have := HB.out; rw [IntKind.wrap_i64]; omega
                      obtain ⟨x, hx⟩ : ∃ x, dj[j]! = x := ⟨_, rfl⟩
                      obtain ⟨y, hy⟩ : ∃ x, dj[q]! = x := ⟨_, rfl⟩
                      obtain ⟨⟨q0, q1, q2, q3⟩, q4, q5, q6⟩ := hS.swf (i := j) (j := q) (by omega) (by omega) hx hy
                      have zS : wr.cell? ⟨g, j, none⟩ = some (.int .u32 x) ∧ wr.cell? ⟨g, q, none⟩ = some (.int .u32 y) := ⟨q0, q1⟩
                      have hL := less_of x y
                      by_cases hl : ltInt x y = true
                      · rw [hl] at hL
                        have HN : Hid (SR W ((wr.setCell ⟨g, j, none⟩ (.int .u32 y)).setCell ⟨g, q, none⟩ (.int .u32 x)) B g n cap (swp dj j q) ∧ shiftDown ltInt q (swp dj j q) = D1 ∧ (q + 1 = j ∧ j ≤ m)) := ⟨q6, by
                          rw [← hU, ← hq, shiftDown_go (by rw [hq, hx, hy]; exact hl)], hq, hj2⟩
                        clear q6 hS hU hx hy hq hmi hj2
                        go_wp2_with fail
                        go_region_held3 (fun X => X.cell? ⟨g, j, none⟩ = some (.int .u32 x) ∧ X.cell? ⟨g, q, none⟩ = some (.int .u32 y)) (exact zS)
                          ((go_simp; go_at_call 50; refine (hL _).mono ?_; rintro e w11 ⟨rfl, hw11⟩; replace hw11 := hw11.symm; subst hw11))
                        go_wp2_with fail
                        go_region
                        all_goals go_wp2
                        all_goals (
                          go_roundw
                          case rel => exact ⟨q, _, rfl, by have := HN.out.2.2; omega, HN.out.2.1, HN.out.1.same rfl rfl rfl rfl⟩
                          case measure => (simp only [intOf]; have := HN.out.2.2; omega))
                      · have hl3 : ltInt x y = false := by simpa using hl
                        rw [hl3] at hL
                        have HSD : Hid (SR W wr.drew B g n cap D1) := by rw [← hU, ← hq, shiftDown_stop (by rw [hq, hx, hy]; exact hl3)]; exact hS.drew
                        clear q6 hS hU hx hy hq hmi hj2
                        go_wp2_with fail
                        go_region_held3 (fun X => X.cell? ⟨g, j, none⟩ = some (.int .u32 x) ∧ X.cell? ⟨g, q, none⟩ = some (.int .u32 y)) (exact zS)
                          ((go_simp; go_at_call 50; refine (hL _).mono ?_; rintro e w11 ⟨rfl, hw11⟩; replace hw11 := hw11.symm; subst hw11))
                        generalize wr.drew = Vd at HSD ⊢
                        clear zS q0 q1 q2 q3 q4 q5
                        obtain ⟨D3, hD3⟩ : ∃ D3, D3 = (if b - i ≥ 2 then shiftUp ltInt b (i + 1) D1 else D1) := ⟨_, rfl⟩
                        have HD3 : Hid (D3 = (if b - i ≥ 2 then shiftUp ltInt b (i + 1) D1 else D1)) := hD3
                        have HR3 : Hid (partialIns ltInt a b s i D3 = R) := by rw [hD3]; exact HR2.out
                        clear hD3
                        by_cases h3 : (2 : Int) ≤ (b : Int) - i
                        · have kb : IntKind.i64.wrap ((b : Int) - i) = (b : Int) - i := by have := HB.out; have := HEi.out; rw [IntKind.wrap_i64]; omega
                          obtain ⟨i1, hi1⟩ : ∃ i1, i1 = i + 1 := ⟨_, rfl⟩
                          have ki : IntKind.i64.wrap ((i : Int) + 1) = i1 := by have := HB.out; have := HEi.out; rw [IntKind.wrap_i64]; omega
                          have HU2 : Hid (shiftUp ltInt b i1 D1 = D3 ∧ i1 = i + 1) := ⟨by rw [hi1, HD3.out, if_pos (by omega)], hi1⟩
                          clear hi1
                          go_wp2
                          go_loopw [10] (fun vj wr => ∃ (j : Nat) (dj : Array Int), vj = .int .i64 j ∧ i1 ≤ j ∧ j ≤ b ∧ shiftUp ltInt b j dj = D3 ∧ SR W wr B g n cap dj) (fun vj _ => b + 1 - (intOf vj).toNat)
                          case atStart => exact ⟨i1, D1, rfl, Nat.le_refl _, by have := HU2.out.2; omega, HU2.out.1, HSD.out⟩
                          case round =>
                            obtain ⟨j, dj, rfl, hj1, hj2, hU, hS⟩ := hrel
                            have hi1 := HU2.out.2
                            by_cases hjb : j < b
                            · have hjb' : (j : Int) < b := by omega
                              obtain ⟨q, hq⟩ : ∃ q, q + 1 = j := ⟨j - 1, by omega⟩
                              have b0j : (0 : Int) ≤ j := by omega
                              have b1j : (j : Int) < n := by have := HB.out; omega
                              have b0q : (0 : Int) ≤ q := by omega
                              have b1q : (q : Int) < n := by have := HB.out; omega
                              have kq : IntKind.i64.wrap ((j : Int) - 1) = q := by have := HB.out; rw [IntKind.wrap_i64]; omega
                              obtain ⟨x, hx⟩ : ∃ x, dj[j]! = x := ⟨_, rfl⟩
                              obtain ⟨y, hy⟩ : ∃ x, dj[q]! = x := ⟨_, rfl⟩
                              obtain ⟨⟨q0, q1, q2, q3⟩, q4, q5, q6⟩ := hS.swf (i := j) (j := q) (by omega) (by omega) hx hy
                              have zS : wr.cell? ⟨g, j, none⟩ = some (.int .u32 x) ∧ wr.cell? ⟨g, q, none⟩ = some (.int .u32 y) := ⟨q0, q1⟩
                              have hL := less_of x y
                              have eq : j - 1 = q := by omega
                              by_cases hl : ltInt x y = true
                              · rw [hl] at hL
                                obtain ⟨j1, hj3⟩ : ∃ j1, j1 = j + 1 := ⟨_, rfl⟩
                                have kj : IntKind.i64.wrap ((j : Int) + 1) = j1 := by have := HB.out; rw [IntKind.wrap_i64]; omega
                                have HN : Hid (SR W ((wr.setCell ⟨g, j, none⟩ (.int .u32 y)).setCell ⟨g, q, none⟩ (.int .u32 x)) B g n cap (swp dj j q) ∧ shiftUp ltInt b j1 (swp dj j q) = D3 ∧ (j1 = j + 1 ∧ i1 ≤ j ∧ j < b)) := ⟨q6, by rw [hj3, ← hU, shiftUp_go hjb (by rw [eq, hx, hy]; exact hl), eq], hj3, hj1, hjb⟩
                                clear q6 hS hU hx hy hq eq hj3 hi1 hj1 hj2
                                go_wp2_with fail
                                go_region_held3 (fun X => X.cell? ⟨g, j, none⟩ = some (.int .u32 x) ∧ X.cell? ⟨g, q, none⟩ = some (.int .u32 y)) (exact zS)
                                  ((go_simp; go_at_call 50; refine (hL _).mono ?_; rintro e w11 ⟨rfl, hw11⟩; replace hw11 := hw11.symm; subst hw11))
                                go_wp2_with fail
                                go_region
                                all_goals go_wp2
                                all_goals (
                                  go_roundw
                                  case rel => exact ⟨j1, _, rfl, by have := HN.out.2.2; omega, by have := HN.out.2.2; omega, HN.out.2.1, HN.out.1.same rfl rfl rfl rfl⟩
                                  case measure => (simp only [intOf]; have := HN.out.2.2; omega))
                              · have hl3 : ltInt x y = false := by simpa using hl
                                rw [hl3] at hL
                                have HS3 : Hid (SR W wr.drew B g n cap D3) := by rw [← hU, shiftUp_stop (by rw [eq, hx, hy]; exact hl3)]; exact hS.drew
                                clear q6 hS hU hx hy hq eq hi1 hj1 hj2
                                go_wp2_with fail
                                go_region_held3 (fun X => X.cell? ⟨g, j, none⟩ = some (.int .u32 x) ∧ X.cell? ⟨g, q, none⟩ = some (.int .u32 y)) (exact zS)
                                  ((go_simp; go_at_call 50; refine (hL _).mono ?_; rintro e w11 ⟨rfl, hw11⟩; replace hw11 := hw11.symm; subst hw11))
                                go_wp2
                                go_roundw
                                case rel => exact ⟨s, i, D3, rfl, rfl, by have := HB.out; have := HEi.out; omega, by have := HEi.out; omega, by have := HB.out; omega, HR3.out, HS3.out⟩
                                case measure => (simp only [intOf]; have := HB.out; have := HJJ.out; omega)
                            · have hjb' : ¬ ((j : Int) < b) := by omega
                              have HS3 : Hid (SR W wr B g n cap D3) := by rw [← hU, shiftUp_end hjb]; exact hS
                              clear hS hU hi1 hj1 hj2
                              go_wp2
                              go_roundw
                              case rel => exact ⟨s, i, D3, rfl, rfl, by have := HB.out; have := HEi.out; omega, by have := HEi.out; omega, by have := HB.out; omega, HR3.out, HS3.out⟩
                              case measure => (simp only [intOf]; have := HB.out; have := HJJ.out; omega)
                        · have kb : IntKind.i64.wrap ((b : Int) - i) = (b : Int) - i := by have := HB.out; have := HEi.out; rw [IntKind.wrap_i64]; omega
                          have HS3 : Hid (SR W Vd B g n cap D3) := by rw [HD3.out, if_neg (by have := HB.out; omega)]; exact HSD.out
                          go_wp2
                          go_roundw
                          case rel => exact ⟨s, i, D3, rfl, rfl, by have := HB.out; have := HEi.out; omega, by have := HEi.out; omega, by have := HB.out; omega, HR3.out, HS3.out⟩
                          case measure => (simp only [intOf]; have := HB.out; have := HJJ.out; omega)
                    · have hjb' : ¬ ((1 : Int) ≤ j) := by omega
                      have hj0 : j = 0 := by omega
                      subst hj0
                      have HSD : Hid (SR W wr B g n cap D1) := by have e : dj = D1 := hU; rw [← e]; exact hS
                      clear hS hU hmi hj2
                      obtain ⟨Vd, rfl⟩ : ∃ Vd, Vd = wr := ⟨_, rfl⟩
                      obtain ⟨D3, hD3⟩ : ∃ D3, D3 = (if b - i ≥ 2 then shiftUp ltInt b (i + 1) D1 else D1) := ⟨_, rfl⟩
                      have HD3 : Hid (D3 = (if b - i ≥ 2 then shiftUp ltInt b (i + 1) D1 else D1)) := hD3
                      have HR3 : Hid (partialIns ltInt a b s i D3 = R) := by rw [hD3]; exact HR2.out
                      clear hD3
                      by_cases h3 : (2 : Int) ≤ (b : Int) - i
                      · have kb : IntKind.i64.wrap ((b : Int) - i) = (b : Int) - i := by have := HB.out; have := HEi.out; rw [IntKind.wrap_i64]; omega
                        obtain ⟨i1, hi1⟩ : ∃ i1, i1 = i + 1 := ⟨_, rfl⟩
                        have ki : IntKind.i64.wrap ((i : Int) + 1) = i1 := by have := HB.out; have := HEi.out; rw [IntKind.wrap_i64]; omega
                        have HU2 : Hid (shiftUp ltInt b i1 D1 = D3 ∧ i1 = i + 1) := ⟨by rw [hi1, HD3.out, if_pos (by omega)], hi1⟩
                        clear hi1
                        go_wp2
                        go_loopw [10] (fun vj wr => ∃ (j : Nat) (dj : Array Int), vj = .int .i64 j ∧ i1 ≤ j ∧ j ≤ b ∧ shiftUp ltInt b j dj = D3 ∧ SR W wr B g n cap dj) (fun vj _ => b + 1 - (intOf vj).toNat)
                        case atStart => exact ⟨i1, D1, rfl, Nat.le_refl _, by have := HU2.out.2; omega, HU2.out.1, HSD.out⟩
                        case round =>
                          obtain ⟨j, dj, rfl, hj1, hj2, hU, hS⟩ := hrel
                          have hi1 := HU2.out.2
                          by_cases hjb : j < b
                          · have hjb' : (j : Int) < b := by omega
                            obtain ⟨q, hq⟩ : ∃ q, q + 1 = j := ⟨j - 1, by omega⟩
                            have b0j : (0 : Int) ≤ j := by omega
                            have b1j : (j : Int) < n := by have := HB.out; omega
                            have b0q : (0 : Int) ≤ q := by omega
                            have b1q : (q : Int) < n := by have := HB.out; omega
                            have kq : IntKind.i64.wrap ((j : Int) - 1) = q := by have := HB.out; rw [IntKind.wrap_i64]; omega
                            obtain ⟨x, hx⟩ : ∃ x, dj[j]! = x := ⟨_, rfl⟩
                            obtain ⟨y, hy⟩ : ∃ x, dj[q]! = x := ⟨_, rfl⟩
                            obtain ⟨⟨q0, q1, q2, q3⟩, q4, q5, q6⟩ := hS.swf (i := j) (j := q) (by omega) (by omega) hx hy
                            have zS : wr.cell? ⟨g, j, none⟩ = some (.int .u32 x) ∧ wr.cell? ⟨g, q, none⟩ = some (.int .u32 y) := ⟨q0, q1⟩
                            have hL := less_of x y
                            have eq : j - 1 = q := by omega
                            by_cases hl : ltInt x y = true
                            · rw [hl] at hL
                              obtain ⟨j1, hj3⟩ : ∃ j1, j1 = j + 1 := ⟨_, rfl⟩
                              have kj : IntKind.i64.wrap ((j : Int) + 1) = j1 := by have := HB.out; rw [IntKind.wrap_i64]; omega
                              have HN : Hid (SR W ((wr.setCell ⟨g, j, none⟩ (.int .u32 y)).setCell ⟨g, q, none⟩ (.int .u32 x)) B g n cap (swp dj j q) ∧ shiftUp ltInt b j1 (swp dj j q) = D3 ∧ (j1 = j + 1 ∧ i1 ≤ j ∧ j < b)) := ⟨q6, by rw [hj3, ← hU, shiftUp_go hjb (by rw [eq, hx, hy]; exact hl), eq], hj3, hj1, hjb⟩
                              clear q6 hS hU hx hy hq eq hj3 hi1 hj1 hj2
                              go_wp2_with fail
                              go_region_held3 (fun X => X.cell? ⟨g, j, none⟩ = some (.int .u32 x) ∧ X.cell? ⟨g, q, none⟩ = some (.int .u32 y)) (exact zS)
                                ((go_simp; go_at_call 50; refine (hL _).mono ?_; rintro e w11 ⟨rfl, hw11⟩; replace hw11 := hw11.symm; subst hw11))
                              go_wp2_with fail
                              go_region
                              all_goals go_wp2
                              all_goals (
                                go_roundw
                                case rel => exact ⟨j1, _, rfl, by have := HN.out.2.2; omega, by have := HN.out.2.2; omega, HN.out.2.1, HN.out.1.same rfl rfl rfl rfl⟩
                                case measure => (simp only [intOf]; have := HN.out.2.2; omega))
                            · have hl3 : ltInt x y = false := by simpa using hl
                              rw [hl3] at hL
                              have HS3 : Hid (SR W wr.drew B g n cap D3) := by rw [← hU, shiftUp_stop (by rw [eq, hx, hy]; exact hl3)]; exact hS.drew
                              clear q6 hS hU hx hy hq eq hi1 hj1 hj2
                              go_wp2_with fail
                              go_region_held3 (fun X => X.cell? ⟨g, j, none⟩ = some (.int .u32 x) ∧ X.cell? ⟨g, q, none⟩ = some (.int .u32 y)) (exact zS)
                                ((go_simp; go_at_call 50; refine (hL _).mono ?_; rintro e w11 ⟨rfl, hw11⟩; replace hw11 := hw11.symm; subst hw11))
                              go_wp2
                              go_roundw
                              case rel => exact ⟨s, i, D3, rfl, rfl, by have := HB.out; have := HEi.out; omega, by have := HEi.out; omega, by have := HB.out; omega, HR3.out, HS3.out⟩
                              case measure => (simp only [intOf]; have := HB.out; have := HJJ.out; omega)
                          · have hjb' : ¬ ((j : Int) < b) := by omega
                            have HS3 : Hid (SR W wr B g n cap D3) := by rw [← hU, shiftUp_end hjb]; exact hS
                            clear hS hU hi1 hj1 hj2
                            go_wp2
                            go_roundw
                            case rel => exact ⟨s, i, D3, rfl, rfl, by have := HB.out; have := HEi.out; omega, by have := HEi.out; omega, by have := HB.out; omega, HR3.out, HS3.out⟩
                            case measure => (simp only [intOf]; have := HB.out; have := HJJ.out; omega)
                      · have kb : IntKind.i64.wrap ((b : Int) - i) = (b : Int) - i := by have := HB.out; have := HEi.out; rw [IntKind.wrap_i64]; omega
                        have HS3 : Hid (SR W Vd B g n cap D3) := by rw [HD3.out, if_neg (by have := HB.out; omega)]; exact HSD.out
                        go_wp2
                        go_roundw
                        case rel => exact ⟨s, i, D3, rfl, rfl, by have := HB.out; have := HEi.out; omega, by have := HEi.out; omega, by have := HB.out; omega, HR3.out, HS3.out⟩
                        case measure => (simp only [intOf]; have := HB.out; have := HJJ.out; omega)
                · have HSD : Hid (SR W Vd B g n cap D1) := by rw [HD1.out, if_neg (by omega)]; exact HS2.out
                  obtain ⟨D3, hD3⟩ : ∃ D3, D3 = (if b - i ≥ 2 then shiftUp ltInt b (i + 1) D1 else D1) := ⟨_, rfl⟩
                  have HD3 : Hid (D3 = (if b - i ≥ 2 then shiftUp ltInt b (i + 1) D1 else D1)) := hD3
                  have HR3 : Hid (partialIns ltInt a b s i D3 = R) := by rw [hD3]; exact HR2.out
                  clear hD3
                  by_cases h3 : (2 : Int) ≤ (b : Int) - i
                  · have kb : IntKind.i64.wrap ((b : Int) - i) = (b : Int) - i := by have := HB.out; have := HEi.out; rw [IntKind.wrap_i64]; omega
                    obtain ⟨i1, hi1⟩ : ∃ i1, i1 = i + 1 := ⟨_, rfl⟩
                    have ki : IntKind.i64.wrap ((i : Int) + 1) = i1 := by have := HB.out; have := HEi.out; rw [IntKind.wrap_i64]; omega
                    have HU2 : Hid (shiftUp ltInt b i1 D1 = D3 ∧ i1 = i + 1) := ⟨by rw [hi1, HD3.out, if_pos (by omega)], hi1⟩
                    clear hi1
                    go_wp2
                    go_loopw [10] (fun vj wr => ∃ (j : Nat) (dj : Array Int), vj = .int .i64 j ∧ i1 ≤ j ∧ j ≤ b ∧ shiftUp ltInt b j dj = D3 ∧ SR W wr B g n cap dj) (fun vj _ => b + 1 - (intOf vj).toNat)
                    case atStart => exact ⟨i1, D1, rfl, Nat.le_refl _, by have := HU2.out.2; omega, HU2.out.1, HSD.out⟩
                    case round =>
                      obtain ⟨j, dj, rfl, hj1, hj2, hU, hS⟩ := hrel
                      have hi1 := HU2.out.2
                      by_cases hjb : j < b
                      · have hjb' : (j : Int) < b := by omega
                        obtain ⟨q, hq⟩ : ∃ q, q + 1 = j := ⟨j - 1, by omega⟩
                        have b0j : (0 : Int) ≤ j := by omega
                        have b1j : (j : Int) < n := by have := HB.out; omega
                        have b0q : (0 : Int) ≤ q := by omega
                        have b1q : (q : Int) < n := by have := HB.out; omega
                        have kq : IntKind.i64.wrap ((j : Int) - 1) = q := by have := HB.out; rw [IntKind.wrap_i64]; omega
                        obtain ⟨x, hx⟩ : ∃ x, dj[j]! = x := ⟨_, rfl⟩
                        obtain ⟨y, hy⟩ : ∃ x, dj[q]! = x := ⟨_, rfl⟩
                        obtain ⟨⟨q0, q1, q2, q3⟩, q4, q5, q6⟩ := hS.swf (i := j) (j := q) (by omega) (by omega) hx hy
                        have zS : wr.cell? ⟨g, j, none⟩ = some (.int .u32 x) ∧ wr.cell? ⟨g, q, none⟩ = some (.int .u32 y) := ⟨q0, q1⟩
                        have hL := less_of x y
                        have eq : j - 1 = q := by omega
                        by_cases hl : ltInt x y = true
                        · rw [hl] at hL
                          obtain ⟨j1, hj3⟩ : ∃ j1, j1 = j + 1 := ⟨_, rfl⟩
                          have kj : IntKind.i64.wrap ((j : Int) + 1) = j1 := by have := HB.out; rw [IntKind.wrap_i64]; omega
                          have HN : Hid (SR W ((wr.setCell ⟨g, j, none⟩ (.int .u32 y)).setCell ⟨g, q, none⟩ (.int .u32 x)) B g n cap (swp dj j q) ∧ shiftUp ltInt b j1 (swp dj j q) = D3 ∧ (j1 = j + 1 ∧ i1 ≤ j ∧ j < b)) := ⟨q6, by rw [hj3, ← hU, shiftUp_go hjb (by rw [eq, hx, hy]; exact hl), eq], hj3, hj1, hjb⟩
                          clear q6 hS hU hx hy hq eq hj3 hi1 hj1 hj2
                          go_wp2_with fail
                          go_region_held3 (fun X => X.cell? ⟨g, j, none⟩ = some (.int .u32 x) ∧ X.cell? ⟨g, q, none⟩ = some (.int .u32 y)) (exact zS)
                            ((go_simp; go_at_call 50; refine (hL _).mono ?_; rintro e w11 ⟨rfl, hw11⟩; replace hw11 := hw11.symm; subst hw11))
                          go_wp2_with fail
                          go_region
                          all_goals go_wp2
                          all_goals (
                            go_roundw
                            case rel => exact ⟨j1, _, rfl, by have := HN.out.2.2; omega, by have := HN.out.2.2; omega, HN.out.2.1, HN.out.1.same rfl rfl rfl rfl⟩
                            case measure => (simp only [intOf]; have := HN.out.2.2; omega))
                        · have hl3 : ltInt x y = false := by simpa using hl
                          rw [hl3] at hL
                          have HS3 : Hid (SR W wr.drew B g n cap D3) := by rw [← hU, shiftUp_stop (by rw [eq, hx, hy]; exact hl3)]; exact hS.drew
                          clear q6 hS hU hx hy hq eq hi1 hj1 hj2
                          go_wp2_with fail
                          go_region_held3 (fun X => X.cell? ⟨g, j, none⟩ = some (.int .u32 x) ∧ X.cell? ⟨g, q, none⟩ = some (.int .u32 y)) (exact zS)
                            ((go_simp; go_at_call 50; refine (hL _).mono ?_; rintro e w11 ⟨rfl, hw11⟩; replace hw11 := hw11.symm; subst hw11))
                          go_wp2
                          go_roundw
                          case rel => exact ⟨s, i, D3, rfl, rfl, by have := HB.out; have := HEi.out; omega, by have := HEi.out; omega, by have := HB.out; omega, HR3.out, HS3.out⟩
                          case measure => (simp only [intOf]; have := HB.out; have := HJJ.out; omega)
                      · have hjb' : ¬ ((j : Int) < b) := by omega
                        have HS3 : Hid (SR W wr B g n cap D3) := by rw [← hU, shiftUp_end hjb]; exact hS
                        clear hS hU hi1 hj1 hj2
                        go_wp2
                        go_roundw
                        case rel => exact ⟨s, i, D3, rfl, rfl, by have := HB.out; have := HEi.out; omega, by have := HEi.out; omega, by have := HB.out; omega, HR3.out, HS3.out⟩
                        case measure => (simp only [intOf]; have := HB.out; have := HJJ.out; omega)
                  · have kb : IntKind.i64.wrap ((b : Int) - i) = (b : Int) - i := by have := HB.out; have := HEi.out; rw [IntKind.wrap_i64]; omega
                    have HS3 : Hid (SR W Vd B g n cap D3) := by rw [HD3.out, if_neg (by have := HB.out; omega)]; exact HSD.out
                    go_wp2
                    go_roundw
                    case rel => exact ⟨s, i, D3, rfl, rfl, by have := HB.out; have := HEi.out; omega, by have := HEi.out; omega, by have := HB.out; omega, HR3.out, HS3.out⟩
                    case measure => (simp only [intOf]; have := HB.out; have := HJJ.out; omega)
    | zero =>
      have em : (5 : Int) - ((0 : Nat) : Int) = 5 := by decide
      rw [em]
      have HQ : Hid (partialInsertionSort ltInt d a b = (dk, false) ∧ SR W wr B g n cap dk) := ⟨by rw [HPT.out.1, ← hRk]; rfl, hSk⟩
      clear hRk hSk em
      go_wp2
      go_ret
      exact ⟨by rw [HQ.out.1]; rfl, by rw [HQ.out.1]; exact HQ.out.2⟩
end Go.Proofs.Ytkhldjpghjmgfaa
