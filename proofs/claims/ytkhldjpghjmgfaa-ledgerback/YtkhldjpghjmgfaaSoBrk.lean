/- breakPatterns. -/
import Derived.Test.YtkhldjpghjmgfaaSoBr
namespace Go.Proofs.Ytkhldjpghjmgfaa
open Go.RowKit Go.Sort
set_option linter.unusedVariables false

theorem and_bound (t : Int) (m : Nat) (hm : m ≤ 5000) : 0 ≤ bits BinOp.and IntKind.u64 t m ∧ bits BinOp.and IntKind.u64 t m ≤ m := by
  unfold bits
  show 0 ≤ IntKind.u64.wrap _ ∧ IntKind.u64.wrap _ ≤ _
  have e : (BitVec.ofInt IntKind.u64.bits (m : Int)).toNat = m := by
    rw [BitVec.ofInt_natCast, BitVec.toNat_ofNat]
    exact Nat.mod_eq_of_lt (Nat.lt_of_le_of_lt hm (by decide))
  have h1 : (BitVec.ofInt IntKind.u64.bits t &&& BitVec.ofInt IntKind.u64.bits (m : Int)).toNat ≤ m := by
    rw [BitVec.toNat_and, e]
    exact Nat.and_le_right
  generalize (BitVec.ofInt IntKind.u64.bits t &&& BitVec.ofInt IntKind.u64.bits (m : Int)).toNat = k at h1
  rw [IntKind.wrap_u64]
  omega
set_option maxRecDepth 100000 in
set_option maxHeartbeats 2000000 in
theorem break_of (W : World) (B g n cap a b : Nat) (d : Array Int) (w : World) (h : SR W w B g n cap d) (hab : a + 12 < b) (hb : b ≤ n) (hn : n ≤ 1000) :
    Calls Try.prog 46 #[.slice (some ⟨g, 0, none⟩) n cap, .int .i64 a, .int .i64 b] w fun e w' => e = .returned (.tuple #[]) ∧ ∃ d', PermIn a b d d' ∧ SR W w' B g n cap d' := by
  obtain ⟨l, hl⟩ : ∃ l, l = b - a := ⟨_, rfl⟩
  have k1 : IntKind.i64.wrap ((b : Int) - a) = l := by rw [IntKind.wrap_i64]; omega
  have k2 : (0 : Int) ≤ l := by omega
  have k3 : (l : Int) ≤ 1000 := by omega
  have k4 : (8 : Int) ≤ l := by omega
  obtain ⟨m, hm⟩ : ∃ m, m = a + l / 4 * 2 := ⟨_, rfl⟩
  obtain ⟨i0, hi0⟩ : ∃ i0, i0 + 1 = m := ⟨m - 1, by omega⟩
  obtain ⟨i1, hi1⟩ : ∃ i1, i1 = m + 1 := ⟨_, rfl⟩
  have e1 : (a : Int) + (l : Int) / 4 * 2 = m := by omega
  have e2 : (m : Int) - 1 = i0 := by omega
  have e3 : (m : Int) + 1 = i1 := by omega
  have cN := npow_of l (by omega) (by omega)
  have HQ : Hid (SR W w B g n cap d ∧ (l = b - a ∧ m = a + l / 4 * 2 ∧ i0 + 1 = m ∧ i1 = m + 1)) := ⟨h, hl, hm, hi0, hi1⟩
  have HX : Hid (SR W (w.alloc (.cells #[.int .u64 l] 89)) B g n cap d ∧ Blk (w.alloc (.cells #[.int .u64 l] 89)) w.heap.size [.int .u64 l] 89 ∧ W.heap.size ≤ w.heap.size) := ⟨h.alloc _, Blk.new' rfl rfl, h.out.size⟩
  clear h hl hm hi0 hi1
  go_enter Try.func46, Try.ntmps46
  go_wp2_with (go_at_call 56; refine (cN _).mono ?_; rintro e w1 ⟨⟨M, rfl, hM1, hM2⟩, hw1⟩; replace hw1 := hw1.symm; subst hw1)
  obtain ⟨M1, hM⟩ : ∃ M1, M1 + 1 = M := ⟨M - 1, by omega⟩
  have kM : IntKind.u64.wrap ((M : Int) - 1) = M1 := by rw [IntKind.wrap_u64]; omega
  have HMM : Hid (M1 + 1 = M ∧ M ≤ 2 * l) := ⟨hM, hM2⟩
  clear hM hM1 hM2 cN
  go_loopw [9] (fun vi wr => ∃ (i : Nat) (dk : Array Int) (s : Int), vi = .int .i64 i ∧ i0 ≤ i ∧ i ≤ i1 + 1 ∧ PermIn a b d dk ∧ SR W wr B g n cap dk ∧ Blk wr w.heap.size [.int .u64 s] 89) (fun vi _ => i1 + 1 - (intOf vi).toNat)
  case atStart => exact ⟨i0, d, l, rfl, Nat.le_refl _, by have := HQ.out.2; omega, permIn_refl _ _ _, HX.out.1, HX.out.2.1⟩
  case round =>
    obtain ⟨i, dk, s, rfl, hge, hlt, hP, hS, hR⟩ := hrel
    by_cases hle : i ≤ i1
    · have hle' : (i : Int) ≤ i1 := by omega
      have cX := xor_of W B g n cap w.heap.size dk s wr hS hR HX.out.2.2
      have HP : Hid (PermIn a b d dk ∧ i0 ≤ i) := ⟨hP, hge⟩
      clear hP hS hR
      go_upto_region 8 with (go_at_call 57; refine cX.mono ?_; clear cX; rintro e w1 ⟨t, rfl, hS1, hR1⟩; obtain ⟨o, ho, hol⟩ : ∃ o : Nat, bits BinOp.and IntKind.u64 t (M1 : Int) = o ∧ o ≤ M1 := ⟨(bits BinOp.and IntKind.u64 t (M1 : Int)).toNat, by have := and_bound t M1 (by have := HMM.out; omega); omega⟩; have ho0 : (o : Int) ≤ 5000 := by (have := HMM.out; omega))
      have HI0 : Hid (SR W w1 B g n cap dk ∧ PermIn a b d dk ∧ Blk w1 w.heap.size [.int .u64 t] 89 ∧ o ≤ M1 ∧ M1 + 1 = M ∧ M ≤ 2 * l ∧ i0 ≤ i ∧ i ≤ i1) := ⟨hS1, HP.out.1, hR1, hol, HMM.out.1, HMM.out.2, HP.out.2, hle⟩
      clear hS1 hR1 ho hol
      by_cases hol2 : (l : Int) ≤ o
      · obtain ⟨r, hr⟩ : ∃ r, r + l = o := ⟨o - l, by omega⟩
        have kr : IntKind.i64.wrap ((o : Int) - l) = r := by rw [IntKind.wrap_i64]; omega
        have HI : Hid (SR W w1 B g n cap dk ∧ PermIn a b d dk ∧ Blk w1 w.heap.size [.int .u64 t] 89 ∧ r < l ∧ i0 ≤ i ∧ i ≤ i1) := by have := HI0.out; exact ⟨this.1, this.2.1, this.2.2.1, by omega, by omega, by omega⟩
        clear hr HI0
        obtain ⟨p, hp⟩ : ∃ p, p = a + r := ⟨_, rfl⟩
        have kp : IntKind.i64.wrap ((a : Int) + r) = p := by have := HI.out; rw [IntKind.wrap_i64]; omega
        have b0i : (0 : Int) ≤ i := by omega
        have b1i : (i : Int) < n := by have := HI.out; have := HQ.out.2; omega
        have b0p : (0 : Int) ≤ p := by omega
        have b1p : (p : Int) < n := by have := HI.out; have := HQ.out.2; omega
        obtain ⟨x, hx⟩ : ∃ x, dk[i]! = x := ⟨_, rfl⟩
        obtain ⟨y, hy⟩ : ∃ y, dk[p]! = y := ⟨_, rfl⟩
        obtain ⟨⟨q0, q1, q2, q3⟩, q4, q5, q6⟩ := HI.out.1.swf (i := i) (j := p) (by omega) (by omega) hx hy
        have HN : Hid (PermIn a b d (swp dk i p) ∧ SR W ((w1.setCell ⟨g, i, none⟩ (.int .u32 y)).setCell ⟨g, p, none⟩ (.int .u32 x)).drew B g n cap (swp dk i p) ∧ Blk ((w1.setCell ⟨g, i, none⟩ (.int .u32 y)).setCell ⟨g, p, none⟩ (.int .u32 x)).drew w.heap.size [.int .u64 t] 89) := by
          have hh := HI.out
          have hq := HQ.out.2
          have hs : dk.size = n := hh.1.size
          have hg : g < w.heap.size := HQ.out.1.glt
          refine ⟨permIn_trans _ _ _ _ _ hh.2.1 (swp_permIn _ _ _ _ _ (by omega) (by omega) (by omega) (by omega) (by omega)), q6.drew, ?_⟩
          exact (hh.2.2.1.set_other (show w.heap.size ≠ g by omega) _).set_other (show w.heap.size ≠ g by omega) _
        have HL : Hid (i ≤ i1) := hle
        clear q6 hx hy hp
        go_wp2_with fail
        go_region
        all_goals go_wp2
        all_goals (
          go_roundw
          case rel => exact ⟨i + 1, _, t, by go_num, by have := HI.out; have := HQ.out.2; omega, by have := HL.out; omega, HN.out.1, HN.out.2.1, HN.out.2.2⟩
          case measure => (simp [intOf]; try (have := HL.out; omega)))
      · have HI : Hid (SR W w1 B g n cap dk ∧ PermIn a b d dk ∧ Blk w1 w.heap.size [.int .u64 t] 89 ∧ o < l ∧ i0 ≤ i ∧ i ≤ i1) := by have := HI0.out; exact ⟨this.1, this.2.1, this.2.2.1, by omega, by omega, by omega⟩
        clear HI0
        obtain ⟨p, hp⟩ : ∃ p, p = a + o := ⟨_, rfl⟩
        have kp : IntKind.i64.wrap ((a : Int) + o) = p := by have := HI.out; rw [IntKind.wrap_i64]; omega
        have b0i : (0 : Int) ≤ i := by omega
        have b1i : (i : Int) < n := by have := HI.out; have := HQ.out.2; omega
        have b0p : (0 : Int) ≤ p := by omega
        have b1p : (p : Int) < n := by have := HI.out; have := HQ.out.2; omega
        obtain ⟨x, hx⟩ : ∃ x, dk[i]! = x := ⟨_, rfl⟩
        obtain ⟨y, hy⟩ : ∃ y, dk[p]! = y := ⟨_, rfl⟩
        obtain ⟨⟨q0, q1, q2, q3⟩, q4, q5, q6⟩ := HI.out.1.swf (i := i) (j := p) (by omega) (by omega) hx hy
        have HN : Hid (PermIn a b d (swp dk i p) ∧ SR W ((w1.setCell ⟨g, i, none⟩ (.int .u32 y)).setCell ⟨g, p, none⟩ (.int .u32 x)).drew B g n cap (swp dk i p) ∧ Blk ((w1.setCell ⟨g, i, none⟩ (.int .u32 y)).setCell ⟨g, p, none⟩ (.int .u32 x)).drew w.heap.size [.int .u64 t] 89) := by
          have hh := HI.out
          have hq := HQ.out.2
          have hs : dk.size = n := hh.1.size
          have hg : g < w.heap.size := HQ.out.1.glt
          refine ⟨permIn_trans _ _ _ _ _ hh.2.1 (swp_permIn _ _ _ _ _ (by omega) (by omega) (by omega) (by omega) (by omega)), q6.drew, ?_⟩
          exact (hh.2.2.1.set_other (show w.heap.size ≠ g by omega) _).set_other (show w.heap.size ≠ g by omega) _
        have HL : Hid (i ≤ i1) := hle
        clear q6 hx hy hp
        go_wp2_with fail
        go_region
        all_goals go_wp2
        all_goals (
          go_roundw
          case rel => exact ⟨i + 1, _, t, by go_num, by have := HI.out; have := HQ.out.2; omega, by have := HL.out; omega, HN.out.1, HN.out.2.1, HN.out.2.2⟩
          case measure => (simp [intOf]; try (have := HL.out; omega)))
    · have hle' : ¬ ((i : Int) ≤ i1) := by omega
      have HN : Hid (PermIn a b d dk ∧ SR W wr B g n cap dk) := ⟨hP, hS⟩
      clear hP hS hR
      go_wp2
      first | go_end0 | refine bodyPost_ret (results_none rfl _ _ _) rfl ?_
      exact ⟨rfl, dk, HN.out⟩
end Go.Proofs.Ytkhldjpghjmgfaa
