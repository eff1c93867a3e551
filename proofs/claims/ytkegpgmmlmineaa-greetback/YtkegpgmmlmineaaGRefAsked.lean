/- What one call of the document's own Asked does. -/
import Derived.Test.YtkegpgmmlmineaaGAsked
namespace Go.Proofs.Ytkegpgmmlmineaa
open Go.RowKit
set_option linter.unusedVariables false
set_option maxRecDepth 4000

theorem shl16 {x y : Int} (hx : Fits8 x) (hy : Fits8 y) : bits .or .u16 (x * 256) y = x * 256 + y := by
  have hc : bits .or .u16 (x * 256) y = bits .or .u16 y (x * 256) := by
    show IntKind.u16.wrap ((BitVec.ofInt 16 (x * 256) ||| BitVec.ofInt 16 y).toNat : Int) = IntKind.u16.wrap ((BitVec.ofInt 16 y ||| BitVec.ofInt 16 (x * 256)).toNat : Int)
    rw [BitVec.or_comm]
  unfold Fits8 at hx hy
  rw [hc, u16_or8 _ _ hy.1 hy.2 (by omega) (by omega) (by omega), Int.add_comm]

set_option maxHeartbeats 2000000 in
theorem refAsked_of (a : Option Addr) (n c : Nat) (xs : List Int) (w : World) (hx : BIn w a n xs) (hnil : a = none → n = 0 ∧ c = 0) (hnc : n ≤ c) (hn : n ≤ 100000) :
    Calls Try.prog 17 #[.slice a n c] w fun e w' => ∃ A k C, e = .returned (.tuple #[.string (strOfNums (askS xs)), .slice A k C, .int .i64 (askE xs)]) ∧ NIn .u16 w' A k (askL xs) ∧ Below w.heap.size w w' := by
  obtain ⟨S, hS⟩ : ∃ S, S = strOfNums (askS xs) := ⟨_, rfl⟩
  obtain ⟨E0, hE⟩ : ∃ E, E = askE xs := ⟨_, rfl⟩
  obtain ⟨q, hq⟩ : ∃ q, q = w.heap.size := ⟨_, rfl⟩
  rw [← hS, ← hE, ← hq]
  have HF : Hid (S = strOfNums (askS xs) ∧ E0 = askE xs) := ⟨hS, hE⟩
  have H : Hid (BIn w a n xs ∧ (a = none → n = 0 ∧ c = 0) ∧ n ≤ c ∧ q = w.heap.size) := ⟨hx, hnil, hnc, hq⟩
  clear hx hnil hnc hS hE
  have hbad : ¬ AskOk xs → S = ⟨#[]⟩ ∧ askL xs = [] ∧ E0 = 74 := fun h => by
    obtain ⟨r1, r2, r3⟩ := ask_bad h
    exact ⟨by rw [HF.out.1, r1]; rfl, r2, HF.out.2.trans r3⟩
  have HBAD : Hid (¬ AskOk xs → S = ⟨#[]⟩ ∧ askL xs = [] ∧ E0 = 74) := hbad
  clear hbad
  go_enter Try.func17, Try.ntmps17
  go_wp2_with fail
  refine (refTake_of a n c xs (some ⟨w.heap.size, 0, none⟩) 1 1 [4] _ (H.out.1.alloc _) H.out.2.1 H.out.2.2.1 (nin_lit 3 rfl rfl rfl rfl (by omega)) hn (by omega)).mono ?_
  rw [off4, H.out.1.1]
  rintro e V ⟨A, k, D, R, r, F, rfl, ow, ow3, bl⟩
  have HB : Hid (Below q w V) := by have := below_new bl; rw [← H.out.2.2.2] at this; exact this
  clear bl hq
  by_cases h4 : 4 ≤ n
  · rw [decide_eq_true h4]
    obtain ⟨t1, t2⟩ := take4a xs (by rw [H.out.1.1]; exact h4)
    rw [t1] at ow
    rw [t2] at ow3
    obtain ⟨g, rfl, hk, hc⟩ := own_at ow (by simp)
    have c0 : V.cell? ⟨g, 0, none⟩ = some (.int .u64 (aN xs)) := hc 0 (by simp)
    have hk1 : k = 1 := by simpa using hk
    subst hk1
    have hr : r = n - 4 := by have := ow3.1; rw [u8s_length, List.length_drop, H.out.1.1] at this; omega
    have hrb : r ≤ 100000 := by omega
    have hbr : BIn V R r (xs.drop 4) := own_bin ow3 (by unfold maxLen; omega) (fun z hz => H.out.1.2.2.1 z (List.mem_of_mem_drop hz))
    have hrF := own_capN ow3
    have hrn := own_nil ow3
    obtain ⟨N, eN⟩ : ∃ N : Nat, (N : Int) = aN xs := ⟨(aN xs).toNat, by rw [Int.toNat_of_nonneg (aN_fits H.out.1.2.2.1).1]⟩
    have hNf := (aN_fits H.out.1.2.2.1).2
    rw [← eN] at c0 hNf
    have HV : Hid (Below q w V ∧ BIn V R r (xs.drop 4) ∧ r ≤ F ∧ (R = none → r = 0 ∧ F = 0) ∧ r = n - 4 ∧ (N : Int) = aN xs ∧ 4 ≤ n ∧ q ≤ V.heap.size) := ⟨HB.out, hbr, hrF, hrn, hr, eN, h4, by have := HB.out.size; rw [H.out.2.2.2] at *; exact this⟩
    clear ow ow3 hc hk HB hbr hrF hrn t1 t2 hr eN h4
    have HNF : Hid ((N : Int) < 4294967296) := hNf
    clear hNf
    by_cases hN : (255 : Int) < N
    · obtain ⟨r1, r2, r3⟩ := HBAD.out (fun h => by have := h.2.1; have := HV.out.2.2.2.2.2.1; omega)
      have HR : Hid (S = ⟨#[]⟩ ∧ askL xs = [] ∧ E0 = 74) := ⟨r1, r2, r3⟩
      clear r1 r2 r3
      have hNf : (N : Int) ≤ 4294967295 := by have := HNF.out; omega
      go_wp2
      go_ret3
      rw [HR.out.1, HR.out.2.1, HR.out.2.2]
      exact ⟨none, 0, 0, rfl, nin_none _ _, HV.out.1⟩
    have hN1 : (N : Int) ≤ 255 := by omega
    have d1 : decide ((255 : Int) < N) = false := decide_eq_false hN
    by_cases hNr : (r : Int) < N
    · obtain ⟨r1, r2, r3⟩ := HBAD.out (fun h => by have := h.2.2.1; have h1 := HV.out.2.2.2.2.2.1; have h2 := HV.out.2.2.2.2.1; have := H.out.1.1; omega)
      have HR : Hid (S = ⟨#[]⟩ ∧ askL xs = [] ∧ E0 = 74) := ⟨r1, r2, r3⟩
      clear r1 r2 r3
      go_wp2
      go_ret3
      rw [HR.out.1, HR.out.2.1, HR.out.2.2]
      exact ⟨none, 0, 0, rfl, nin_none _ _, HV.out.1⟩
    have hNr1 : (N : Int) ≤ r := by omega
    have d2 : decide ((r : Int) < N) = false := decide_eq_false hNr
    have s1 := fun w => slice_front Try.underlying22 Try.one_bytes R r F N (by have := HV.out.2.2.1; omega) w
    have s2 := fun w => slice_back Try.underlying22 Try.one_bytes R r F N (by omega) w
    have hs := str_of V R N F ((xs.drop 4).take N) (HV.out.2.1.n.front N (by omega)).b
    obtain ⟨A5, eA5, hb5, hn5⟩ := back_bin HV.out.2.1 HV.out.2.2.2.1 N (by omega) HV.out.2.2.1
    rw [← eA5] at s2
    rw [List.drop_drop] at hb5
    have eT : xs.drop (4 + N) = aT xs := by unfold aT; rw [← HV.out.2.2.2.2.2.1, Int.toNat_natCast]
    rw [eT] at hb5
    have H5 : Hid (BIn V A5 (r - N) (aT xs) ∧ (A5 = none → r - N = 0 ∧ F - N = 0) ∧ r - N ≤ F - N) := ⟨hb5, hn5, by have := HV.out.2.2.1; omega⟩
    clear hb5 hn5 eA5 eT hN hNr HNF
    go_wp2_with fail
    refine (refTake_of A5 (r - N) (F - N) (aT xs) (some ⟨V.heap.size, 0, none⟩) 1 1 [2] _ (H5.out.1.alloc _) H5.out.2.1 H5.out.2.2 (nin_lit 3 rfl rfl rfl rfl (by omega)) (by omega) (by omega)).mono ?_
    rw [off2, H5.out.1.1]
    rintro e V2 ⟨A2, k2, D2, R2, r2, F2, rfl, ow2, ow4, bl2⟩
    have HB2 : Hid (Below q w V2 ∧ q ≤ V2.heap.size) := by
      have h1 := below_new bl2
      have h2 := HV.out.2.2.2.2.2.2.2
      exact ⟨HV.out.1.trans (h1.mono h2), by have := h1.size; omega⟩
    clear bl2 s1 s2 hs
    by_cases h2 : 2 ≤ r - N
    · rw [decide_eq_true h2]
      obtain ⟨t1, t2⟩ := take2a (aT xs) (by rw [H5.out.1.1]; exact h2)
      rw [t1] at ow2
      rw [t2] at ow4
      obtain ⟨g2, rfl, hk, hc⟩ := own_at ow2 (by simp)
      have c2 : V2.cell? ⟨g2, 0, none⟩ = some (.int .u64 (aK xs)) := hc 0 (by simp)
      have hk1 : k2 = 1 := by simpa using hk
      subst hk1
      have hr2 : r2 = r - N - 2 := by have := ow4.1; rw [u8s_length, List.length_drop, H5.out.1.1] at this; omega
      have hrb2 : r2 ≤ 100000 := by omega
      have hbr : BIn V2 R2 r2 (aR xs) := own_bin ow4 (by unfold maxLen; omega) (fun z hz => H5.out.1.2.2.1 z (List.mem_of_mem_drop hz))
      have hrF := own_capN ow4
      have hrn := own_nil ow4
      obtain ⟨K, eK⟩ : ∃ K : Nat, (K : Int) = aK xs := ⟨(aK xs).toNat, by rw [Int.toNat_of_nonneg (aK_fits H5.out.1.2.2.1).1]⟩
      have hKf := (aK_fits H5.out.1.2.2.1).2
      rw [← eK] at c2 hKf
      have HW : Hid (BIn V2 R2 r2 (aR xs) ∧ r2 ≤ F2 ∧ (R2 = none → r2 = 0 ∧ F2 = 0) ∧ (K : Int) = aK xs ∧ 2 ≤ r - N) := ⟨hbr, hrF, hrn, eK, h2⟩
      clear ow2 ow4 hc hk t1 t2 hbr hrF hrn eK hr2 h2
      by_cases hK : (K : Int) * 2 = r2
      · have hok : AskOk xs := by
          have h1 := HV.out
          refine ⟨by rw [H.out.1.1]; exact h1.2.2.2.2.2.2.1, by rw [← h1.2.2.2.2.2.1]; omega, ?_, by rw [H5.out.1.1]; exact HW.out.2.2.2.2, ?_⟩
          · rw [← h1.2.2.2.2.2.1, H.out.1.1, ← h1.2.2.2.2.1]; omega
          · rw [← HW.out.2.2.2.1, HW.out.1.1]; omega
        obtain ⟨r1, r3, r4⟩ := ask_ok hok
        have HR : Hid (S = strOfNums ((xs.drop 4).take N) ∧ askL xs = pairs (aR xs) ∧ E0 = 0 ∧ (K : Int) * 2 = r2) := by
          refine ⟨?_, r3, HF.out.2.trans r4, hK⟩
          rw [HF.out.1, r1, ← HV.out.2.2.2.2.2.1, Int.toNat_natCast]
        have dK : ((r2 : Int) != 2 * K) = false := by simp; omega
        clear r1 r3 r4 hok hK
        obtain ⟨q1, hq1⟩ : ∃ q1, q1 = V2.heap.size := ⟨_, rfl⟩
        have HQ : Hid (q1 = V2.heap.size ∧ q ≤ q1) := ⟨hq1, by rw [hq1]; exact HB2.out.2⟩
        clear hq1
        go_wp2
        go_loopw [12, 13] (fun s i wr => ∃ (t P : Nat) (A' : Option Addr) (C' : Nat), t ≤ K ∧ P = 2 * t ∧ i = .int .i64 P ∧ s = .slice A' t C' ∧ wr.ownsRow q1 24 1 (.slice A' t C') t (kInts .u16 (valL (aR xs) (List.replicate t 2))) ∧ Below q1 V2 wr)
          (fun _ i _ => r2 - (intOf i).toNat)
        case atStart => exact ⟨0, 0, none, 0, by omega, rfl, rfl, rfl, World.ownsRow_nil _ _ _ _, Below.refl _ _⟩
        case round =>
          obtain ⟨t, P, A', C', ht, hP, rfl, rfl, ow, bl⟩ := hrel
          have HK : Hid (wr.ownsRow q1 24 1 (.slice A' t C') t (kInts .u16 (valL (aR xs) (List.replicate t 2))) ∧ Below q1 V2 wr ∧ q1 ≤ wr.heap.size ∧ P = 2 * t ∧ t ≤ K) := ⟨ow, bl, by have := bl.size; rw [HQ.out.1]; exact this, hP, ht⟩
          clear ow bl
          have hKr := HR.out.2.2.2
          by_cases hlt : t < K
          · have htb : t ≤ 100000 := by omega
            have hP1 : (P : Int) < r2 := by omega
            have hP2 : (P : Int) + 1 < r2 := by omega
            have hnw : BIn wr R2 r2 (aR xs) := HW.out.1.below (by rw [← HQ.out.1]; exact HK.out.2.1)
            obtain ⟨b1, o1, rfl, hc1⟩ := hnw.2.2.2.resolve_left (by omega)
            have ca := hc1 P (by omega)
            have cb := hc1 (P + 1) (by omega)
            have hfa := byte_fits hnw.2.2.1 P
            have hfb := byte_fits hnw.2.2.1 (P + 1)
            have hnx := pairs_next (aR xs) t (by rw [hnw.1]; omega)
            rw [← hP] at hnx
            obtain ⟨x, ex⟩ : ∃ x, x = (aR xs).getD P 0 := ⟨_, rfl⟩
            obtain ⟨y, ey⟩ : ∃ y, y = (aR xs).getD (P + 1) 0 := ⟨_, rfl⟩
            rw [← ex] at ca hfa hnx
            rw [← ey] at cb hfb hnx
            have hor := shl16 hfa hfb
            have hX : Fits16 (x * 256 + y) := by unfold Fits8 at hfa hfb; unfold Fits16; omega
            obtain ⟨X, eX⟩ : ∃ X, X = x * 256 + y := ⟨_, rfl⟩
            rw [← eX] at hor hX hnx
            have HX : Hid (Fits16 X ∧ valL (aR xs) (List.replicate (t + 1) 2) = valL (aR xs) (List.replicate t 2) ++ [X] ∧ (K : Int) * 2 = r2) := ⟨hX, hnx, hKr⟩
            unfold Fits8 at hfa hfb
            obtain ⟨x0, x1⟩ := hfa
            obtain ⟨y0, y1⟩ := hfb
            have hw1 : IntKind.i64.wrap ((P : Int) + 1) = (P : Int) + 1 := by rw [IntKind.wrap_i64]; omega
            have hp0 : (0 : Int) ≤ (P : Int) + 1 := by omega
            have hw3 : IntKind.u16.wrap x = x := by rw [IntKind.wrap_u16]; omega
            have hw4 : IntKind.u16.wrap y = y := by rw [IntKind.wrap_u16]; omega
            have hw2 : IntKind.u16.wrap (x * 256) = x * 256 := by rw [IntKind.wrap_u16]; omega
            clear hc1 ex ey hnx hnw hX eX hKr hP
            go_wp2
            go_region_law (refine step_append_nin (k := .u16) (size := 2) Try.underlying40 Try.zero_u16 (by decide) rfl (.tmp 75) (.tmp 89) rfl q1 A' t C' _ rfl (HK.out.1.alloc _) (some ⟨wr.heap.size, 0, none⟩) 1 1 [X] rfl (new_nin rfl rfl rfl (by intro z hz; simp only [List.mem_cons, List.not_mem_nil, or_false] at hz; subst hz; exact wf16 HX.out.1) (by unfold maxLen; omega)) (fun h => by cases h) (by omega) (by have := HK.out.2.2.1; simp; omega) ?_; intro A9 C9 w9 ow9 bl9)
            all_goals (
              have H9 : Hid (w9.ownsRow q1 24 1 (.slice A9 (t + 1) C9) (t + 1) (kInts .u16 (valL (aR xs) (List.replicate (t + 1) 2))) ∧ Below q1 V2 w9) := by
                refine ⟨by rw [HX.out.2.1]; exact ow9, (HK.out.2.1.drew.alloc HK.out.2.2.1 _).trans bl9⟩
              clear ow9 bl9
              go_wp2
              go_roundw
              case rel => exact ⟨t + 1, P + 2, A9, C9, by omega, by have := HK.out.2.2.2.1; omega, by go_num, by rfl, H9.out.1, H9.out.2⟩
              case measure => simp [intOf]; have := HX.out.2.2; have := HK.out.2.2.2.1; omega)
          · have htK : t = K := by omega
            have hge : (r2 : Int) ≤ P := by omega
            have eL : pairs (aR xs) = valL (aR xs) (List.replicate t 2) := by
              unfold pairs
              rw [HW.out.1.1, show r2 / 2 = t by omega]
            have HL : Hid (askL xs = valL (aR xs) (List.replicate t 2) ∧ t ≤ 100000) := ⟨HR.out.2.1.trans eL, by omega⟩
            clear htK eL hKr hP hKf hlt ht
            go_wp2
            go_ret3
            rw [HR.out.1, HR.out.2.2.1, HL.out.1]
            refine ⟨A', t, C', rfl, own_nin HK.out.1 (by have := HL.out.2; unfold maxLen; omega) (fun z hz => wf16 (valL_fits16 _ _ HW.out.1.2.2.1 z hz)), HB2.out.1.trans (HK.out.2.1.mono HQ.out.2)⟩
      · obtain ⟨r1, r3, r4⟩ := HBAD.out (fun h => by
          have h1 := h.2.2.2.2
          rw [← HW.out.2.2.2.1, HW.out.1.1] at h1
          omega)
        have HR : Hid (S = ⟨#[]⟩ ∧ askL xs = [] ∧ E0 = 74) := ⟨r1, r3, r4⟩
        have dK : ((r2 : Int) != 2 * K) = true := by simp; omega
        clear r1 r3 r4 hK
        go_wp2
        go_ret3
        rw [HR.out.1, HR.out.2.1, HR.out.2.2]
        exact ⟨none, 0, 0, rfl, nin_none _ _, HB2.out.1⟩
    · rw [decide_eq_false h2]
      obtain ⟨r1, r3, r4⟩ := HBAD.out (fun h => by have h1 := h.2.2.2.1; rw [H5.out.1.1] at h1; exact h2 h1)
      have HR : Hid (S = ⟨#[]⟩ ∧ askL xs = [] ∧ E0 = 74) := ⟨r1, r3, r4⟩
      clear r1 r3 r4 ow2 ow4 h2
      go_wp2
      go_ret3
      rw [HR.out.1, HR.out.2.1, HR.out.2.2]
      exact ⟨none, 0, 0, rfl, nin_none _ _, HB2.out.1⟩
  · rw [decide_eq_false h4]
    obtain ⟨r1, r2, r3⟩ := HBAD.out (fun h => by have := h.1; have := H.out.1.1; omega)
    have HR : Hid (S = ⟨#[]⟩ ∧ askL xs = [] ∧ E0 = 74) := ⟨r1, r2, r3⟩
    clear ow ow3 h4 r1 r2 r3
    go_wp2
    go_ret3
    rw [HR.out.1, HR.out.2.1, HR.out.2.2]
    exact ⟨none, 0, 0, rfl, nin_none _ _, HB.out⟩
end Go.Proofs.Ytkegpgmmlmineaa
