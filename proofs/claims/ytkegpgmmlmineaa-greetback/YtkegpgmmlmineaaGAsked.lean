/- What one call of greet's Asked does. -/
import Derived.Test.YtkegpgmmlmineaaGLasked
namespace Go.Proofs.Ytkegpgmmlmineaa
open Go.RowKit
set_option linter.unusedVariables false
set_option maxRecDepth 4000

/-- The front of a slice and what stands behind it, up to an unsigned number. -/
theorem slice_frontU {t : TypeId} (ht : Try.prog.underlying t = some (.slice (Try.prog.elem t))) (hz : ∀ w : World, (sizeOf (Try.prog.elem t)).run Try.prog w = .ok 1 w) (a : Option Addr) (n c k : Nat) (hk : k ≤ c) (w : World) :
    (Instr.slice t (.slice a n c) none (some (.int .u64 (k : Int))) none).run Try.prog w = .ok (.slice a k c) w := by
  rw [run_slice_h (P := Try.prog) w t a n c ht .u64 k (by omega) (by omega), hz w]
  simp only [Result.andThen, Int.toNat_natCast]
  unfold sliced
  cases a with
  | none => simp
  | some x => simp [Addr.add]
theorem slice_backU {t : TypeId} (ht : Try.prog.underlying t = some (.slice (Try.prog.elem t))) (hz : ∀ w : World, (sizeOf (Try.prog.elem t)).run Try.prog w = .ok 1 w) (a : Option Addr) (n c k : Nat) (hk : k ≤ n) (w : World) :
    (Instr.slice t (.slice a n c) (some (.int .u64 (k : Int))) none none).run Try.prog w = .ok (.slice (if c = k then a else a.map (·.add k)) (n - k) (c - k)) w := by
  rw [run_slice_l (P := Try.prog) w t a n c ht .u64 k (by omega) (by omega), hz w]
  simp only [Result.andThen, Int.toNat_natCast]
  unfold sliced
  rw [Nat.mul_one]
theorem ask_bad {xs : List Int} (h : ¬ AskOk xs) : askS xs = [] ∧ askL xs = [] ∧ askE xs = 74 := by
  unfold askS askL askE
  rw [if_neg h, if_neg h, if_neg h]
  exact ⟨rfl, rfl, rfl⟩
theorem ask_ok {xs : List Int} (h : AskOk xs) : askS xs = (xs.drop 4).take (aN xs).toNat ∧ askL xs = pairs (aR xs) ∧ askE xs = 0 := by
  unfold askS askL askE
  rw [if_pos h, if_pos h, if_pos h]
  exact ⟨rfl, rfl, rfl⟩
theorem take4a (xs : List Int) (h : 4 ≤ xs.length) : takeV xs [4] = [aN xs] ∧ takeR xs [4] = xs.drop 4 := by
  refine ⟨take4 xs h, ?_⟩
  unfold takeR
  rw [if_pos (by simpa [offL, wd] using h)]
  simp [offL, wd]
theorem take2a (ys : List Int) (h : 2 ≤ ys.length) : takeV ys [2] = [numI (ys.take 2)] ∧ takeR ys [2] = ys.drop 2 := by
  unfold takeV takeR
  rw [if_pos (by simpa [offL, wd] using h), if_pos (by simpa [offL, wd] using h)]
  simp [valL, offL, wd]
theorem off2 : offL [2] = 2 := rfl
theorem aN_fits {xs : List Int} (h : ∀ z ∈ xs, Fits8 z) : 0 ≤ aN xs ∧ aN xs < 4294967296 := by have := numI_take h 0 4; rwa [List.drop_zero] at this
theorem num2_fits {ys : List Int} (h : ∀ z ∈ ys, Fits8 z) : 0 ≤ numI (ys.take 2) ∧ numI (ys.take 2) < 65536 := by have := numI_take h 0 2; rwa [List.drop_zero] at this
theorem aK_fits {xs : List Int} (h : ∀ z ∈ aT xs, Fits8 z) : 0 ≤ aK xs ∧ aK xs < 65536 := num2_fits h
/-- What stands behind the front of a list of bytes, by the word that slicing leaves. -/
theorem back_bin {w : World} {a : Option Addr} {n c : Nat} {xs : List Int} (h : BIn w a n xs) (hnil : a = none → n = 0 ∧ c = 0) (i : Nat) (hi : i ≤ n) (hc : n ≤ c) :
    ∃ A, A = (if c = i then a else a.map (·.add i)) ∧ BIn w A (n - i) (xs.drop i) ∧ (A = none → n - i = 0 ∧ c - i = 0) := by
  refine ⟨_, rfl, (h.n.back i hi hc).b, ?_⟩
  intro e
  split at e
  · have := hnil e; omega
  · have : a = none := by simpa using e
    have := hnil this; omega

set_option maxHeartbeats 2000000 in
theorem asked_of (a : Option Addr) (n c : Nat) (xs : List Int) (w : World) (hx : BIn w a n xs) (hnil : a = none → n = 0 ∧ c = 0) (hnc : n ≤ c) (hn : n ≤ 100000) :
    Calls Try.prog 16 #[.slice a n c] w fun e w' => ∃ A k C, e = .returned (.tuple #[.string (strOfNums (askS xs)), .slice A k C, .int .u16 (askE xs)]) ∧ NIn .u16 w' A k (askL xs) ∧ Below w.heap.size w w' := by
  obtain ⟨S, hS⟩ : ∃ S, S = strOfNums (askS xs) := ⟨_, rfl⟩
  obtain ⟨E0, hE⟩ : ∃ E, E = askE xs := ⟨_, rfl⟩
  obtain ⟨q, hq⟩ : ∃ q, q = w.heap.size := ⟨_, rfl⟩
  rw [← hS, ← hE, ← hq]
  have HF : Hid (S = strOfNums (askS xs) ∧ E0 = askE xs) := ⟨hS, hE⟩
  have H : Hid (BIn w a n xs ∧ (a = none → n = 0 ∧ c = 0) ∧ n ≤ c ∧ q = w.heap.size) := ⟨hx, hnil, hnc, hq⟩
  clear hx hnil hnc hS hE
  have hbad : ¬ AskOk xs → S = ⟨#[]⟩ ∧ askL xs = [] ∧ E0 = 74 := fun h => by
    obtain ⟨r1, r2, r3⟩ := ask_bad h
    exact ⟨by rw [HF.out.1, r1]; rfl, r2, HF.out.2.trans r3⟩
  have HBAD : Hid (¬ AskOk xs → S = ⟨#[]⟩ ∧ askL xs = [] ∧ E0 = 74) := hbad
  clear hbad
  go_enter Try.func16, Try.ntmps16
  go_wp2_with fail
  refine (take_of a n c xs (some ⟨w.heap.size, 0, none⟩) 1 1 [4] _ (H.out.1.alloc _) H.out.2.1 H.out.2.2.1 (nin_lit 3 rfl rfl rfl rfl (by omega)) hn (by omega)).mono ?_
  rw [off4, H.out.1.1]
  rintro e V ⟨A, k, D, R, r, F, rfl, ow, ow3, bl⟩
  have HB : Hid (Below q w V) := by have := below_new bl; rw [← H.out.2.2.2] at this; exact this
  clear bl hq
  by_cases h4 : 4 ≤ n
  · rw [decide_eq_true h4]
    obtain ⟨t1, t2⟩ := take4a xs (by rw [H.out.1.1]; exact h4)
    rw [t1] at ow
    rw [t2] at ow3
    obtain ⟨g, rfl, hk, hc⟩ := own_at ow (by simp)
    have c0 : V.cell? ⟨g, 0, none⟩ = some (.int .u64 (aN xs)) := hc 0 (by simp)
    have hk1 : k = 1 := by simpa using hk
    subst hk1
    have hr : r = n - 4 := by have := ow3.1; rw [u8s_length, List.length_drop, H.out.1.1] at this; omega
    have hrb : r ≤ 100000 := by omega
    have hbr : BIn V R r (xs.drop 4) := own_bin ow3 (by unfold maxLen; omega) (fun z hz => H.out.1.2.2.1 z (List.mem_of_mem_drop hz))
    have hrF := own_capN ow3
    have hrn := own_nil ow3
    obtain ⟨N, eN⟩ : ∃ N : Nat, (N : Int) = aN xs := ⟨(aN xs).toNat, by rw [Int.toNat_of_nonneg (aN_fits H.out.1.2.2.1).1]⟩
    have hNf := (aN_fits H.out.1.2.2.1).2
    rw [← eN] at c0 hNf
    have HV : Hid (Below q w V ∧ BIn V R r (xs.drop 4) ∧ r ≤ F ∧ (R = none → r = 0 ∧ F = 0) ∧ r = n - 4 ∧ (N : Int) = aN xs ∧ 4 ≤ n ∧ q ≤ V.heap.size) := ⟨HB.out, hbr, hrF, hrn, hr, eN, h4, by have := HB.out.size; rw [H.out.2.2.2] at *; exact this⟩
    clear ow ow3 hc hk HB hbr hrF hrn t1 t2 hr eN h4
    have HNF : Hid ((N : Int) < 4294967296) := hNf
    clear hNf
    by_cases hN : (255 : Int) < N
    · obtain ⟨r1, r2, r3⟩ := HBAD.out (fun h => by have := h.2.1; have := HV.out.2.2.2.2.2.1; omega)
      have HR : Hid (S = ⟨#[]⟩ ∧ askL xs = [] ∧ E0 = 74) := ⟨r1, r2, r3⟩
      clear r1 r2 r3
      have hNf : (N : Int) ≤ 4294967295 := by have := HNF.out; omega
      go_wp2
      go_ret3
      rw [HR.out.1, HR.out.2.1, HR.out.2.2]
      exact ⟨none, 0, 0, rfl, nin_none _ _, HV.out.1⟩
    have hN1 : (N : Int) ≤ 255 := by omega
    have d1 : decide ((255 : Int) < N) = false := decide_eq_false hN
    by_cases hNr : (r : Int) < N
    · obtain ⟨r1, r2, r3⟩ := HBAD.out (fun h => by have := h.2.2.1; have h1 := HV.out.2.2.2.2.2.1; have h2 := HV.out.2.2.2.2.1; have := H.out.1.1; omega)
      have HR : Hid (S = ⟨#[]⟩ ∧ askL xs = [] ∧ E0 = 74) := ⟨r1, r2, r3⟩
      clear r1 r2 r3
      go_wp2
      go_ret3
      rw [HR.out.1, HR.out.2.1, HR.out.2.2]
      exact ⟨none, 0, 0, rfl, nin_none _ _, HV.out.1⟩
    have hNr1 : (N : Int) ≤ r := by omega
    have d2 : decide ((r : Int) < N) = false := decide_eq_false hNr
    have s1 := fun w => slice_frontU Try.underlying22 Try.one_bytes R r F N (by have := HV.out.2.2.1; omega) w
    have s2 := fun w => slice_backU Try.underlying22 Try.one_bytes R r F N (by omega) w
    have hs := str_of V R N F ((xs.drop 4).take N) (HV.out.2.1.n.front N (by omega)).b
    obtain ⟨A5, eA5, hb5, hn5⟩ := back_bin HV.out.2.1 HV.out.2.2.2.1 N (by omega) HV.out.2.2.1
    rw [← eA5] at s2
    rw [List.drop_drop] at hb5
    have eT : xs.drop (4 + N) = aT xs := by unfold aT; rw [← HV.out.2.2.2.2.2.1, Int.toNat_natCast]
    rw [eT] at hb5
    have H5 : Hid (BIn V A5 (r - N) (aT xs) ∧ (A5 = none → r - N = 0 ∧ F - N = 0) ∧ r - N ≤ F - N) := ⟨hb5, hn5, by have := HV.out.2.2.1; omega⟩
    clear hb5 hn5 eA5 eT hN hNr HNF
    go_wp2_with fail
    refine (take_of A5 (r - N) (F - N) (aT xs) (some ⟨V.heap.size, 0, none⟩) 1 1 [2] _ (H5.out.1.alloc _) H5.out.2.1 H5.out.2.2 (nin_lit 3 rfl rfl rfl rfl (by omega)) (by omega) (by omega)).mono ?_
    rw [off2, H5.out.1.1]
    rintro e V2 ⟨A2, k2, D2, R2, r2, F2, rfl, ow2, ow4, bl2⟩
    have HB2 : Hid (Below q w V2 ∧ q ≤ V2.heap.size) := by
      have h1 := below_new bl2
      have h2 := HV.out.2.2.2.2.2.2.2
      exact ⟨HV.out.1.trans (h1.mono h2), by have := h1.size; omega⟩
    clear bl2 s1 s2 hs
    by_cases h2 : 2 ≤ r - N
    · rw [decide_eq_true h2]
      obtain ⟨t1, t2⟩ := take2a (aT xs) (by rw [H5.out.1.1]; exact h2)
      rw [t1] at ow2
      rw [t2] at ow4
      obtain ⟨g2, rfl, hk, hc⟩ := own_at ow2 (by simp)
      have c2 : V2.cell? ⟨g2, 0, none⟩ = some (.int .u64 (aK xs)) := hc 0 (by simp)
      have hk1 : k2 = 1 := by simpa using hk
      subst hk1
      have hr2 : r2 = r - N - 2 := by have := ow4.1; rw [u8s_length, List.length_drop, H5.out.1.1] at this; omega
      have hrb2 : r2 ≤ 100000 := by omega
      have hbr : BIn V2 R2 r2 (aR xs) := own_bin ow4 (by unfold maxLen; omega) (fun z hz => H5.out.1.2.2.1 z (List.mem_of_mem_drop hz))
      have hrF := own_capN ow4
      have hrn := own_nil ow4
      obtain ⟨K, eK⟩ : ∃ K : Nat, (K : Int) = aK xs := ⟨(aK xs).toNat, by rw [Int.toNat_of_nonneg (aK_fits H5.out.1.2.2.1).1]⟩
      have hKf := (aK_fits H5.out.1.2.2.1).2
      rw [← eK] at c2 hKf
      have HW : Hid (BIn V2 R2 r2 (aR xs) ∧ r2 ≤ F2 ∧ (R2 = none → r2 = 0 ∧ F2 = 0) ∧ (K : Int) = aK xs ∧ 2 ≤ r - N) := ⟨hbr, hrF, hrn, eK, h2⟩
      clear ow2 ow4 hc hk t1 t2 hbr hrF hrn eK hr2 h2
      by_cases hK : (K : Int) * 2 = r2
      · have hok : AskOk xs := by
          have h1 := HV.out
          refine ⟨by rw [H.out.1.1]; exact h1.2.2.2.2.2.2.1, by rw [← h1.2.2.2.2.2.1]; omega, ?_, by rw [H5.out.1.1]; exact HW.out.2.2.2.2, ?_⟩
          · rw [← h1.2.2.2.2.2.1, H.out.1.1, ← h1.2.2.2.2.1]; omega
          · rw [← HW.out.2.2.2.1, HW.out.1.1]; omega
        obtain ⟨r1, r3, r4⟩ := ask_ok hok
        have HR : Hid (S = strOfNums ((xs.drop 4).take N) ∧ askL xs = pairs (aR xs) ∧ E0 = 0 ∧ (K : Int) * 2 = r2) := by
          refine ⟨?_, r3, HF.out.2.trans r4, hK⟩
          rw [HF.out.1, r1, ← HV.out.2.2.2.2.2.1, Int.toNat_natCast]
        have dK : ((K : Int) * 2 != r2) = false := by simp [hK]
        clear r1 r3 r4 hok hK
        go_wp2_with fail
        refine (lasked_of R2 r2 F2 (aR xs) V2 HW.out.1 HW.out.2.2.1 HW.out.2.1 hrb2).mono ?_
        rintro e w3 ⟨A3, k3, C3, rfl, ow5, bl3⟩
        have H3 : Hid (NIn .u16 w3 A3 k3 (pairs (aR xs)) ∧ Below q w w3) := by
          refine ⟨own_nin ow5 ?_ (fun z hz => wf16 (valL_fits16 _ _ HW.out.1.2.2.1 z hz)), HB2.out.1.trans (bl3.mono HB2.out.2)⟩
          have := ow5.1
          rw [kInts_length, pairs_length, HW.out.1.1] at this
          unfold maxLen
          omega
        clear ow5 bl3
        go_wp2
        go_ret3
        rw [HR.out.1, HR.out.2.1, HR.out.2.2.1]
        exact ⟨A3, k3, C3, rfl, H3.out.1, H3.out.2⟩
      · obtain ⟨r1, r3, r4⟩ := HBAD.out (fun h => by
          have h1 := h.2.2.2.2
          rw [← HW.out.2.2.2.1, HW.out.1.1] at h1
          omega)
        have HR : Hid (S = ⟨#[]⟩ ∧ askL xs = [] ∧ E0 = 74) := ⟨r1, r3, r4⟩
        have dK : ((K : Int) * 2 != r2) = true := by simp [hK]
        clear r1 r3 r4 hK
        go_wp2
        go_ret3
        rw [HR.out.1, HR.out.2.1, HR.out.2.2]
        exact ⟨none, 0, 0, rfl, nin_none _ _, HB2.out.1⟩
    · rw [decide_eq_false h2]
      obtain ⟨r1, r3, r4⟩ := HBAD.out (fun h => by have h1 := h.2.2.2.1; rw [H5.out.1.1] at h1; exact h2 h1)
      have HR : Hid (S = ⟨#[]⟩ ∧ askL xs = [] ∧ E0 = 74) := ⟨r1, r3, r4⟩
      clear r1 r3 r4 ow2 ow4 h2
      go_wp2
      go_ret3
      rw [HR.out.1, HR.out.2.1, HR.out.2.2]
      exact ⟨none, 0, 0, rfl, nin_none _ _, HB2.out.1⟩
  · rw [decide_eq_false h4]
    obtain ⟨r1, r2, r3⟩ := HBAD.out (fun h => by have := h.1; have := H.out.1.1; omega)
    have HR : Hid (S = ⟨#[]⟩ ∧ askL xs = [] ∧ E0 = 74) := ⟨r1, r2, r3⟩
    clear ow ow3 h4 r1 r2 r3
    go_wp2
    go_ret3
    rw [HR.out.1, HR.out.2.1, HR.out.2.2]
    exact ⟨none, 0, 0, rfl, nin_none _ _, HB.out⟩
end Go.Proofs.Ytkegpgmmlmineaa
