/- What one call of the document's own sign and Read does. -/
import Derived.Test.YtpliokkmiijieaaDoorSpRef
namespace Go.Proofs.YtpliokkmiijieaaDoor
open Go.RowKit
set_option linter.unusedVariables false
set_option maxRecDepth 4000

theorem sign_index (N : Nat) (h : N < 32) (w : World) : (Instr.index 9 (.string signsS) (.int .i64 (N : Int))).run Tryd.prog w = .ok (.int .u8 (signI N)) w := by
  have hs : signsS.size = 32 := by kernel_rfl
  have h2 : (0 : Int) ≤ N ∧ (N : Int) < signsS.size := by rw [hs]; omega
  rw [run_index_string w 9 signsS .i64 N Tryd.underlying9, dif_pos h2]
  have : ∀ n : Fin 32, ((signsS[n.1]'(by rw [show signsS.size = 32 from by kernel_rfl]; exact n.2)).toNat : Int) = signI (n.1 : Int) := by decide +kernel
  have e := this ⟨N, h⟩
  simp only [Int.toNat_natCast]
  rw [← e]
theorem refsign_of (c : Int) (w : World) (hc : Fits8 c) : Calls Tryd.prog 50 #[.int .u8 c] w fun e w' => e = .returned (.int .i64 (if IsSign c then valI c else -1)) ∧ w' = w := by
  obtain ⟨r, hr⟩ : ∃ r, r = (if IsSign c then valI c else -1) := ⟨_, rfl⟩
  have HR : Hid (r = (if IsSign c then valI c else -1)) := hr
  rw [← hr]
  clear hr
  unfold Fits8 at hc
  go_enter Tryd.func50, Tryd.ntmps50
  go_wp2
  go_loopw [3] (fun i wr => ∃ k : Nat, k ≤ 32 ∧ i = .int .i64 k ∧ (∀ j : Nat, j < k → signI j ≠ c) ∧ wr = w)
    (fun i _ => 32 - (intOf i).toNat)
  case atStart => exact ⟨0, by omega, rfl, fun j hj => absurd hj (by omega), rfl⟩
  case round =>
    obtain ⟨k, hk, rfl, hne, rfl⟩ := hrel
    by_cases hlt : k < 32
    · have hlt' : (k : Int) < 32 := by omega
      have hix := sign_index k hlt wr
      unfold signsS at hix
      obtain ⟨S, hS⟩ : ∃ S, S = signI k := ⟨_, rfl⟩
      rw [← hS] at hix
      have HS : Hid (S = signI k ∧ ∀ j : Nat, j < k → signI j ≠ c) := ⟨hS, hne⟩
      clear hS hne
      by_cases he : S = c
      · have HE : Hid (IsSign c ∧ valI c = k) := by
          rw [← he, HS.out.1]
          exact ⟨sign_is (by omega) (by omega), val_sign (by omega) (by omega)⟩
        subst he
        go_wp2
        go_ret
        exact ⟨by rw [HR.out, if_pos HE.out.1, HE.out.2]; rfl, rfl⟩
      · go_wp2
        go_roundw
        case rel =>
          refine ⟨k + 1, by omega, by go_num, fun j hj => ?_, trivial⟩
          by_cases h : j = k
          · rw [h, ← HS.out.1]; exact he
          · exact HS.out.2 j (by omega)
        case measure => simp [intOf]; omega
    · have hge : (32 : Int) ≤ k := by omega
      have HE : Hid (¬ IsSign c) := by
        have : ¬ IsSign c := fun h => by
          have hv := val_fits h
          have := hne (valI c).toNat (by omega)
          rw [show (((valI c).toNat : Nat) : Int) = valI c by omega] at this
          exact this (sign_val h)
        exact this
      clear hne
      go_wp2
      go_ret
      exact ⟨by rw [HR.out, if_neg HE.out]; rfl, rfl⟩

theorem wrap_pow {u : Nat} (hu : u < 5) : wrap64 (2 ^ u) = 2 ^ u :=
  match u, hu with
  | 0, _ => by rw [show (2 : Int) ^ 0 = 1 from rfl]; unfold wrap64; omega
  | 1, _ => by rw [show (2 : Int) ^ 1 = 2 from rfl]; unfold wrap64; omega
  | 2, _ => by rw [show (2 : Int) ^ 2 = 4 from rfl]; unfold wrap64; omega
  | 3, _ => by rw [show (2 : Int) ^ 3 = 8 from rfl]; unfold wrap64; omega
  | 4, _ => by rw [show (2 : Int) ^ 4 = 16 from rfl]; unfold wrap64; omega
set_option maxHeartbeats 2000000 in
theorem refRead_at (s : ByteArray) (cs : List Int) (n : Nat) (w : World) (hs : s = strOfNums cs) (hf : ∀ z ∈ cs, Fits8 z) (hl : cs.length = n) (hn : n ≤ 100000) :
    Calls Tryd.prog 31 #[.string s] w fun e w' => ∃ a m c, e = .returned (.tuple #[.slice a m c, .int .i64 (readE cs)]) ∧ BIn w' a m (readI cs) ∧ (a = none → m = 0 ∧ c = 0) ∧ m ≤ c ∧ Below w.heap.size w w' := by
  obtain ⟨q, hq⟩ : ∃ q, q = w.heap.size := ⟨_, rfl⟩
  have hsz : s.size = n := by rw [hs, strOfNums_size, hl]
  have H : Hid (s = strOfNums cs ∧ (∀ z ∈ cs, Fits8 z) ∧ cs.length = n ∧ q = w.heap.size) := ⟨hs, hf, hl, hq⟩
  rw [← hq]
  clear hs hf hl hq
  go_enter Tryd.func31, Tryd.ntmps31
  go_wp2
  go_loopw [4, 5, 6, 7] (fun b h t i wr => ∃ (k : Nat) (a : Option Addr) (c : Nat), k ≤ n ∧ i = .int .i64 k ∧ Signs (cs.take k) ∧ b = .slice a (rdI (cs.take k)).out.length c ∧ h = .int .i64 (rdI (cs.take k)).held ∧ t = .int .i64 (rdI (cs.take k)).bits ∧ wr.ownsRow q 5 1 (.slice a (rdI (cs.take k)).out.length c) (rdI (cs.take k)).out.length (u8s (rdI (cs.take k)).out) ∧ Below q w wr)
    (fun _ _ _ i _ => n - (intOf i).toNat)
  case atStart => exact ⟨0, _, _, by omega, rfl, by intro z hz; simp at hz, rfl, rfl, rfl, World.ownsRow_nil _ _ _ _, Below.refl _ _⟩
  case round =>
    obtain ⟨k, a, c, hk, rfl, hsg, rfl, rfl, rfl, ow, bl⟩ := hrel
    by_cases hlt : k < n
    · have hlt' : (k : Int) < n := by omega
      have hki : k < s.size := by rw [hsz]; exact hlt
      have hfit : Fit 5 ((cs.take k).map valI) := hsg.fit
      have ok := rdN_all hfit
      obtain ⟨R, hR⟩ : ∃ R, R = rdI (cs.take k) := ⟨_, rfl⟩
      rw [← hR] at ow ⊢
      unfold rdI at hR
      rw [← hR] at ok
      obtain ⟨O, h, t⟩ := R
      dsimp only at ow ok ⊢
      have e1 : 8 * O.length + t = 5 * k := by have := ok.1; rw [List.length_map, List.length_take, Nat.min_eq_left (by rw [H.out.2.2.1]; omega)] at this; exact this
      have ht : t < 8 := ok.2.1
      have hh0 : 0 ≤ h := (ok.small (bitOf_bit _ _)).1
      have hh2 : h < 128 := (ok.small (bitOf_bit _ _)).2.2
      have hol : O.length ≤ n := by omega
      have HK : Hid (Signs (cs.take k) ∧ (⟨O, h, t⟩ : Rd) = rdI (cs.take k) ∧ Fit 8 O ∧ wr.ownsRow q 5 1 (.slice a O.length c) O.length (u8s O) ∧ Below q w wr ∧ 8 * O.length + t = 5 * k) := ⟨hsg, hR, ok.fit (bitOf_bit _ _), ow, bl, e1⟩
      have hcv : ((s[k]'hki).toNat : Int) = cs.getD k 0 := by
        have := str_at H.out.2.1 k (by rw [← H.out.1]; exact hki)
        rw [← this]; congr 3; exact H.out.1
      clear hsg hfit ok ow bl e1 hR
      obtain ⟨C, hC⟩ : ∃ C : Int, C = ((s[k]'hki).toNat : Int) := ⟨_, rfl⟩
      have hCf : Fits8 C := by rw [hC, hcv]; exact byte_fits H.out.2.1 k
      have HC : Hid (C = cs.getD k 0) := by rw [hC, hcv]; exact rfl
      clear hcv
      have cV := refsign_of C wr hCf
      by_cases hsn : IsSign C
      · rw [if_pos hsn] at cV
        have hv := val_fits hsn
        obtain ⟨v, hv'⟩ : ∃ v, v = valI C := ⟨_, rfl⟩
        rw [← hv'] at cV hv
        obtain ⟨hv0, hv1⟩ := hv
        obtain ⟨G, hG⟩ : ∃ G, h * 32 + v = G := ⟨_, rfl⟩
        have hG0 : 0 ≤ G := by omega
        have hG1 : G < 4096 := by omega
        have HV : Hid (v = valI C ∧ G = h * 32 + v ∧ IsSign C) := ⟨hv', hG.symm, hsn⟩
        clear hv' hsn
        rw [hC] at cV
        by_cases ht3 : t < 3
        · have ht3' : (t : Int) < 3 := by omega
          go_wp2_with fail
          refine cV.mono ?_
          rintro e wr ⟨rfl, rfl⟩
          go_wp2
          go_roundw
          case rel =>
            obtain ⟨hs1, hs2⟩ := rd_next HK.out.1 (by rw [H.out.2.2.1]; exact hlt) HC.out HV.out.2.2
            rw [← HK.out.2.1, ← HV.out.1, rdStep, if_neg (by show ¬ 3 ≤ t; omega)] at hs2
            dsimp only at hs2
            rw [← HV.out.2.1] at hs2
            exact ⟨k + 1, a, c, by omega, by go_num, hs1, by rw [hs2], by rw [hs2], by rw [hs2]; go_num, by rw [hs2]; exact HK.out.2.2.2.1, HK.out.2.2.2.2.1⟩
          case measure => simp [intOf]; omega
        · obtain ⟨u, rfl⟩ : ∃ u, t = u + 3 := ⟨t - 3, by omega⟩
          have HP : Hid (wrap64 (2 ^ u) = 2 ^ u) := wrap_pow (by omega)
          have hPn : ¬ wrap64 (2 ^ u) = 0 := by rw [HP.out]; exact Int.ne_of_gt (p2_pos u)
          have hqs : q ≤ wr.heap.size := by have := HK.out.2.2.2.2.1.size; rw [H.out.2.2.2] at *; exact this
          go_wp2_with fail
          refine cV.mono ?_
          rintro e wr ⟨rfl, rfl⟩
          go_wp2_with (at_builtin; refine wpList_append_bin rfl (.tmp 31) (.tmp 37) rfl q a O.length c O rfl (HK.out.2.2.2.1.alloc _) (some ⟨wr.heap.size, 0, none⟩) 1 1 [G / 2 ^ u % 256] rfl (new_bin rfl rfl rfl (one_fits _) (by unfold maxLen; omega)) (fun h => by cases h) (by omega) (by simp; omega) ?_; intro a' c' W ow' bl')
          go_roundw
          case rel =>
            obtain ⟨hs1, hs2⟩ := rd_next HK.out.1 (by rw [H.out.2.2.1]; exact hlt) HC.out HV.out.2.2
            rw [← HK.out.2.1, ← HV.out.1, rdStep, if_pos (by show 3 ≤ u + 3; omega)] at hs2
            dsimp only at hs2
            rw [← HV.out.2.1, show u + 3 - 3 = u by omega] at hs2
            have hb : G / 2 ^ u % 256 = G / 2 ^ u := by
              have hf := (rdN_all hs1.fit).fit (bitOf_bit _ _)
              unfold rdI at hs2
              rw [hs2] at hf
              have := hf (G / 2 ^ u) (by simp)
              exact Int.emod_eq_of_lt this.1 this.2
            rw [hb] at ow'
            have hbl : Below q w W := (HK.out.2.2.2.2.1.alloc hqs _).trans bl'
            refine ⟨k + 1, a', c', by omega, by go_num, hs1, by rw [hs2]; simp, by rw [hs2, HP.out], by rw [hs2]; go_num, ?_, hbl⟩
            rw [hs2]
            simpa using ow'
          case measure => simp [intOf]; omega
      · rw [if_neg hsn, hC] at cV
        have HN : Hid (¬ Reads cs) := by
          have : ¬ Reads cs := fun hr => hsn (hr.1 C (by rw [HC.out]; have hk' : k < cs.length := (by rw [H.out.2.2.1]; exact hlt); simp [List.getD, hk']))
          exact this
        clear hsn
        go_wp2_with fail
        refine cV.mono ?_
        rintro e wr ⟨rfl, rfl⟩
        go_wp2
        go_ret2
        exact ⟨none, 0, 0, by unfold readE; rw [if_neg HN.out]; rfl, by unfold readI; rw [if_neg HN.out]; exact bin_none _, fun _ => ⟨rfl, rfl⟩, Nat.le_refl _, HK.out.2.2.2.2.1⟩
    · have hge : (n : Int) ≤ k := by omega
      have hT : cs.take k = cs := List.take_of_length_le (by rw [H.out.2.2.1]; omega)
      rw [hT] at hsg ow ⊢
      have ok := rdN_all hsg.fit
      obtain ⟨R, hR⟩ : ∃ R, R = rdI cs := ⟨_, rfl⟩
      rw [← hR] at ow ⊢
      unfold rdI at hR
      rw [← hR] at ok
      have hfit := ok.fit (bitOf_bit _ _)
      have hlen := ok.1
      rw [List.length_map, H.out.2.2.1] at hlen
      obtain ⟨O, h, t⟩ := R
      dsimp only at ow hfit hlen ⊢
      have hbn : BIn wr a O.length O := own_bin ow (by unfold maxLen; omega) hfit
      have cW := refWrite_of a O.length c O wr hbn (by omega)
      have hsz2 : wr.heap.size = wr.heap.size := rfl
      have HK : Hid (Signs cs ∧ (⟨O, h, t⟩ : Rd) = rdI cs ∧ Fit 8 O ∧ BIn wr a O.length O ∧ Below q w wr ∧ (a = none → O.length = 0 ∧ c = 0) ∧ O.length ≤ c) := ⟨hsg, hR, hfit, hbn, bl, own_nil ow, own_capB ow⟩
      clear hsg hT ok hfit hlen hR ow bl hbn hsz2
      by_cases hg : wrI O = cs
      · have HG : Hid (Reads cs) := (reads_iff HK.out.1).2 (by rw [← HK.out.2.1]; exact hg)
        rw [hg, ← H.out.1] at cW
        clear hg
        go_wp2_with fail
        refine cW.mono ?_
        rintro e w2 ⟨rfl, b2⟩
        go_wp2
        go_ret2
        refine ⟨a, O.length, c, by unfold readE; rw [if_pos HG.out]; rfl, ?_, HK.out.2.2.2.2.2.1, HK.out.2.2.2.2.2.2, HK.out.2.2.2.2.1.trans (b2.mono (by have := HK.out.2.2.2.2.1.size; rw [H.out.2.2.2]; exact this))⟩
        unfold readI
        rw [if_pos HG.out, ← HK.out.2.1]
        exact HK.out.2.2.2.1.below b2
      · have HN : Hid (¬ Reads cs) := by
          have : ¬ Reads cs := fun hr => hg (by have := (reads_iff HK.out.1).1 hr; rw [← HK.out.2.1] at this; exact this)
          exact this
        have hne := str_other (wrI_fits O) H.out.2.1 hg
        rw [← H.out.1] at hne
        clear hg
        go_wp2_with fail
        refine cW.mono ?_
        rintro e w2 ⟨rfl, b2⟩
        go_wp2
        go_ret2
        exact ⟨none, 0, 0, by unfold readE; rw [if_neg HN.out]; rfl, by unfold readI; rw [if_neg HN.out]; exact bin_none _, fun _ => ⟨rfl, rfl⟩, Nat.le_refl _, HK.out.2.2.2.2.1.trans (b2.mono (by have := HK.out.2.2.2.2.1.size; rw [H.out.2.2.2]; exact this))⟩
theorem refRead_of (s : ByteArray) (cs : List Int) (n : Nat) (w : World) (hs : s = strOfNums cs) (hf : ∀ z ∈ cs, Fits8 z) (hl : cs.length = n) (hn : n ≤ 100000) :
    Calls Tryd.prog 31 #[.string s] w fun e w' => ∃ a m c, e = .returned (.tuple #[.slice a m c, .int .i64 (readE cs)]) ∧ BIn w' a m (readI cs) ∧ (a = none → m = 0 ∧ c = 0) ∧ Below w.heap.size w w' := by
  refine (refRead_at s cs n w hs hf hl hn).mono ?_
  rintro e w' ⟨a, m, c, he, h1, h2, _, h3⟩
  exact ⟨a, m, c, he, h1, h2, h3⟩
end Go.Proofs.YtpliokkmiijieaaDoor
