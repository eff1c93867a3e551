/- What one call of spell's Read does. -/
import Derived.Test.YtpliokkmiijieaaDoorSpWrite
import Derived.Lib.QuoteBits
import Derived.Lib.RabinKarpLaws
namespace Go.Proofs.YtpliokkmiijieaaDoor
open Go.RowKit
set_option linter.unusedVariables false
set_option maxRecDepth 4000

theorem str_at {cs : List Int} (hf : ∀ z ∈ cs, Fits8 z) (k : Nat) (h : k < (strOfNums cs).size) : (((strOfNums cs)[k]'h).toNat : Int) = cs.getD k 0 := by
  have hk : k < cs.length := by rw [strOfNums_size] at h; exact h
  have e : (strOfNums cs)[k]'h = UInt8.ofNat (cs[k]).toNat := by
    show (strOfNums cs).data[k] = _
    simp [strOfNums]
  have f := hf _ (List.getElem_mem hk)
  unfold Fits8 at f
  rw [e]
  simp only [List.getD, List.getElem?_eq_getElem hk, Option.getD_some, UInt8.toNat_ofNat']
  omega

theorem i64_or (a b : Nat) (ha : a < 1000000) (hb : b < 1000000) : bits .or .i64 (a : Int) (b : Int) = ((a ||| b : Nat) : Int) := by
  show IntKind.i64.wrap ((BitVec.ofInt 64 (a : Int) ||| BitVec.ofInt 64 (b : Int)).toNat : Int) = _
  rw [BitVec.toNat_or, ofInt_u64 a (by omega), ofInt_u64 b (by omega)]
  have : a ||| b < 2 ^ 20 := Nat.or_lt_two_pow (by omega) (by omega)
  exact Lib.wrap_i64_small _ (by omega)
theorem join_held {h v : Int} (h0 : 0 ≤ h) (h1 : h < 128) (v0 : 0 ≤ v) (v1 : v < 32) : bits .or .i64 (h * 32) v = h * 32 + v := by
  obtain ⟨A, rfl⟩ := Int.eq_ofNat_of_zero_le h0
  obtain ⟨B, rfl⟩ := Int.eq_ofNat_of_zero_le v0
  have e : ((A : Int) * 32) = ((A * 32 : Nat) : Int) := by omega
  rw [e, i64_or _ _ (by omega) (by omega), nat_join5 _ _ (by omega) (by omega)]
  omega
theorem mask_held {G : Int} {u : Nat} (h0 : 0 ≤ G) (h1 : G < 4096) (hu : u < 5) : bits .and .i64 G (wrap64 (wrap64 (2 ^ u) - 1)) = G % 2 ^ u := by
  have e : wrap64 (wrap64 (2 ^ u) - 1) = 2 ^ u - 1 :=
    match u, hu with
    | 0, _ => by rw [show (2 : Int) ^ 0 = 1 from rfl]; unfold wrap64; omega
    | 1, _ => by rw [show (2 : Int) ^ 1 = 2 from rfl]; unfold wrap64; omega
    | 2, _ => by rw [show (2 : Int) ^ 2 = 4 from rfl]; unfold wrap64; omega
    | 3, _ => by rw [show (2 : Int) ^ 3 = 8 from rfl]; unfold wrap64; omega
    | 4, _ => by rw [show (2 : Int) ^ 4 = 16 from rfl]; unfold wrap64; omega
  rw [e]
  exact bits_mask .i64 63 (by decide) (fun n h0 h1 => by rw [show (2 : Int) ^ 63 = 9223372036854775808 from rfl] at h1; rw [IntKind.wrap_i64]; omega) u (by omega) G h0 (by rw [show (2 : Int) ^ 63 = 9223372036854775808 from rfl]; omega)
theorem RdOk.small {f : Nat → Int} (hf : Bit f) {i : Nat} {s : Rd} (h : RdOk f i s) : 0 ≤ s.held ∧ s.held < 2 ^ s.bits ∧ s.held < 128 := by
  have h1 : 0 ≤ s.held := by rw [h.2.2.1]; exact sumB_nonneg hf _ _
  have h2 : s.held < 2 ^ s.bits := by rw [h.2.2.1]; exact sumB_lt hf _ _
  refine ⟨h1, h2, ?_⟩
  have e : (2 : Int) ^ 7 = 2 ^ s.bits * 2 ^ (7 - s.bits) := by rw [← Int.pow_add]; congr 1; have := h.2.1; omega
  have p := p2_pos (7 - s.bits)
  have q := Int.mul_le_mul_of_nonneg_left (show (1 : Int) ≤ 2 ^ (7 - s.bits) by omega) (Int.le_of_lt (p2_pos s.bits))
  rw [← e, Int.mul_one] at q
  omega

theorem one_fits (x : Int) : ∀ z ∈ [x % 256], Fits8 z := by
  intro z hz
  simp only [List.mem_cons, List.not_mem_nil, or_false] at hz
  subst hz
  unfold Fits8
  omega
theorem rd_next {cs : List Int} {k : Nat} {C : Int} (h : Signs (cs.take k)) (hk : k < cs.length) (hC : C = cs.getD k 0) (hs : IsSign C) : Signs (cs.take (k + 1)) ∧ rdI (cs.take (k + 1)) = rdStep (rdI (cs.take k)) (valI C) := by
  have e : C = cs[k] := by rw [hC]; simp [List.getD, hk]
  rw [List.take_succ_eq_append_getElem hk, ← e]
  refine ⟨?_, ?_⟩
  · intro z hz
    rcases List.mem_append.1 hz with hz | hz
    · exact h z hz
    · simp only [List.mem_cons, List.not_mem_nil, or_false] at hz
      subst hz; exact hs
  · unfold rdI
    rw [List.map_append, List.map_cons, List.map_nil, rdN_snoc]

theorem own_capB {w : World} {base : Nat} {a : Option Addr} {n c : Nat} {zs : List Value} (h : w.ownsRow base 5 1 (.slice a n c) n zs) : n ≤ c := by
  rcases h.2 with ⟨hv, hn⟩ | ⟨g, cap, cur, hv, hb, hg, hc, hcm, hsz, htake⟩
  · omega
  · cases hv; omega
set_option maxHeartbeats 1000000 in
theorem spRead_at (s : ByteArray) (cs : List Int) (n : Nat) (w : World) (hs : s = strOfNums cs) (hf : ∀ z ∈ cs, Fits8 z) (hl : cs.length = n) (hn : n ≤ 100000) :
    Calls Tryd.prog 48 #[.string s] w fun e w' => ∃ a m c, e = .returned (.tuple #[.slice a m c, .int .u16 (readE cs)]) ∧ BIn w' a m (readI cs) ∧ (a = none → m = 0 ∧ c = 0) ∧ m ≤ c ∧ Below w.heap.size w w' := by
  obtain ⟨i0, hi0, hz0, hz1, hz2⟩ := info_parts Tryd.zero_u8
  obtain ⟨q, hq⟩ : ∃ q, q = w.heap.size := ⟨_, rfl⟩
  have hsz : s.size = n := by rw [hs, strOfNums_size, hl]
  have H : Hid (s = strOfNums cs ∧ (∀ z ∈ cs, Fits8 z) ∧ cs.length = n ∧ q = w.heap.size ∧ Tryd.prog.info? 5 = some i0 ∧ i0.zero = some (.int .u8 0) ∧ i0.size = 1 ∧ i0.bytes = 1) := ⟨hs, hf, hl, hq, hi0, hz0, hz1, hz2⟩
  rw [← hq]
  clear hs hf hl hi0 hz0 hz1 hz2
  go_enter Tryd.func48, Tryd.ntmps48
  go_upto_region 3 with (at_make; refine wpList_make_own w rfl _ (.tmp 13) 22 rfl q 5 i0 (.int .u8 0) 1 Tryd.underlying22 H.out.2.2.2.2.1 H.out.2.2.2.2.2.1 H.out.2.2.2.2.2.2.1 .i64 .i64 _ (n * 5 / 8) rfl rfl (by omega) (by rw [H.out.2.2.2.2.2.2.2]; omega) (by unfold maxLen; omega) (by rw [H.out.2.2.2.1]; exact Nat.le_refl _) ?_; intro w1 ow1 gr1)
  have bl1 : Below q w w1 := (Below.refl _ _).grown gr1 (by rw [H.out.2.2.2.1]; exact Nat.le_refl _) (fun g hg => by cases hg)
  have H1 : Hid (w1.ownsRow q 5 1 (.slice (some ⟨w.heap.size, 0, none⟩) 0 (n * 5 / 8)) 0 (u8s []) ∧ Below q w w1) := ⟨ow1, bl1⟩
  rw [← hq] at H1 ⊢
  clear hq ow1 gr1 bl1
  go_wp2
  go_loopw [4, 5, 6, 17] (fun b h t i wr => ∃ (k : Nat) (a : Option Addr) (c : Nat), k ≤ n ∧ i = .int .i64 k ∧ Signs (cs.take k) ∧ b = .slice a (rdI (cs.take k)).out.length c ∧ h = .int .i64 (rdI (cs.take k)).held ∧ t = .int .i64 (rdI (cs.take k)).bits ∧ wr.ownsRow q 5 1 (.slice a (rdI (cs.take k)).out.length c) (rdI (cs.take k)).out.length (u8s (rdI (cs.take k)).out) ∧ Below q w wr)
    (fun _ _ _ i _ => n - (intOf i).toNat)
  case atStart => exact ⟨0, _, _, by omega, rfl, by intro z hz; simp at hz, rfl, rfl, rfl, H1.out.1, H1.out.2⟩
  case round =>
    obtain ⟨k, a, c, hk, rfl, hsg, rfl, rfl, rfl, ow, bl⟩ := hrel
    by_cases hlt : k < n
    · have hlt' : (k : Int) < n := by omega
      have hki : k < s.size := by rw [hsz]; exact hlt
      have hfit : Fit 5 ((cs.take k).map valI) := hsg.fit
      have ok := rdN_all hfit
      obtain ⟨R, hR⟩ : ∃ R, R = rdI (cs.take k) := ⟨_, rfl⟩
      rw [← hR] at ow ⊢
      unfold rdI at hR
      rw [← hR] at ok
      obtain ⟨O, h, t⟩ := R
      dsimp only at ow ok ⊢
      have e1 : 8 * O.length + t = 5 * k := by have := ok.1; rw [List.length_map, List.length_take, Nat.min_eq_left (by rw [H.out.2.2.1]; omega)] at this; exact this
      have ht : t < 8 := ok.2.1
      have hh0 : 0 ≤ h := (ok.small (bitOf_bit _ _)).1
      have hh2 : h < 128 := (ok.small (bitOf_bit _ _)).2.2
      have hol : O.length ≤ n := by omega
      have HK : Hid (Signs (cs.take k) ∧ (⟨O, h, t⟩ : Rd) = rdI (cs.take k) ∧ Fit 8 O ∧ wr.ownsRow q 5 1 (.slice a O.length c) O.length (u8s O) ∧ Below q w wr ∧ 8 * O.length + t = 5 * k) := ⟨hsg, hR, ok.fit (bitOf_bit _ _), ow, bl, e1⟩
      have hcv : ((s[k]'hki).toNat : Int) = cs.getD k 0 := by
        have := str_at H.out.2.1 k (by rw [← H.out.1]; exact hki)
        rw [← this]; congr 3; exact H.out.1
      clear hsg hfit ok ow bl e1 hR
      obtain ⟨C, hC⟩ : ∃ C : Int, C = ((s[k]'hki).toNat : Int) := ⟨_, rfl⟩
      have hCf : Fits8 C := by rw [hC, hcv]; exact byte_fits H.out.2.1 k
      have HC : Hid (C = cs.getD k 0) := by rw [hC, hcv]; exact rfl
      clear hcv
      by_cases hsn : IsSign C
      · have cV := valueOf_good C wr hCf hsn
        have hv := val_fits hsn
        obtain ⟨v, hv'⟩ : ∃ v, v = valI C := ⟨_, rfl⟩
        rw [← hv'] at cV hv
        obtain ⟨hv0, hv1⟩ := hv
        have hor := join_held hh0 hh2 hv0 hv1
        obtain ⟨G, hG⟩ : ∃ G, G = h * 32 + v := ⟨_, rfl⟩
        rw [← hG] at hor
        have hG0 : 0 ≤ G := by omega
        have hG1 : G < 4096 := by omega
        have HV : Hid (v = valI C ∧ G = h * 32 + v ∧ IsSign C) := ⟨hv', hG, hsn⟩
        clear hv' hG hsn
        rw [hC] at cV
        by_cases ht3 : t < 3
        · have ht3' : (t : Int) < 3 := by omega
          go_wp2_with fail
          refine cV.mono ?_
          rintro e wr ⟨rfl, rfl⟩
          go_wp2
          go_roundw
          case rel =>
            obtain ⟨hs1, hs2⟩ := rd_next HK.out.1 (by rw [H.out.2.2.1]; exact hlt) HC.out HV.out.2.2
            rw [← HK.out.2.1, ← HV.out.1, rdStep, if_neg (by show ¬ 3 ≤ t; omega)] at hs2
            dsimp only at hs2
            rw [← HV.out.2.1] at hs2
            exact ⟨k + 1, a, c, by omega, by go_num, hs1, by rw [hs2], by rw [hs2], by rw [hs2]; go_num, by rw [hs2]; exact HK.out.2.2.2.1, HK.out.2.2.2.2.1⟩
          case measure => simp [intOf]; omega
        · obtain ⟨u, rfl⟩ : ∃ u, t = u + 3 := ⟨t - 3, by omega⟩
          have hqs : q ≤ wr.heap.size := by have := HK.out.2.2.2.2.1.size; rw [H.out.2.2.2.1] at *; exact this
          go_wp2_with fail
          refine cV.mono ?_
          rintro e wr ⟨rfl, rfl⟩
          go_wp2_with (at_builtin; refine wpList_append_bin rfl (.tmp 40) (.tmp 45) rfl q a O.length c O rfl (HK.out.2.2.2.1.alloc _) (some ⟨wr.heap.size, 0, none⟩) 1 1 [G / 2 ^ u % 256] rfl (new_bin rfl rfl rfl (one_fits _) (by unfold maxLen; omega)) (fun h => by cases h) (by omega) (by simp; omega) ?_; intro a' c' W ow' bl')
          go_roundw
          case rel =>
            obtain ⟨hs1, hs2⟩ := rd_next HK.out.1 (by rw [H.out.2.2.1]; exact hlt) HC.out HV.out.2.2
            rw [← HK.out.2.1, ← HV.out.1, rdStep, if_pos (by show 3 ≤ u + 3; omega)] at hs2
            dsimp only at hs2
            rw [← HV.out.2.1, show u + 3 - 3 = u by omega] at hs2
            have hb : G / 2 ^ u % 256 = G / 2 ^ u := by
              have hf := (rdN_all hs1.fit).fit (bitOf_bit _ _)
              unfold rdI at hs2
              rw [hs2] at hf
              have := hf (G / 2 ^ u) (by simp)
              exact Int.emod_eq_of_lt this.1 this.2
            rw [hb] at ow'
            have hbl : Below q w W := (HK.out.2.2.2.2.1.alloc hqs _).trans bl'
            refine ⟨k + 1, a', c', by omega, by go_num, hs1, by rw [hs2]; simp, by rw [hs2, mask_held hG0 hG1 (by omega)], by rw [hs2]; go_num, ?_, hbl⟩
            rw [hs2]
            simpa using ow'
          case measure => simp [intOf]; omega
      · have cV := valueOf_bad C wr hCf hsn
        rw [hC] at cV
        have HN : Hid (¬ Reads cs) := by
          have : ¬ Reads cs := fun hr => hsn (hr.1 C (by rw [HC.out]; have hk' : k < cs.length := (by rw [H.out.2.2.1]; exact hlt); simp [List.getD, hk']))
          exact this
        clear hsn
        go_wp2_with fail
        refine cV.mono ?_
        rintro e wr ⟨rfl, rfl⟩
        go_wp2
        go_ret2
        exact ⟨none, 0, 0, by unfold readE; rw [if_neg HN.out]; rfl, by unfold readI; rw [if_neg HN.out]; exact bin_none _, fun _ => ⟨rfl, rfl⟩, Nat.le_refl _, HK.out.2.2.2.2.1⟩
    · have hge : (n : Int) ≤ k := by omega
      have hT : cs.take k = cs := List.take_of_length_le (by rw [H.out.2.2.1]; omega)
      rw [hT] at hsg ow ⊢
      have ok := rdN_all hsg.fit
      obtain ⟨R, hR⟩ : ∃ R, R = rdI cs := ⟨_, rfl⟩
      rw [← hR] at ow ⊢
      unfold rdI at hR
      rw [← hR] at ok
      have hfit := ok.fit (bitOf_bit _ _)
      have hlen := ok.1
      rw [List.length_map, H.out.2.2.1] at hlen
      have hsm := (ok.small (bitOf_bit _ _)).1
      have hb8 := ok.2.1
      obtain ⟨O, h, t⟩ := R
      dsimp only at ow hfit hlen hsm hb8 ⊢
      have HK : Hid (Signs cs ∧ (⟨O, h, t⟩ : Rd) = rdI cs ∧ Fit 8 O ∧ wr.ownsRow q 5 1 (.slice a O.length c) O.length (u8s O) ∧ Below q w wr ∧ O.length ≤ n) := ⟨hsg, hR, hfit, ow, bl, by omega⟩
      clear hsg hT ok hfit hlen hR ow bl
      by_cases ht5 : t < 5
      · have ht5' : (t : Int) < 5 := by omega
        by_cases hh : h = 0
        · have HG : Hid (Reads cs) := ⟨HK.out.1, by rw [← HK.out.2.1]; exact ⟨ht5, hh⟩⟩
          go_wp2
          go_ret2
          refine ⟨a, O.length, c, by unfold readE; rw [if_pos HG.out]; rfl, ?_, own_nil HK.out.2.2.2.1, own_capB HK.out.2.2.2.1, HK.out.2.2.2.2.1⟩
          unfold readI
          rw [if_pos HG.out, ← HK.out.2.1]
          exact own_bin HK.out.2.2.2.1 (by have := HK.out.2.2.2.2.2; unfold maxLen; omega) HK.out.2.2.1
        · have HN : Hid (¬ Reads cs) := by
            have : ¬ Reads cs := fun hr => by have := hr.2; rw [← HK.out.2.1] at this; exact hh this.2
            exact this
          go_wp2
          · go_ret2
            exact ⟨none, 0, 0, by unfold readE; rw [if_neg HN.out]; rfl, by unfold readI; rw [if_neg HN.out]; exact bin_none _, fun _ => ⟨rfl, rfl⟩, Nat.le_refl _, HK.out.2.2.2.2.1⟩
          · rename_i hx
            exact absurd (by simpa using hx.2) hh
      · have ht5' : (5 : Int) ≤ t := by omega
        have HN : Hid (¬ Reads cs) := by
          have : ¬ Reads cs := fun hr => by have := hr.2; rw [← HK.out.2.1] at this; exact ht5 this.1
          exact this
        go_wp2
        · go_ret2
          exact ⟨none, 0, 0, by unfold readE; rw [if_neg HN.out]; rfl, by unfold readI; rw [if_neg HN.out]; exact bin_none _, fun _ => ⟨rfl, rfl⟩, Nat.le_refl _, HK.out.2.2.2.2.1⟩
theorem spRead_of (s : ByteArray) (cs : List Int) (n : Nat) (w : World) (hs : s = strOfNums cs) (hf : ∀ z ∈ cs, Fits8 z) (hl : cs.length = n) (hn : n ≤ 100000) :
    Calls Tryd.prog 48 #[.string s] w fun e w' => ∃ a m c, e = .returned (.tuple #[.slice a m c, .int .u16 (readE cs)]) ∧ BIn w' a m (readI cs) ∧ (a = none → m = 0 ∧ c = 0) ∧ Below w.heap.size w w' := by
  refine (spRead_at s cs n w hs hf hl hn).mono ?_
  rintro e w' ⟨a, m, c, he, h1, h2, _, h3⟩
  exact ⟨a, m, c, he, h1, h2, h3⟩
end Go.Proofs.YtpliokkmiijieaaDoor
