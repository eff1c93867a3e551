/- RecTorn holds: a record that is zero from one of its bytes on is none; data that are zero from one byte on and are not the same are data that Check refuses, and Ends says less of them. -/
import Derived.Test.YtggeadjebkhomabRows
import Derived.Test.YtggeadjebkhomabRcMore
import Derived.WalkKit
import Derived.ProofKit
import Derived.OpenShut
import Derived.ShutString
import Derived.ChangeOld
import Derived.Below
namespace Go.Proofs.Ytggeadjebkhomab.recTorn
open Go.ChangeShapes Go.WideShapes Go.ChangeAt Go.RowKit
open Go.ChangeMaps (open_string shut_string)
set_option linter.unusedVariables false

theorem own : ownKnob Try.prog.godebug = none := by kernel_rfl
theorem laidOut : laidOutB Try.prog = true := by kernel_rfl

theorem at_set {L : List Int} {i j : Nat} {v : Int} : (L.set i v).getD j 0 = if i = j ∧ i < L.length then v else L.getD j 0 := by
  simp only [List.getD]
  by_cases e : i = j
  · subst e
    by_cases h : i < L.length
    · rw [List.getElem?_set_self h, if_pos ⟨rfl, h⟩]; rfl
    · rw [List.set_eq_of_length_le (by omega), if_neg (fun k => h k.2)]
  · rw [List.getElem?_set_ne e, if_neg (fun k => e k.1)]
theorem u8s_set (L : List Int) (i : Nat) (v : Int) : (u8s L).set i (.int .u8 v) = u8s (L.set i v) := by simp [u8s, List.map_set]
theorem fits_set {L : List Int} (h : ∀ z ∈ L, Fits8 z) (i : Nat) : ∀ z ∈ L.set i 0, Fits8 z := by
  intro z hz
  rcases List.mem_or_eq_of_mem_set hz with h1 | h1
  · exact h z h1
  · rw [h1]; unfold Fits8; omega
/-- Data whose end is torn off. -/
structure TornTo (z T : List Int) (a i : Nat) (S : Bool) : Prop where
  len : T.length = z.length
  fits : ∀ y ∈ T, Fits8 y
  ahead : ∀ j, i ≤ j → T.getD j 0 = z.getD j 0
  zero : ∀ j, a ≤ j → j < i → T.getD j 0 = 0
  same : S = true ↔ ∀ j, a ≤ j → j < i → z.getD j 0 = 0
theorem TornTo.next {z T : List Int} {a i : Nat} {S : Bool} (h : TornTo z T a i S) (hi : i < z.length) (ha : a ≤ i) : TornTo z (T.set i 0) a (i + 1) (S && (T.getD i 0 == 0)) := by
  have hl := h.len
  refine ⟨by simp [hl], fits_set h.fits i, fun j hj => ?_, fun j h1 h2 => ?_, ?_⟩
  · rw [at_set, if_neg (by omega)]; exact h.ahead j (by omega)
  · rw [at_set]
    split
    · rfl
    · exact h.zero j h1 (by omega)
  · have e := h.ahead i (Nat.le_refl _)
    rw [Bool.and_eq_true, h.same, beq_iff_eq, e]
    constructor
    · rintro ⟨h1, h2⟩ j h3 h4
      rcases Nat.lt_or_ge j i with h | h
      · exact h1 j h3 h
      · obtain rfl : j = i := by omega
        exact h2
    · intro h1
      exact ⟨fun j h3 h4 => h1 j h3 (by omega), h1 i ha (by omega)⟩
theorem TornTo.ends {z T : List Int} {a : Nat} (h : TornTo z T a z.length false) : endsN T < endsN z := by
  have hs : ¬ ∀ j, a ≤ j → j < z.length → z.getD j 0 = 0 := fun k => by have := h.same.2 k; cases this
  have hex : ∃ j, a ≤ j ∧ j < z.length ∧ z.getD j 0 ≠ 0 := by
    apply Classical.byContradiction
    intro hn
    exact hs (fun j h1 h2 => Classical.byContradiction fun h3 => hn ⟨j, h1, h2, h3⟩)
  obtain ⟨j, h1, h2, h3⟩ := hex
  obtain ⟨a1, a2, a3⟩ := ends_at z
  obtain ⟨b1, b2, b3⟩ := ends_at T
  have hj : j < endsN z := by
    rcases Nat.lt_or_ge j (endsN z) with h | h
    · exact h
    · exact (h3 (a2 j h)).elim
  have ha : endsN T ≤ a := by
    rcases b3 with b3 | b3
    · omega
    · rcases Nat.lt_or_ge a (endsN T) with h' | h'
      · exact (b3 (h.zero (endsN T - 1) (by omega) (by have := h.len; omega))).elim
      · exact h'
  omega
set_option maxHeartbeats 8000000 in
theorem walk (s0 : Int) (A0 : Option Addr) (n0 C0 : Nat) (x0 : List It) (a1 : Int) (a2 : Option Addr) (len2 cap2 : Nat) (z2 : List Int) (a3 : Int) (w : World) (w0 : FitsU s0 ∧ ItsIn w A0 n0 x0 ∧ n0 ≤ C0 ∧ (A0 = none → n0 = 0 ∧ C0 = 0)) (w1 : (Lit.int .u8 a1).wf = true) (w2 : BIn w a2 len2 z2 ∧ len2 ≤ cap2 ∧ (a2 = none → len2 = 0 ∧ cap2 = 0)) (w3 : (Lit.int .i64 a3).wf = true) :
    Calls Try.prog 4 #[.agg #[.int .u64 s0, .slice A0 n0 C0], .int .u8 a1, .slice a2 len2 cap2, .int .i64 a3] w fun e w' => e = .returned (.bool true) ∧ Below w.heap.size w w' := by
  have hP := bounds_u8 w1
  obtain ⟨p, hp⟩ : ∃ p : Nat, a1 % 7 = p := ⟨(a1 % 7).toNat, by omega⟩
  have hp7 : p < 7 := by omega
  have htm : Int.tmod a1 7 = (p : Int) := by rw [Int.tmod_eq_emod_of_nonneg (by omega)]; exact hp
  obtain ⟨N, hN⟩ : ∃ N, N = 64 * 2 ^ p := ⟨_, rfl⟩
  have hsh : wrap64 (64 * 2 ^ p) = (N : Int) := by rw [hN]; exact shl_pow ⟨p, hp7⟩
  have hmem : (N : Int) ∈ PowR := by rw [hN]; exact shl_mem ⟨p, hp7⟩
  have hNb := pow_bounds hmem
  obtain ⟨M, hM⟩ : ∃ M : Nat, (if a3 < 0 then 0 else a3) = (M : Int) := ⟨(if a3 < 0 then 0 else a3).toNat, by split <;> omega⟩
  obtain ⟨t, ht⟩ : ∃ t, t = M % N := ⟨_, rfl⟩
  have htN : t < N := by rw [ht]; exact Nat.mod_lt _ (by omega)
  have htt : Int.tmod (M : Int) (N : Int) = (t : Int) := by rw [ht, Int.tmod_eq_emod_of_nonneg (by omega)]; omega
  obtain ⟨u, hu⟩ : ∃ u, u = M % (len2 + 1) := ⟨_, rfl⟩
  have huL : u ≤ len2 := by have := Nat.mod_lt M (show 0 < len2 + 1 by omega); omega
  have huu : Int.tmod (M : Int) ((len2 : Int) + 1) = (u : Int) := by rw [hu, Int.tmod_eq_emod_of_nonneg (by omega)]; exact (Int.natCast_emod M (len2 + 1)).symm
  obtain ⟨q, hq⟩ : ∃ q, q = w.heap.size := ⟨_, rfl⟩
  have kb : Blk (w.alloc (.cells #[.int .u64 s0, .slice A0 n0 C0] 27)) q [.int .u64 s0, .slice A0 n0 C0] 27 := Blk.new' hq.symm rfl
  have bw : Below w.heap.size w (w.alloc (.cells #[.int .u64 s0, .slice A0 n0 C0] 27)) := (Below.refl _ _).alloc (Nat.le_refl _) _
  have H : Hid (FitsU s0 ∧ ItsIn w A0 n0 x0 ∧ t < N ∧ 64 ≤ N ∧ N ≤ 4096 ∧ u ≤ len2) := ⟨w0.1, w0.2.1, htN, by omega, by omega, huL⟩
  have HD : Hid (BIn w a2 len2 z2 ∧ (a2 = none → len2 = 0 ∧ cap2 = 0)) := ⟨w2.1, w2.2.2⟩
  have HU : Hid (Int.tmod (M : Int) ((len2 : Int) + 1) = (u : Int)) := huu
  clear w0 w1 w2 w3 hP hp hN hmem hNb ht htN hu huL
  go_enter Try.func4, Try.ntmps4
  go_upto_region 2 with fail
  rw [← hq, hsh]
  generalize hW : World.alloc w _ = W at kb bw ⊢
  have HW : Hid (Blk W q [.int .u64 s0, .slice A0 n0 C0] 27 ∧ Below w.heap.size w W) := ⟨kb, bw⟩
  have c1 : W.cell? ⟨q, 1, none⟩ = some (.slice A0 n0 C0) := kb.cell 1
  clear kb bw hW hsh htm hq
  by_cases hl : 300 < n0
  · have hl' : (300 : Int) < n0 := by omega
    clear hM htt huu
    go_wp2_with (go_at_call 6; refine (cknown_any _).mono ?_; rintro e W1 ⟨rfl, b1⟩)
    go_ret
    exact ⟨rfl, HW.out.2.trans (b1.mono HW.out.2.size)⟩
  by_cases hl2 : 5000 < len2
  · have hl' : (n0 : Int) ≤ 300 := by omega
    have hl2' : (5000 : Int) < len2 := by omega
    clear hM htt huu hl
    go_wp2_with (go_at_call 6; refine (cknown_any _).mono ?_; rintro e W1 ⟨rfl, b1⟩)
    go_ret
    exact ⟨rfl, HW.out.2.trans (b1.mono HW.out.2.size)⟩
  · have hl' : (n0 : Int) ≤ 300 := by omega
    have hl2' : (len2 : Int) ≤ 5000 := by omega
    have HL : Hid (len2 ≤ 5000) := show len2 ≤ 5000 by omega
    clear hl hl2
    go_upto_region 4 with (go_at_call 6; refine (cknown_any _).mono ?_; rintro e W1 ⟨rfl, b1⟩)
    have kb1 := HW.out.1.below b1 HW.out.1.lt
    have H1 : Hid (Blk W1 q [.int .u64 s0, .slice A0 n0 C0] 27 ∧ Below w.heap.size w W1) := ⟨kb1, HW.out.2.trans (b1.mono HW.out.2.size)⟩
    have d0 : W1.cell? ⟨q, 0, none⟩ = some (.int .u64 s0) := kb1.cell 0
    have d1 : W1.cell? ⟨q, 1, none⟩ = some (.slice A0 n0 C0) := kb1.cell 1
    clear kb1 b1 c1
    go_wp2_with fail
    refine (encode_of s0 A0 n0 C0 x0 (N : Int) W1 H.out.1 (H.out.2.1.below H1.out.2)).mono ?_
    rintro e W2 ⟨A, n, C, rfl, ow, b2, rfl⟩
    have hb2 := H1.out.2.trans (b2.mono H1.out.2.size)
    by_cases hg : GoodR x0 (N : Int)
    · have e1 : encE x0 (N : Int) = 0 := by unfold encE; rw [if_pos hg]
      have e2 : encB s0 x0 (N : Int) = encL s0 x0 N := by unfold encB; rw [if_pos hg, Int.toNat_natCast]
      rw [e1]
      rw [e2] at ow
      have hlen : (encL s0 x0 N).length = N := enc_length (by have := hg.bounds; omega)
      have hfit : ∀ z ∈ encL s0 x0 N, Fits8 z := enc_fits _ _ _
      obtain rfl : C = N := by have := ow.1; rw [u8s_length, hlen] at this; omega
      obtain ⟨g, hA, hgB⟩ : ∃ g, A = some ⟨g, 0, none⟩ ∧ W1.heap.size ≤ g := by
        rcases ow.2 with ⟨_, hz⟩ | ⟨g, cap, cur, hv, hbg, _⟩
        · have := H.out; omega
        · cases hv; exact ⟨g, rfl, hbg⟩
      subst hA
      have kg := own_full ow
      have HG : Hid (Blk W2 g (u8s (encL s0 x0 C)) 5 ∧ (∀ z ∈ encL s0 x0 C, Fits8 z) ∧ (encL s0 x0 C).length = C ∧ w.heap.size ≤ g ∧ Below w.heap.size w W2) := ⟨kg, hfit, hlen, by have := H1.out.2.size; omega, hb2⟩
      have hC0 : ¬ (C : Int) = 0 := by have := H.out; omega
      clear e1 e2 ow kg hfit hlen hgB hb2 hg b2 d0 d1 huu
      go_wp2
      go_loopw [12] (fun x wr => ∃ (i : Nat) (L : List Int), x = .int .i64 i ∧ t ≤ i ∧ i ≤ C ∧ L.length = C ∧ (∀ z ∈ L, Fits8 z) ∧ Blk wr g (u8s L) 5 ∧ Below w.heap.size w wr ∧ (i = t ∨ L.getD (i - 1) 0 = 0)) (fun x _ => C - (intOf x).toNat)
      case atStart => exact ⟨t, _, rfl, Nat.le_refl _, by have := H.out; omega, HG.out.2.2.1, HG.out.2.1, HG.out.1, HG.out.2.2.2.2, .inl rfl⟩
      case round =>
        obtain ⟨i, L, rfl, hti, hi, hlen, hfit, kg, bl, hz⟩ := hrel
        rcases Nat.lt_or_ge i C with hlt | hge
        · have hi' : (i : Int) < C := by omega
          have hwi : IntKind.i64.wrap ((i : Int) + 1) = (i : Int) + 1 := by have := H.out; rw [IntKind.wrap_i64]; omega
          have c0 : wr.cell? ⟨g, i, none⟩ = some (.int .u8 (L.getD i 0)) := by rw [kg.cell]; simp [u8s, List.getD, hlen, hlt]
          have f0 := kg.frozen i
          have HZ : Hid (L.length = C ∧ (∀ z ∈ L.set i 0, Fits8 z) ∧ Blk (wr.setCell ⟨g, i, none⟩ (.int .u8 0)) g (u8s (L.set i 0)) 5 ∧ Below w.heap.size w (wr.setCell ⟨g, i, none⟩ (.int .u8 0))) := ⟨hlen, fits_set hfit i, by rw [← u8s_set]; exact kg.set i _, bl.setCell (p := ⟨g, i, none⟩) HG.out.2.2.2.1 _⟩
          clear hlen hfit kg bl hz hM htt
          go_wp2
          go_roundw
          case rel => exact ⟨i + 1, L.set i 0, by simp, by omega, by omega, by rw [List.length_set]; exact HZ.out.1, HZ.out.2.1, HZ.out.2.2.1, HZ.out.2.2.2, .inr (by rw [Nat.add_sub_cancel, at_set, if_pos ⟨rfl, by rw [HZ.out.1]; exact hlt⟩])⟩
          case measure => simp [intOf]; omega
        · obtain rfl : i = C := by omega
          have hlast : L.getD (i - 1) 0 = 0 := by rcases hz with h | h; (have := H.out; omega); exact h
          have hr : ¬ IsR L := fun h => by have := h.last; rw [hlen, hlast] at this; omega
          have hbin : BIn wr (some ⟨g, 0, none⟩) i L := ⟨hlen, by have := H.out; unfold maxLen; omega, hfit, .inr ⟨g, 0, rfl, fun j hj => by rw [Nat.zero_add, kg.cell]; simp [u8s, List.getD, hlen, hj]⟩⟩
          have HB : Hid (BIn wr (some ⟨g, 0, none⟩) i L ∧ Below w.heap.size w wr ∧ decE L = 111) := ⟨hbin, bl, by unfold decE; rw [if_neg hr]⟩
          clear hlen hfit kg bl hz hlast hr hbin
          go_wp2_with fail
          refine (decode_of (some ⟨g, 0, none⟩) i i L wr HB.out.1 (fun h => by cases h) (Nat.le_refl _) (by have := H.out; omega)).mono ?_
          rintro e W3 ⟨A3, m3, C3, rfl, _, b3⟩
          rw [HB.out.2.2]
          obtain ⟨S3, hS3⟩ : ∃ S3, S3 = decS L := ⟨_, rfl⟩
          rw [← hS3]
          clear hS3
          have hb3 := HB.out.2.1.trans (b3.mono HB.out.2.1.size)
          have b4 := hb3.alloc hb3.size (.cells #[.int .u64 S3, .slice A3 m3 C3] 27)
          clear hb3 b3
          go_upto_region 13 with fail
          generalize hWX : World.alloc W3 _ = WX at b4 ⊢
          have HX : Hid (Below w.heap.size w WX) := b4
          clear b4 hWX htt
          have huu : Int.tmod (M : Int) ((len2 : Int) + 1) = (u : Int) := HU.out
          go_upto_region 15 with (at_builtin; refine wpList_append_bin rfl (.tmp 65) (.tmp 66) rfl WX.heap.size none 0 0 [] rfl (World.ownsRow_nil _ _ _ _) a2 len2 cap2 z2 rfl (HD.out.1.below HX.out) HD.out.2 (by have := HL.out; omega) (Nat.le_refl _) ?_; intro a5 c5 w5 ow5 bl5)
          have ow6 : w5.ownsRow WX.heap.size 5 1 (.slice a5 len2 c5) len2 (u8s z2) := by simpa using ow5
          have H5 : Hid (w5.ownsRow WX.heap.size 5 1 (.slice a5 len2 c5) len2 (u8s z2) ∧ Below w.heap.size w w5) := ⟨ow6, HX.out.trans (bl5.mono HX.out.size)⟩
          have hw1 : IntKind.i64.wrap ((len2 : Int) + 1) = (len2 : Int) + 1 := by rw [IntKind.wrap_i64]; omega
          have hne : ¬ (len2 : Int) + 1 = 0 := by omega
          clear ow5 ow6 bl5
          go_wp2
          go_loopw [16, 17] (fun y x wr => ∃ (i : Nat) (T : List Int) (S : Bool), x = .int .i64 i ∧ y = .bool S ∧ u ≤ i ∧ i ≤ len2 ∧ TornTo z2 T u i S ∧ wr.ownsRow WX.heap.size 5 1 (.slice a5 len2 c5) len2 (u8s T) ∧ Below w.heap.size w wr) (fun _ x _ => len2 - (intOf x).toNat)
          case atStart => exact ⟨u, z2, true, rfl, rfl, Nat.le_refl _, H.out.2.2.2.2.2, ⟨rfl, HD.out.1.2.2.1, fun _ _ => rfl, fun j h1 h2 => by omega, by simp; intro j h1 h2; omega⟩, H5.out⟩
          case round =>
            obtain ⟨i, T, S, rfl, rfl, hui, hi, tt, ow, bl⟩ := hrel
            rcases Nat.lt_or_ge i len2 with hlt | hge
            · have hi' : (i : Int) < len2 := by omega
              obtain ⟨g5, hg5, hgB⟩ : ∃ g5, a5 = some ⟨g5, 0, none⟩ ∧ WX.heap.size ≤ g5 := by
                rcases ow.2 with ⟨_, hz⟩ | ⟨g, cap, cur, hv, hbg, _⟩
                · omega
                · cases hv; exact ⟨g, rfl, hbg⟩
              subst hg5
              have hTl : T.length = len2 := by rw [tt.len, HD.out.1.1]
              have c0 : wr.cell? ⟨g5, i, none⟩ = some (.int .u8 (T.getD i 0)) := by rw [ow.cellAt i (by omega)]; simp [u8s, List.getD, hTl, hlt]
              have f0 := ow.frozenAt i
              obtain ⟨s1, s2⟩ := ow.stored i (.int .u8 0)
              rw [u8s_set] at s1
              obtain ⟨v, hv⟩ : ∃ v, v = T.getD i 0 := ⟨_, rfl⟩
              have tn := tt.next (by rw [HD.out.1.1]; exact hlt) hui
              rw [← hv] at c0 tn
              have HZ : Hid (TornTo z2 (T.set i 0) u (i + 1) (S && (v == 0)) ∧ (wr.setCell ⟨g5, i, none⟩ (.int .u8 0)).ownsRow WX.heap.size 5 1 (.slice (some ⟨g5, 0, none⟩) len2 c5) len2 (u8s (T.set i 0)) ∧ Below w.heap.size w (wr.setCell ⟨g5, i, none⟩ (.int .u8 0))) := ⟨tn, s1, bl.setCell (p := ⟨g5, i, none⟩) (by show w.heap.size ≤ g5; have := HX.out.size; omega) _⟩
              clear tt ow bl s1 s2 tn hv hTl hgB huu hM hw1 hne
              cases S with
              | true =>
                go_wp2
                go_roundw
                case rel => exact ⟨i + 1, T.set i 0, _, by simp, rfl, by omega, by omega, HZ.out⟩
                case measure => simp [intOf]; omega
              | false =>
                go_wp2
                go_roundw
                case rel => exact ⟨i + 1, T.set i 0, _, by simp, rfl, by omega, by omega, HZ.out⟩
                case measure => simp [intOf]; omega
            · obtain rfl : i = len2 := by omega
              have hTl : T.length = i := by rw [tt.len, HD.out.1.1]
              have hbin := own_bin ow (by have := HL.out; unfold maxLen; omega) tt.fits
              have HB : Hid (TornTo z2 T u i S ∧ BIn wr a5 i T ∧ Below w.heap.size w wr) := ⟨tt, hbin, bl⟩
              have cE := fun V hV => ends_of a2 i cap2 z2 V hV
              have cT := fun V hV => ends_of a5 i c5 T V hV
              obtain ⟨E, hE⟩ : ∃ E, E = endsN z2 := ⟨_, rfl⟩
              obtain ⟨F, hF⟩ : ∃ F, F = endsN T := ⟨_, rfl⟩
              simp only [← hE] at cE
              simp only [← hF] at cT
              have hEl : E ≤ i := by rw [hE]; have := ends_le z2; rw [HD.out.1.1] at this; exact this
              have hwE : IntKind.u16.wrap (E : Int) = E := by have := HL.out; rw [IntKind.wrap_u16]; omega
              have hlt : S = false → F < E := fun h => by
                subst h
                rw [hE, hF]
                have := tt
                rw [← HD.out.1.1] at this
                exact this.ends
              have hck : S = false → checkB ⟨0, 0, 1, 0, E⟩ T = false := fun h => by
                unfold checkB
                rw [← hF]
                have := hlt h
                simp
                intro e
                omega
              have HS : Hid ((S = false → F < E) ∧ (S = false → checkB ⟨0, 0, 1, 0, E⟩ T = false) ∧ E ≤ i) := ⟨hlt, hck, hEl⟩
              clear tt ow bl hbin hE hF hEl hTl hlt hck huu hM hw1 hne
              go_wp2_with fail
              refine (cE wr (HD.out.1.below HB.out.2.2)).mono ?_
              rintro e w6 ⟨rfl, hw6⟩
              replace hw6 := hw6.symm
              subst hw6
              obtain ⟨q6, hq6⟩ : ∃ q6, q6 = wr.heap.size := ⟨_, rfl⟩
              have kb6 : Blk (wr.alloc (.cells #[.int .u32 0, .int .u64 0, .int .u8 1, .int .u32 0, .int .u16 (E : Int)] 38)) q6 [.int .u32 0, .int .u64 0, .int .u8 1, .int .u32 0, .int .u16 (E : Int)] 38 := Blk.new' hq6.symm rfl
              have b6 := HB.out.2.2.alloc HB.out.2.2.size (.cells #[.int .u32 0, .int .u64 0, .int .u8 1, .int .u32 0, .int .u16 (E : Int)] 38)
              have bin6 := HB.out.2.1.alloc (.cells #[.int .u32 0, .int .u64 0, .int .u8 1, .int .u32 0, .int .u16 (E : Int)] 38)
              go_upto_region 22 with fail
              rw [← hq6]
              generalize hW6 : World.alloc wr _ = W6 at kb6 b6 bin6 ⊢
              have H6 : Hid (Below w.heap.size w W6 ∧ BIn W6 a5 i T) := ⟨b6, bin6⟩
              have k0 : W6.cell? ⟨q6, 0, none⟩ = some (.int .u32 0) := kb6.cell 0
              have k1 : W6.cell? ⟨q6, 1, none⟩ = some (.int .u64 0) := kb6.cell 1
              have k2 : W6.cell? ⟨q6, 2, none⟩ = some (.int .u8 1) := kb6.cell 2
              have k3 : W6.cell? ⟨q6, 3, none⟩ = some (.int .u32 0) := kb6.cell 3
              have k4 : W6.cell? ⟨q6, 4, none⟩ = some (.int .u16 (E : Int)) := kb6.cell 4
              clear kb6 b6 bin6 hW6 hq6 hwE
              cases S with
              | true =>
                go_wp2
                go_ret
                exact ⟨rfl, H6.out.1⟩
              | false =>
                have hFE := HS.out.1 rfl
                have hFE' : (F : Int) < E := by omega
                have fit : It.Fits ⟨0, 0, 1, 0, (E : Int)⟩ := by
                  have := HS.out.2.2
                  have := HL.out
                  unfold It.Fits Fits32 FitsU Fits8 Fits16
                  refine ⟨⟨?_, ?_⟩, ⟨?_, ?_⟩, ⟨?_, ?_⟩, ⟨?_, ?_⟩, ⟨?_, ?_⟩⟩ <;> dsimp only <;> omega
                have hchk := fun a n c V hV => check_of ⟨0, 0, 1, 0, (E : Int)⟩ a n c T V fit hV
                clear fit
                go_wp2_with fail
                refine (hchk a5 i c5 W6 H6.out.2).mono ?_
                rintro e W7 ⟨rfl, b7⟩
                rw [HS.out.2.1 (by first | trivial | rfl)]
                have hb7 := H6.out.1.trans (b7.mono H6.out.1.size)
                have bT7 := H6.out.2.below b7
                have H7 : Hid (Below w.heap.size w W7 ∧ BIn W7 a5 i T) := ⟨hb7, bT7⟩
                clear hb7 bT7 b7 k0 k1 k2 k3 k4 hchk
                go_wp2_with fail
                refine (cT W7 H7.out.2).mono ?_
                rintro e W8 ⟨rfl, hw8⟩
                replace hw8 := hw8.symm
                subst hw8
                go_wp2_with fail
                refine (cE W7 (HD.out.1.below H7.out.1)).mono ?_
                rintro e W9 ⟨rfl, hw9⟩
                replace hw9 := hw9.symm
                subst hw9
                go_wp2
                go_ret
                exact ⟨rfl, H7.out.1⟩
    · have e1 : encE x0 (N : Int) = 110 := by unfold encE; rw [if_neg hg]
      rw [e1]
      have HX : Hid (Below w.heap.size w W2) := hb2
      clear e1 ow hb2 hg b2 d0 d1 htt
      obtain ⟨WX, hWX⟩ : ∃ WX, WX = W2 := ⟨_, rfl⟩
      rw [← hWX] at HX ⊢
      clear hWX
      go_upto_region 15 with (at_builtin; refine wpList_append_bin rfl (.tmp 65) (.tmp 66) rfl WX.heap.size none 0 0 [] rfl (World.ownsRow_nil _ _ _ _) a2 len2 cap2 z2 rfl (HD.out.1.below HX.out) HD.out.2 (by have := HL.out; omega) (Nat.le_refl _) ?_; intro a5 c5 w5 ow5 bl5)
      have ow6 : w5.ownsRow WX.heap.size 5 1 (.slice a5 len2 c5) len2 (u8s z2) := by simpa using ow5
      have H5 : Hid (w5.ownsRow WX.heap.size 5 1 (.slice a5 len2 c5) len2 (u8s z2) ∧ Below w.heap.size w w5) := ⟨ow6, HX.out.trans (bl5.mono HX.out.size)⟩
      have hw1 : IntKind.i64.wrap ((len2 : Int) + 1) = (len2 : Int) + 1 := by rw [IntKind.wrap_i64]; omega
      have hne : ¬ (len2 : Int) + 1 = 0 := by omega
      clear ow5 ow6 bl5
      go_wp2
      go_loopw [16, 17] (fun y x wr => ∃ (i : Nat) (T : List Int) (S : Bool), x = .int .i64 i ∧ y = .bool S ∧ u ≤ i ∧ i ≤ len2 ∧ TornTo z2 T u i S ∧ wr.ownsRow WX.heap.size 5 1 (.slice a5 len2 c5) len2 (u8s T) ∧ Below w.heap.size w wr) (fun _ x _ => len2 - (intOf x).toNat)
      case atStart => exact ⟨u, z2, true, rfl, rfl, Nat.le_refl _, H.out.2.2.2.2.2, ⟨rfl, HD.out.1.2.2.1, fun _ _ => rfl, fun j h1 h2 => by omega, by simp; intro j h1 h2; omega⟩, H5.out⟩
      case round =>
        obtain ⟨i, T, S, rfl, rfl, hui, hi, tt, ow, bl⟩ := hrel
        rcases Nat.lt_or_ge i len2 with hlt | hge
        · have hi' : (i : Int) < len2 := by omega
          obtain ⟨g5, hg5, hgB⟩ : ∃ g5, a5 = some ⟨g5, 0, none⟩ ∧ WX.heap.size ≤ g5 := by
            rcases ow.2 with ⟨_, hz⟩ | ⟨g, cap, cur, hv, hbg, _⟩
            · omega
            · cases hv; exact ⟨g, rfl, hbg⟩
          subst hg5
          have hTl : T.length = len2 := by rw [tt.len, HD.out.1.1]
          have c0 : wr.cell? ⟨g5, i, none⟩ = some (.int .u8 (T.getD i 0)) := by rw [ow.cellAt i (by omega)]; simp [u8s, List.getD, hTl, hlt]
          have f0 := ow.frozenAt i
          obtain ⟨s1, s2⟩ := ow.stored i (.int .u8 0)
          rw [u8s_set] at s1
          obtain ⟨v, hv⟩ : ∃ v, v = T.getD i 0 := ⟨_, rfl⟩
          have tn := tt.next (by rw [HD.out.1.1]; exact hlt) hui
          rw [← hv] at c0 tn
          have HZ : Hid (TornTo z2 (T.set i 0) u (i + 1) (S && (v == 0)) ∧ (wr.setCell ⟨g5, i, none⟩ (.int .u8 0)).ownsRow WX.heap.size 5 1 (.slice (some ⟨g5, 0, none⟩) len2 c5) len2 (u8s (T.set i 0)) ∧ Below w.heap.size w (wr.setCell ⟨g5, i, none⟩ (.int .u8 0))) := ⟨tn, s1, bl.setCell (p := ⟨g5, i, none⟩) (by show w.heap.size ≤ g5; have := HX.out.size; omega) _⟩
          clear tt ow bl s1 s2 tn hv hTl hgB huu hM hw1 hne
          cases S with
          | true =>
            go_wp2
            go_roundw
            case rel => exact ⟨i + 1, T.set i 0, _, by simp, rfl, by omega, by omega, HZ.out⟩
            case measure => simp [intOf]; omega
          | false =>
            go_wp2
            go_roundw
            case rel => exact ⟨i + 1, T.set i 0, _, by simp, rfl, by omega, by omega, HZ.out⟩
            case measure => simp [intOf]; omega
        · obtain rfl : i = len2 := by omega
          have hTl : T.length = i := by rw [tt.len, HD.out.1.1]
          have hbin := own_bin ow (by have := HL.out; unfold maxLen; omega) tt.fits
          have HB : Hid (TornTo z2 T u i S ∧ BIn wr a5 i T ∧ Below w.heap.size w wr) := ⟨tt, hbin, bl⟩
          have cE := fun V hV => ends_of a2 i cap2 z2 V hV
          have cT := fun V hV => ends_of a5 i c5 T V hV
          obtain ⟨E, hE⟩ : ∃ E, E = endsN z2 := ⟨_, rfl⟩
          obtain ⟨F, hF⟩ : ∃ F, F = endsN T := ⟨_, rfl⟩
          simp only [← hE] at cE
          simp only [← hF] at cT
          have hEl : E ≤ i := by rw [hE]; have := ends_le z2; rw [HD.out.1.1] at this; exact this
          have hwE : IntKind.u16.wrap (E : Int) = E := by have := HL.out; rw [IntKind.wrap_u16]; omega
          have hlt : S = false → F < E := fun h => by
            subst h
            rw [hE, hF]
            have := tt
            rw [← HD.out.1.1] at this
            exact this.ends
          have hck : S = false → checkB ⟨0, 0, 1, 0, E⟩ T = false := fun h => by
            unfold checkB
            rw [← hF]
            have := hlt h
            simp
            intro e
            omega
          have HS : Hid ((S = false → F < E) ∧ (S = false → checkB ⟨0, 0, 1, 0, E⟩ T = false) ∧ E ≤ i) := ⟨hlt, hck, hEl⟩
          clear tt ow bl hbin hE hF hEl hTl hlt hck huu hM hw1 hne
          go_wp2_with fail
          refine (cE wr (HD.out.1.below HB.out.2.2)).mono ?_
          rintro e w6 ⟨rfl, hw6⟩
          replace hw6 := hw6.symm
          subst hw6
          obtain ⟨q6, hq6⟩ : ∃ q6, q6 = wr.heap.size := ⟨_, rfl⟩
          have kb6 : Blk (wr.alloc (.cells #[.int .u32 0, .int .u64 0, .int .u8 1, .int .u32 0, .int .u16 (E : Int)] 38)) q6 [.int .u32 0, .int .u64 0, .int .u8 1, .int .u32 0, .int .u16 (E : Int)] 38 := Blk.new' hq6.symm rfl
          have b6 := HB.out.2.2.alloc HB.out.2.2.size (.cells #[.int .u32 0, .int .u64 0, .int .u8 1, .int .u32 0, .int .u16 (E : Int)] 38)
          have bin6 := HB.out.2.1.alloc (.cells #[.int .u32 0, .int .u64 0, .int .u8 1, .int .u32 0, .int .u16 (E : Int)] 38)
          go_upto_region 22 with fail
          rw [← hq6]
          generalize hW6 : World.alloc wr _ = W6 at kb6 b6 bin6 ⊢
          have H6 : Hid (Below w.heap.size w W6 ∧ BIn W6 a5 i T) := ⟨b6, bin6⟩
          have k0 : W6.cell? ⟨q6, 0, none⟩ = some (.int .u32 0) := kb6.cell 0
          have k1 : W6.cell? ⟨q6, 1, none⟩ = some (.int .u64 0) := kb6.cell 1
          have k2 : W6.cell? ⟨q6, 2, none⟩ = some (.int .u8 1) := kb6.cell 2
          have k3 : W6.cell? ⟨q6, 3, none⟩ = some (.int .u32 0) := kb6.cell 3
          have k4 : W6.cell? ⟨q6, 4, none⟩ = some (.int .u16 (E : Int)) := kb6.cell 4
          clear kb6 b6 bin6 hW6 hq6 hwE
          cases S with
          | true =>
            go_wp2
            go_ret
            exact ⟨rfl, H6.out.1⟩
          | false =>
            have hFE := HS.out.1 rfl
            have hFE' : (F : Int) < E := by omega
            have fit : It.Fits ⟨0, 0, 1, 0, (E : Int)⟩ := by
              have := HS.out.2.2
              have := HL.out
              unfold It.Fits Fits32 FitsU Fits8 Fits16
              refine ⟨⟨?_, ?_⟩, ⟨?_, ?_⟩, ⟨?_, ?_⟩, ⟨?_, ?_⟩, ⟨?_, ?_⟩⟩ <;> dsimp only <;> omega
            have hchk := fun a n c V hV => check_of ⟨0, 0, 1, 0, (E : Int)⟩ a n c T V fit hV
            clear fit
            go_wp2_with fail
            refine (hchk a5 i c5 W6 H6.out.2).mono ?_
            rintro e W7 ⟨rfl, b7⟩
            rw [HS.out.2.1 (by first | trivial | rfl)]
            have hb7 := H6.out.1.trans (b7.mono H6.out.1.size)
            have bT7 := H6.out.2.below b7
            have H7 : Hid (Below w.heap.size w W7 ∧ BIn W7 a5 i T) := ⟨hb7, bT7⟩
            clear hb7 bT7 b7 k0 k1 k2 k3 k4 hchk
            go_wp2_with fail
            refine (cT W7 H7.out.2).mono ?_
            rintro e W8 ⟨rfl, hw8⟩
            replace hw8 := hw8.symm
            subst hw8
            go_wp2_with fail
            refine (cE W7 (HD.out.1.below H7.out.1)).mono ?_
            rintro e W9 ⟨rfl, hw9⟩
            replace hw9 := hw9.symm
            subst hw9
            go_wp2
            go_ret
            exact ⟨rfl, H7.out.1⟩

set_option maxRecDepth 100000 in
theorem lifted (os : Os) (started : os.Started) (H : Type) (enc : TypeId × Value → H) :
    ReturnsInHanded {} Try.checked os 4 .any (Rows.recTornSpec.pre6 enc Try.prog Try.f4 Rows.recTornRow.domain false) (Rows.recTornSpec.post enc Try.prog Try.f4 false true false false) := by
  refine returnsInHanded_of_change (C := Try.checked) own started (by kernel_rfl) Try.func4
    (ChangeSpec.witness6 (enc := enc) (C := Try.checked) false ⟨#[], #[.agg #[.int .u64 0, .slice none 0 0], .int .u8 0, .slice none 0 0, .int .i64 0], []⟩ 8 (by kernel_rfl) (by kernel_rfl) (by kernel_rfl) (by kernel_rfl)) ?_
  intro W base args ds gs before hval0 hW hcnd _
  have hval : ∀ (j : Nat) t v, Try.f4.params[j]? = some t → args[j]? = some v → Value.okWide Try.prog W .any base t v := hval0
  have hW' := hW
  obtain ⟨p, q, hA0, hV, rfl, hfz, hnd⟩ := hW
  have hA : DataW.TrodAll enc Try.prog W 0 (fun _ => true) true Try.f4.params.toList args.toList ds p := hA0
  rw [Try.params4] at hA hval
  obtain ⟨v0, vs0, d0, ds0, p0, q0, hargs, rfl, rfl, h0, r0⟩ := trodAll_cons hA
  obtain ⟨v1, vs1, d1, ds1, p1, q1, rfl, rfl, rfl, h1, r1⟩ := trodAll_cons r0
  obtain ⟨v2, vs2, d2, ds2, p2, q2, rfl, rfl, rfl, h2, r2⟩ := trodAll_cons r1
  obtain ⟨v3, vs3, d3, ds3, p3, q3, rfl, rfl, rfl, h3, r3⟩ := trodAll_cons r2
  obtain ⟨rfl, rfl, rfl⟩ := trodAll_nil r3
  obtain rfl : args = #[v0, v1, v2, v3] := by cases args; simp_all
  obtain ⟨rfl, rfl⟩ := trodVars_none hV
  have k0 := h0
  have lt0 : ∀ x ∈ p0, x.block < W.heap.size := by obtain ⟨m, hm⟩ := k0; exact DataW.trod_lt m _ _ _ hm
  obtain ⟨s0, A0, n0, C0, x0, rfl, w0⟩ := open_record (hval 0 27 v0 rfl rfl) h0
  obtain ⟨a1, rfl, rfl, rfl, w1⟩ := open_int Try.underlying5 (hval 1 5 v1 rfl rfl) h1
  obtain ⟨a2, len2, cap2, rfl⟩ := okWide_slice Try.underlying23 (hval 2 23 v2 rfl rfl)
  have k2 := h2
  have lt2 : ∀ x ∈ p2, x.block < W.heap.size := by obtain ⟨m, hm⟩ := k2; exact DataW.trod_lt m _ _ _ hm
  obtain ⟨z2, w2⟩ := open_bytes h2
  obtain ⟨a3, rfl, rfl, rfl, w3⟩ := open_int Try.underlying3 (hval 3 3 v3 rfl rfl) h3
  clear hA0 hval0
  refine (walk s0 A0 n0 C0 x0 a1 a2 len2 cap2 z2 a3 W w0 w1 w2 w3).mono fun e W' ⟨he, bel⟩ => ?_
  subst he
  exact ⟨_, rfl, _, _, _, [], _, [], hW', trodAll_mk1 (shut_bool Try.underlying4 _), (trodAll_cons_mk (Below.trod laidOut (by kernel_rfl) (of_decide_eq_true (by kernel_rfl)) k0 bel lt0) (trodAll_cons_mk (shut_int Try.underlying5 w1) (trodAll_cons_mk (Below.trod laidOut (by kernel_rfl) (of_decide_eq_true (by kernel_rfl)) k2 bel lt2) (trodAll_cons_mk (shut_int Try.underlying3 w3) trodAll_mk0)))), rfl, bel.frame _, fun h => by cases h⟩

theorem over : Rows.recTornRow.holds Try.pinned (OpenSpec.ofChange Rows.recTornSpec) :=
  OpenClaim.holds_of_wide 4 Try.f4 rfl rfl rfl rfl rfl rfl rfl ⟨rfl, rfl, rfl, rfl, rfl⟩ rfl rfl rfl rfl rfl (by kernel_rfl) Try.func4 (by kernel_rfl)
    (of_decide_eq_true (by kernel_rfl)) (by unfold Func.isWrapper; first | (rw [if_pos (by decide +kernel)]; kernel_rfl) | (rw [if_neg (by decide +kernel)]; exact ⟨rfl, rfl⟩))
    (fun os started H enc _ => lifted os started H enc)

end Go.Proofs.Ytggeadjebkhomab.recTorn
namespace Go.Proofs.Ytggeadjebkhomab
/-- The statement. -/
theorem recTorn_holds : Rows.RecTornSaid := recTorn.over
#print axioms recTorn_holds
end Go.Proofs.Ytggeadjebkhomab
