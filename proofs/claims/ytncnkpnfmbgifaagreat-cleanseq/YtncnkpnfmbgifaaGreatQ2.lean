/- Texts of this seat, one behind the other: RcDocE. -/
import Derived.Test.YtncnkpnfmbgifaaGreatQ1
import Derived.Test.YtncnkpnfmbgifaaGreatP7
/- What one call of the document's own Encode does. -/
namespace Go.Proofs.YtncnkpnfmbgifaaGreat
open Go.RowKit
set_option linter.unusedVariables false
set_option maxRecDepth 4000

theorem cown_nil {w : World} {base : Nat} {a : Option Addr} {n c : Nat} {zs : List Value} (h : w.ownsRow base 5 1 (.slice a n c) n zs) : a = none → n = 0 ∧ c = 0 := by
 intro e
 subst e
 rcases h.2 with ⟨hv, hn⟩ | ⟨g, cap, cur, hv, _⟩
 ·cases hv; exact ⟨hn, rfl⟩
 ·cases hv
theorem page_of {seq : Int} {xs : List It} {N k : Nat} (h : N = 18 + 19 * xs.length + k + 1) : (headL seq xs ++ List.replicate k 0) ++ [231] = pageL seq xs N := by
 have e : N - 1 - (18 + 19 * xs.length) = k := by omega
 unfold pageL
 rw [e]
def DEnc (w : World) (seq : Int) (xs : List It) (b : Int) (e : Ending) (w' : World) : Prop :=
 ∃ A n C, e = .returned (.tuple #[.slice A n C, .int .i64 (encE xs b)]) ∧ w'.ownsRow w.heap.size 5 1 (.slice A n C) n (u8s (encB seq xs b)) ∧ Below w.heap.size w w'
theorem denc_no {w V : World} {seq : Int} {xs : List It} {b : Int} (h : Below w.heap.size w V) (hno : ¬ GoodR xs b) : DEnc w seq xs b (.returned (.tuple #[.slice none 0 0, .int .i64 110])) V := by
 refine ⟨none, 0, 0, ?_⟩
 unfold encE encB
 rw [if_neg hno, if_neg hno]
 exact ⟨rfl, World.ownsRow_nil _ _ _ _, h⟩
theorem head_next {seq : Int} {xs : List It} {n j : Nat} {x : It} (hx : xs[j]? = some x) : (hdB seq n ++ itsB (xs.take j)) ++ itB x = hdB seq n ++ itsB (xs.take (j + 1)) := by
 rw [List.take_add_one, hx, Option.toList_some, itsB_snoc, List.append_assoc]
set_option maxHeartbeats 4000000 in
theorem dEncode_of (seq : Int) (A : Option Addr) (n C : Nat) (xs : List It) (b : Int) (w : World) (hs : FitsU seq) (hi : ItsIn w A n xs) :
  Calls Tryz.prog 147 #[.agg #[.int .u64 seq, .slice A n C], .int .i64 b] w (DEnc w seq xs b) := by
 obtain ⟨q, hq⟩ : ∃ q, q = w.heap.size := ⟨_, rfl⟩
 have b0 : Blk (w.alloc (.cells #[.int .u64 seq, .slice A n C] 181)) q [.int .u64 seq, .slice A n C] 181 := Blk.new' hq.symm rfl
 have bw : Below w.heap.size w (w.alloc (.cells #[.int .u64 seq, .slice A n C] 181)) := (Below.refl _ _).alloc (Nat.le_refl _) _
 have hsz : (w.alloc (.cells #[.int .u64 seq, .slice A n C] 181)).heap.size = q + 1 := by simp [hq]
 go_enter Tryz.func147, Tryz.ntmps147
 go_upto_region 1 with fail
 rw [← hq]
 generalize hW : World.alloc w _ = W at b0 bw hsz ⊢
 have H : Hid (Blk W q [.int .u64 seq, .slice A n C] 181 ∧ Below w.heap.size w W ∧ W.heap.size = q + 1 ∧ FitsU seq ∧ ItsIn w A n xs ∧ q = w.heap.size) := ⟨b0, bw, hsz, hs, hi, hq⟩
 have c0 : W.cell? ⟨q, 0, none⟩ = some (.int .u64 seq) := b0.cell 0
 have c1 : W.cell? ⟨q, 1, none⟩ = some (.slice A n C) := b0.cell 1
 have g0 : ∀ o, (W.alloc o).cell? ⟨q, 0, none⟩ = some (.int .u64 seq) := fun o => (b0.alloc o).cell 0
 have g1 : ∀ o, (W.alloc o).cell? ⟨q, 1, none⟩ = some (.slice A n C) := fun o => (b0.alloc o).cell 1
 have hm := hi.2.1
 unfold maxLen at hm
 clear hW b0 bw hsz hs hi hq
 have cR := dRoom_of b W
 obtain ⟨R, hR⟩ : ∃ R, R = roomI b := ⟨_, rfl⟩
 rw [← hR] at cR
 by_cases hn0 : n = 0
 ·have HN : Hid (¬ GoodR xs b) := fun h => by have := h.1; have := H.out.2.2.2.2.1.1; omega
  subst hn0
  have z1 : ((0 : Int) == 0) = true := rfl
  have z2 : (((0 : Nat) : Int) == 0) = true := rfl
  clear hR
  go_wp2_with (go_at_call 144; refine cR.mono ?_; rintro e W1 ⟨rfl, hw1⟩; replace hw1 := hw1.symm; subst hw1)
  go_ret2
  exact denc_no H.out.2.1 HN.out
 have hn0' : ((n : Int) == 0) = false := by simp; omega
 have hn0d : (n == 0) = false := by simp [hn0]
 by_cases hnr : R < (n : Int)
 ·have HN : Hid (¬ GoodR xs b) := fun h => by have := h.2.1; have := H.out.2.2.2.2.1.1; omega
  have hnd : decide (R < (n : Int)) = true := by simp [hnr]
  clear hR
  go_wp2_with (go_at_call 144; refine cR.mono ?_; rintro e W1 ⟨rfl, hw1⟩; replace hw1 := hw1.symm; subst hw1)
  go_ret2
  exact denc_no H.out.2.1 HN.out
 have hnd : decide (R < (n : Int)) = false := by simp; omega
 have hrb := room_bounds (b := b) (by omega)
 have hpb := pow_bounds hrb.1
 obtain ⟨N, rfl⟩ : ∃ N : Nat, b = N := ⟨b.toNat, by omega⟩
 have HG : Hid (19 + 19 * n ≤ N ∧ 64 ≤ N ∧ N ≤ 4096 ∧ ((n : Int) ≤ roomI N) ∧ 0 < n ∧ n ≤ 214) := by
  have := room_le (N : Int)
  exact ⟨by omega, by omega, by omega, by omega, by omega, by omega⟩
 clear hR hrb hpb
 have hnw : IntKind.u64.wrap (n : Int) = n := by rw [IntKind.wrap_u64]; have := HG.out; omega
 go_upto_region 4 with (go_at_call 144; refine cR.mono ?_; rintro e W1 ⟨rfl, hw1⟩; replace hw1 := hw1.symm; subst hw1)
 clear hnr hnd hn0' hn0d hn0 cR
 have HL : Hid (∀ (X : World) (g : Nat), X.heap.size = g → NIn .u64 (X.alloc (.cells #[.int .u64 1129074503, .int .u64 0, .int .u64 seq, .int .u64 (n : Int)] 47)) (some ⟨g, 0, none⟩) 4 (hdV seq n)) := lit_hd H.out.2.2.2.1 (by have := HG.out; unfold FitsU; omega)
 go_wp2_with fail
 refine (refPack_of (some ⟨W.heap.size, 0, none⟩) 4 4 hdW (some ⟨W.heap.size + 1, 0, none⟩) 4 4 (hdV seq n) _ ((nin_hd rfl).alloc _) (HL.out _ _ (by simp)) (by omega) (by omega)).mono ?_
 rintro e w2 ⟨a2, k2, c2, rfl, hk2, ow2, b2⟩
 obtain rfl : k2 = 18 := by rw [hk2]; exact hdB_length seq n
 have hs1 := H.out.2.2.1
 have H2 : Hid (w2.ownsRow (q + 1) 5 1 (.slice a2 18 c2) 18 (u8s (hdB seq n ++ itsB (xs.take 0))) ∧ Below (q + 1) W w2) := by
  have e : hdB seq n ++ itsB (xs.take 0) = packL hdW (hdV seq n) := by simp [itsB, hdB]
  refine ⟨by rw [e]; exact own_lowerN ow2 (by simp; omega), ?_⟩
  exact (((Below.refl (q + 1) W).alloc (by omega) _).alloc (by simp; omega) _).trans (b2.mono (by simp; omega))
 clear hk2 ow2 b2 HL hnw c0 c1 g0 g1
 have HS : Hid (W.heap.size = q + 1) := hs1
 clear hs1
 go_wp2
 go_loopw [7, 8] (fun s i wr => ∃ (j : Nat) (a' : Option Addr) (c' : Nat), j ≤ n ∧ i = .int .i64 j ∧ s = .slice a' (18 + 19 * j : Nat) c' ∧ wr.ownsRow (q + 1) 5 1 (.slice a' (18 + 19 * j) c') (18 + 19 * j) (u8s (hdB seq n ++ itsB (xs.take j))) ∧ Below (q + 1) W wr ∧ ∀ y ∈ xs.take j, RightI y) (fun _ i _ => n - (intOf i).toNat)
 case atStart => exact ⟨0, a2, c2, Nat.zero_le _, rfl, rfl, H2.out.1, H2.out.2, by simp⟩
 case round =>
  obtain ⟨j, a', c', hj, rfl, rfl, ow, bl, hri⟩ := hrel
  obtain ⟨K, hK⟩ : ∃ K, K = 18 + 19 * j := ⟨_, rfl⟩
  rw [← hK] at ow ⊢
  have hV1 : W.heap.size ≤ wr.heap.size := bl.size
  have hV2 := HS.out
  have blw : Below w.heap.size w wr := H.out.2.1.trans (bl.mono (by rw [← H.out.2.2.2.2.2]; omega))
  have rr := H.out.1.below bl (by omega)
  have c1 : wr.cell? ⟨q, 1, none⟩ = some (.slice A n C) := rr.cell 1
  have HK : Hid (K = 18 + 19 * j) := hK
  clear hK
  rcases Nat.lt_or_ge j n with hlt | hge
  ·obtain ⟨x, hx⟩ : ∃ x, xs[j]? = some x := ⟨xs[j]'(by have := H.out.2.2.2.2.1.1; omega), by simp⟩
   have hxf := H.out.2.2.2.2.1.2.2.1 x (List.mem_of_getElem? hx)
   obtain ⟨b', off, hA, hc⟩ := (H.out.2.2.2.2.1.below blw).2.2.2.resolve_left (by omega)
   subst hA
   have d0 : wr.cell? ⟨b', off + j * 5, none⟩ = some (.int .u32 x.t) := hc j x hx 0 _ rfl
   have d1 : wr.cell? ⟨b', off + j * 5 + 1, none⟩ = some (.int .u64 x.b) := hc j x hx 1 _ rfl
   have d2 : wr.cell? ⟨b', off + j * 5 + 2, none⟩ = some (.int .u8 x.k) := hc j x hx 2 _ rfl
   have d3 : wr.cell? ⟨b', off + j * 5 + 3, none⟩ = some (.int .u32 x.s) := hc j x hx 3 _ rfl
   have d4 : wr.cell? ⟨b', off + j * 5 + 4, none⟩ = some (.int .u16 x.e) := hc j x hx 4 _ rfl
   obtain ⟨qi, hqi⟩ : ∃ qi, qi = wr.heap.size := ⟨_, rfl⟩
   have kb : Blk (wr.alloc (.cells #[.int .u32 x.t, .int .u64 x.b, .int .u8 x.k, .int .u32 x.s, .int .u16 x.e] 183)) qi (itL x) 183 := Blk.new' hqi.symm rfl
   have ow7 := ow.alloc (.cells #[.int .u32 x.t, .int .u64 x.b, .int .u8 x.k, .int .u32 x.s, .int .u16 x.e] 183)
   have bl7 := bl.alloc (by omega : q + 1 ≤ wr.heap.size) (.cells #[.int .u32 x.t, .int .u64 x.b, .int .u8 x.k, .int .u32 x.s, .int .u16 x.e] 183)
   have blw7 := blw.alloc (by have := H.out.2.2.2.2.2; omega : w.heap.size ≤ wr.heap.size) (.cells #[.int .u32 x.t, .int .u64 x.b, .int .u8 x.k, .int .u32 x.s, .int .u16 x.e] 183)
   have hi' : (j : Int) < n := by omega
   have hwi : IntKind.i64.wrap ((j : Int) + 1) = (j : Int) + 1 := by have := HG.out; rw [IntKind.wrap_i64]; omega
   have HX : Hid (xs[j]? = some x ∧ x.Fits ∧ (∀ y ∈ xs.take j, RightI y) ∧ q + 1 ≤ wr.heap.size) := ⟨hx, hxf, hri, by omega⟩
   clear hx hxf hri hc ow bl blw hV1 hV2 rr
   go_upto_region 9 with fail
   rw [← hqi]
   have hsz7 : (wr.alloc (.cells #[.int .u32 x.t, .int .u64 x.b, .int .u8 x.k, .int .u32 x.s, .int .u16 x.e] 183)).heap.size = qi + 1 := by simp [hqi]
   generalize World.alloc wr _ = W7 at kb ow7 bl7 blw7 hsz7 ⊢
   have H7 : Hid (Blk W7 qi (itL x) 183 ∧ W7.ownsRow (q + 1) 5 1 (.slice a' K c') K (u8s (hdB seq n ++ itsB (xs.take j))) ∧ Below (q + 1) W W7 ∧ Below w.heap.size w W7 ∧ q + 1 ≤ W7.heap.size) := ⟨kb, ow7, bl7, blw7, by have := HX.out.2.2.2; omega⟩
   have k0 : W7.cell? ⟨qi, 0, none⟩ = some (.int .u32 x.t) := kb.cell 0
   have k1 : W7.cell? ⟨qi, 1, none⟩ = some (.int .u64 x.b) := kb.cell 1
   have k2 : W7.cell? ⟨qi, 2, none⟩ = some (.int .u8 x.k) := kb.cell 2
   have k3 : W7.cell? ⟨qi, 3, none⟩ = some (.int .u32 x.s) := kb.cell 3
   have k4 : W7.cell? ⟨qi, 4, none⟩ = some (.int .u16 x.e) := kb.cell 4
   have g0 : ∀ o, (W7.alloc o).cell? ⟨qi, 0, none⟩ = some (.int .u32 x.t) := fun o => (kb.alloc o).cell 0
   have g1 : ∀ o, (W7.alloc o).cell? ⟨qi, 1, none⟩ = some (.int .u64 x.b) := fun o => (kb.alloc o).cell 1
   have g2 : ∀ o, (W7.alloc o).cell? ⟨qi, 2, none⟩ = some (.int .u8 x.k) := fun o => (kb.alloc o).cell 2
   have g3 : ∀ o, (W7.alloc o).cell? ⟨qi, 3, none⟩ = some (.int .u32 x.s) := fun o => (kb.alloc o).cell 3
   have g4 : ∀ o, (W7.alloc o).cell? ⟨qi, 4, none⟩ = some (.int .u16 x.e) := fun o => (kb.alloc o).cell 4
   clear kb ow7 bl7 blw7 d0 d1 d2 d3 d4 hqi hsz7
   by_cases hr : RightI x
   ·have HR : Hid (RightI x) := hr
    obtain ⟨u0, u2, u3, u4⟩ : IntKind.u64.wrap x.t = x.t ∧ IntKind.u64.wrap x.k = x.k ∧ IntKind.u64.wrap x.s = x.s ∧ IntKind.u64.wrap x.e = x.e := by
     obtain ⟨f0, _, f2, f3, f4⟩ := HX.out.2.1
     unfold Fits32 at f0 f3
     unfold Fits8 at f2
     unfold Fits16 at f4
     simp only [IntKind.wrap_u64]
     omega
    have HL : Hid (∀ (X : World) (g : Nat), X.heap.size = g → NIn .u64 (X.alloc (.cells #[.int .u64 x.t, .int .u64 x.b, .int .u64 x.k, .int .u64 x.s, .int .u64 x.e] 47)) (some ⟨g, 0, none⟩) 5 (itV x)) := lit_it HX.out.2.1
    rcases hr with ⟨h1, h2⟩ | ⟨h1, h2, h3⟩
    have f1 : (x.k != 1) = false := by simp [h1]
    have f0 : decide (4096 < x.e) = false := by simp; omega
    clear h1 h2
    go_upto_region 11 with fail
    clear f1 f0
    rotate_left
    have f1 : (x.k != 1) = true := by simp [h1]
    have f2 : (x.k != 2) = false := by simp [h1]
    have f3 : (x.s != 0) = false := by simp [h2]
    have f4 : (x.e != 0) = false := by simp [h3]
    have f0 : decide (4096 < x.e) = false := by simp; omega
    clear h1 h2 h3
    go_upto_region 11 with fail
    clear f0 f1 f2 f3 f4
    all_goals (
     go_wp2_with fail
     refine (refPack_of (some ⟨W7.heap.size, 0, none⟩) 5 5 itW (some ⟨W7.heap.size + 1, 0, none⟩) 5 5 (itV x) _ ((nin_it rfl).alloc _) (HL.out _ _ (by simp)) (by omega) (by omega)).mono ?_
     rintro e w9 ⟨a9, k9, c9, rfl, hk9, ow9, b9⟩
     obtain rfl : k9 = 19 := by rw [hk9]; exact itB_length x
     have hbb := (((Below.refl W7.heap.size W7).alloc (Nat.le_refl _) _).alloc (by simp) _).trans (b9.mono (by simp; omega))
     have H9 : Hid (w9.ownsRow (q + 1) 5 1 (.slice a' K c') K (u8s (hdB seq n ++ itsB (xs.take j))) ∧ BIn w9 a9 19 (itB x) ∧ (a9 = none → 19 = 0 ∧ c9 = 0) ∧ Below (q + 1) W w9 ∧ q + 1 ≤ w9.heap.size) :=
      ⟨own_belowN H7.out.2.1 hbb (Nat.le_refl _), own_bin ow9 (by unfold maxLen; omega) (itB_fits x), cown_nil ow9, H7.out.2.2.1.trans (hbb.mono H7.out.2.2.2.2), by have := hbb.size; have := H7.out.2.2.2.2; omega⟩
     clear hk9 ow9 b9 hbb HL g0 g1 g2 g3 g4 k0 k1 k2 k3 k4 u0 u2 u3 u4
     go_wp2_with (at_builtin; refine wpList_append_bin rfl (.tmp 69) (.tmp 86) rfl (q + 1) a' K c' _ rfl H9.out.1 a9 19 c9 (itB x) rfl H9.out.2.1 H9.out.2.2.1 (by have := HG.out; have := HK.out; omega) H9.out.2.2.2.2 ?_; intro a3 c3 w3 ow3 bl3)
     go_roundw
     case rel =>
      rw [head_next HX.out.1] at ow3
      have e : K + 19 = 18 + 19 * (j + 1) := by have := HK.out; omega
      rw [e] at ow3
      refine ⟨j + 1, a3, c3, by omega, by simp, by rw [e], ow3, H9.out.2.2.2.1.trans bl3, ?_⟩
      intro y hy
      rw [List.take_add_one, HX.out.1] at hy
      rcases List.mem_append.1 hy with h | h
      ·exact HX.out.2.2.1 y h
      ·simp at h; rw [h]; exact HR.out
     case measure => simp [intOf]; omega)
   ·have HR : Hid (¬ RightI x) := hr
    have hbad : Hid (DEnc w seq xs (N : Int) (.returned (.tuple #[.slice none 0 0, .int .i64 110])) W7) := denc_no H7.out.2.2.2.1 (fun h => HR.out (h.2.2 x (List.mem_of_getElem? HX.out.1)))
    by_cases h0 : 4096 < x.e
    ·have f0 : decide (4096 < x.e) = true := by simp [h0]
     clear hr h0
     go_wp2
     go_ret2
     exact hbad.out
    have f0 : decide (4096 < x.e) = false := by simp; omega
    have h1 : x.k ≠ 1 := fun h => hr (.inl ⟨h, by omega⟩)
    have f1 : (x.k != 1) = true := by simp [h1]
    by_cases h2 : x.k = 2
    ·have f2 : (x.k != 2) = false := by simp [h2]
     by_cases h3 : x.s = 0
     ·have f3 : (x.s != 0) = false := by simp [h3]
      have f4 : (x.e != 0) = true := by simp; intro h; exact hr (.inr ⟨h2, h3, h⟩)
      clear hr h0 h1 h2 h3
      go_wp2
      go_ret2
      exact hbad.out
     ·have f3 : (x.s != 0) = true := by simp [h3]
      clear hr h0 h1 h2 h3
      go_wp2
      go_ret2
      exact hbad.out
    ·have f2 : (x.k != 2) = true := by simp [h2]
     clear hr h0 h1 h2
     go_wp2
     go_ret2
     exact hbad.out
  ·obtain rfl : j = n := by omega
   have hxl := H.out.2.2.2.2.1.1
   have hgood : GoodR xs (N : Int) := by
    refine ⟨by have := HG.out; omega, by have := HG.out; omega, fun y hy => hri y ?_⟩
    rw [List.take_of_length_le (by omega)]; exact hy
   have hhd : hdB seq j ++ itsB (xs.take j) = headL seq xs := by rw [List.take_of_length_le (by omega)]; unfold headL; rw [hxl]
   rw [hhd] at ow
   obtain ⟨M, hM⟩ : ∃ M, N = M + 1 := ⟨N - 1, by have := HG.out; omega⟩
   have hwM : IntKind.i64.wrap ((N : Int) - 1) = (M : Int) := by have := HG.out; rw [IntKind.wrap_i64]; omega
   have HZ : Hid (GoodR xs (N : Int) ∧ wr.ownsRow (q + 1) 5 1 (.slice a' K c') K (u8s (headL seq xs)) ∧ Below (q + 1) W wr ∧ K ≤ M ∧ N = M + 1 ∧ xs.length = j) := ⟨hgood, ow, bl, by have := HG.out; have := HK.out; omega, hM, hxl⟩
   clear hxl hgood hhd ow hM bl blw rr hri hV1 hV2
   go_wp2
   go_loopw [7] (fun s wr2 => ∃ (k : Nat) (a3 : Option Addr) (c3 : Nat), K + k ≤ M ∧ s = .slice a3 (K + k : Nat) c3 ∧ wr2.ownsRow (q + 1) 5 1 (.slice a3 (K + k) c3) (K + k) (u8s (headL seq xs ++ List.replicate k 0)) ∧ Below (q + 1) W wr2) (fun s _ => N - slLen s)
   case atStart => exact ⟨0, a', c', HZ.out.2.2.2.1, rfl, by simpa using HZ.out.2.1, HZ.out.2.2.1⟩
   case round =>
    obtain ⟨k, a3, c3, hk, rfl, ow, bl⟩ := hrel
    obtain ⟨P, hP⟩ : ∃ P, P = K + k := ⟨_, rfl⟩
    rw [← hP] at ow hk ⊢
    have HT : Hid (wr.ownsRow (q + 1) 5 1 (.slice a3 P c3) P (u8s (headL seq xs ++ List.replicate k 0)) ∧ Below (q + 1) W wr ∧ q + 1 ≤ wr.heap.size ∧ P = K + k) := ⟨ow, bl, by have := bl.size; have := HS.out; omega, hP⟩
    clear ow bl hP
    rcases Nat.lt_or_ge P M with hlt | hge
    ·have hlt' : (P : Int) < M := by omega
     go_wp2_with (at_builtin; refine wpList_append_bin rfl (.tmp 93) (.tmp 94) rfl (q + 1) a3 P c3 _ rfl (HT.out.1.alloc _) (some ⟨wr.heap.size, 0, none⟩) 1 1 [0] rfl (new_bin rfl rfl rfl zero_one (by unfold maxLen; omega)) (fun h => by cases h) (by have := HG.out; have := HZ.out.2.2.2.2.1; omega) (by have := HT.out.2.2.1; simp; omega) ?_; intro a4 c4 w4 ow4 bl4)
     go_roundw
     case rel =>
      have e : P + 1 = K + (k + 1) := by have := HT.out.2.2.2; omega
      rw [List.append_assoc, ← List.replicate_succ', e] at ow4
      exact ⟨k + 1, a4, c4, by omega, by rw [e], ow4, (HT.out.2.1.alloc HT.out.2.2.1 _).trans bl4⟩
     case measure => simp [slLen]; have := HZ.out.2.2.2.2.1; omega
    ·obtain rfl : P = M := by omega
     go_upto_region 15 with (at_builtin; refine wpList_append_bin rfl (.tmp 96) (.tmp 97) rfl (q + 1) a3 P c3 _ rfl (HT.out.1.alloc _) (some ⟨wr.heap.size, 0, none⟩) 1 1 [231] rfl (new_bin rfl rfl rfl last_one (by unfold maxLen; omega)) (fun h => by cases h) (by have := HG.out; have := HZ.out.2.2.2.2.1; omega) (by have := HT.out.2.2.1; simp; omega) ?_; intro a5 c5 w5 ow5 bl5)
     have e5 : P + 1 = N := by have := HZ.out.2.2.2.2.1; omega
     rw [page_of (N := N) (by have := HZ.out.2.2.2.2; have := HT.out.2.2.2; have := HK.out; omega), e5] at ow5
     rw [e5]
     obtain ⟨g5, hg5, hq5, hl5⟩ := cown_addr ow5 (by have := HG.out; omega)
     subst hg5
     have hcr := crI_fits fits0 (page_fits seq xs N)
     obtain ⟨Z, hZ⟩ : ∃ Z, Z = crI 0 (pageL seq xs N) := ⟨_, rfl⟩
     rw [← hZ] at hcr
     have hZw : IntKind.u64.wrap Z = Z := by have := hcr.1; have := hcr.2; rw [IntKind.wrap_u64]; omega
     have H5 : Hid (w5.ownsRow (q + 1) 5 1 (.slice (some ⟨g5, 0, none⟩) N c5) N (u8s (pageL seq xs N)) ∧ Below (q + 1) W w5 ∧ BIn w5 (some ⟨g5, 0, none⟩) N (pageL seq xs N) ∧ Z = crI 0 (pageL seq xs N) ∧ Fits32 Z ∧ q + 1 ≤ g5 ∧ g5 < w5.heap.size) :=
      ⟨ow5, (HT.out.2.1.alloc HT.out.2.2.1 _).trans bl5, own_bin ow5 (by have := HG.out; unfold maxLen; omega) (page_fits _ _ _), hZ, hcr, hq5, hl5⟩
     clear ow5 bl5 hcr hZ hq5 hl5 e5 hwM hge hk
     go_wp2_with (go_at_call 145; refine (dCrcSum_of (some ⟨g5, 0, none⟩) N c5 (pageL seq xs N) _ (H5.out.2.2.1.alloc _)).mono ?_; rintro e W9 ⟨rfl, hw9⟩; replace hw9 := hw9.symm; subst hw9; rw [← H5.out.2.2.2.1])
     refine (refPack_of (some ⟨w5.heap.size, 0, none⟩) 1 1 [4] (some ⟨w5.heap.size + 1, 0, none⟩) 1 1 [Z] _ ((nin_lit 3 (L := [4]) rfl rfl rfl rfl (by decide)).alloc _) (nin_litU 47 (by simp) rfl rfl (by intro z hz; simp only [List.mem_cons, List.not_mem_nil, or_false] at hz; subst hz; have := H5.out.2.2.2.2.1; unfold Fits32 at this; unfold FitsU; omega) (by omega)) (by omega) (by omega)).mono ?_
     rintro e w6 ⟨a6, k6, c6, rfl, hk6, ow6, b6⟩
     obtain rfl : k6 = 4 := by rw [hk6, pack4, bigI_length]
     rw [pack4] at ow6
     obtain ⟨g6, hg6, hq6, _⟩ := cown_addr ow6 (by omega)
     subst hg6
     have hbb := (((Below.refl w5.heap.size w5).alloc (Nat.le_refl _) _).alloc (by simp) _).trans (b6.mono (by simp; omega))
     have hqq : w5.heap.size ≤ g6 := by simp at hq6; omega
     obtain ⟨S, hS⟩ : ∃ S, S = bigI 4 Z := ⟨_, rfl⟩
     have hSl : S.length = 4 := by rw [hS, bigI_length]
     rw [← hS] at ow6
     have H6 : Hid (w6.ownsRow (q + 1) 5 1 (.slice (some ⟨g5, 0, none⟩) N c5) N (u8s (splice (pageL seq xs N) 4 (S.take 0))) ∧ w6.ownsRow w5.heap.size 5 1 (.slice (some ⟨g6, 0, none⟩) 4 c6) 4 (u8s S) ∧ Below (q + 1) W w6) :=
      ⟨by rw [show splice (pageL seq xs N) 4 (S.take 0) = pageL seq xs N by simp [splice]]; exact own_belowN H5.out.1 hbb (Nat.le_refl _), own_lowerN ow6 (by simp; omega), H5.out.2.1.trans (hbb.mono (by have := H5.out.2.2.2.2.2; omega))⟩
     have HQ : Hid (S = bigI 4 Z ∧ S.length = 4 ∧ w5.heap.size ≤ g6) := ⟨hS, hSl, hqq⟩
     clear hk6 ow6 b6 hbb hqq hS hSl hq6 hZw
     go_wp2
     go_loopw [11] (fun y wr => ∃ t : Nat, t ≤ 4 ∧ y = .int .i64 t ∧ wr.ownsRow (q + 1) 5 1 (.slice (some ⟨g5, 0, none⟩) N c5) N (u8s (splice (pageL seq xs N) 4 (S.take t))) ∧ wr.ownsRow w5.heap.size 5 1 (.slice (some ⟨g6, 0, none⟩) 4 c6) 4 (u8s S) ∧ Below (q + 1) W wr) (fun y _ => 4 - (intOf y).toNat)
     case atStart => exact ⟨0, by omega, rfl, H6.out⟩
     case round =>
      obtain ⟨t, ht, rfl, oa, ob, bl⟩ := hrel
      rcases Nat.lt_or_ge t 4 with hlt | hge
      ·have hlt' : (t : Int) < 4 := by omega
       obtain ⟨T, hT⟩ : ∃ T, T = 4 + t := ⟨_, rfl⟩
       have hTw : IntKind.i64.wrap (4 + (t : Int)) = (T : Int) := by rw [IntKind.wrap_i64]; omega
       have hTN : T < N := by have := HG.out; omega
       have hTN' : (T : Int) < N := by omega
       have hpl : (pageL seq xs N).length = N := page_length (by have := HG.out; have := HZ.out.2.2.2.2.2; omega)
       have hsl : (splice (pageL seq xs N) 4 (S.take t)).length = N := by rw [splice_length (by rw [hpl, List.length_take, HQ.out.2.1]; have := HG.out; omega)]; exact hpl
       obtain ⟨v, hv⟩ : ∃ v, v = S.getD t 0 := ⟨_, rfl⟩
       have ca : wr.cell? ⟨g6, t, none⟩ = some (.int .u8 v) := by
        rw [ob.cellAt t (by omega), hv]
        have := HQ.out.2.1
        simp [u8s, List.getD, this, hlt]
       obtain ⟨y, hy⟩ : ∃ y, y = (splice (pageL seq xs N) 4 (S.take t)).getD T 0 := ⟨_, rfl⟩
       have cb : wr.cell? ⟨g5, T, none⟩ = some (.int .u8 y) := by
        rw [oa.cellAt T (by omega), hy]
        simp [u8s, List.getD, hsl, hTN]
       have fb := oa.frozenAt T
       obtain ⟨s1, _⟩ := oa.stored T (.int .u8 v)
       rw [u8s_put] at s1
       have e := splice_next (p := pageL seq xs N) (S := S) (j := t) page_eight HQ.out.2.1 hlt
       rw [← hT, ← hv] at e
       rw [e] at s1
       have HR : Hid ((wr.setCell ⟨g5, T, none⟩ (.int .u8 v)).ownsRow (q + 1) 5 1 (.slice (some ⟨g5, 0, none⟩) N c5) N (u8s (splice (pageL seq xs N) 4 (S.take (t + 1)))) ∧ (wr.setCell ⟨g5, T, none⟩ (.int .u8 v)).ownsRow w5.heap.size 5 1 (.slice (some ⟨g6, 0, none⟩) 4 c6) 4 (u8s S) ∧ Below (q + 1) W (wr.setCell ⟨g5, T, none⟩ (.int .u8 v))) :=
        ⟨s1, ownsRow_setCell_below ob (a := ⟨g5, T, none⟩) (by show g5 < w5.heap.size; exact H5.out.2.2.2.2.2.2) _, bl.setCell (p := ⟨g5, T, none⟩) (by show q + 1 ≤ g5; exact H5.out.2.2.2.2.2.1) _⟩
       clear oa ob bl hT hTN hpl hsl hv hy s1 e
       go_wp2
       go_roundw
       case rel => exact ⟨t + 1, by omega, by simp, HR.out⟩
       case measure => simp [intOf]; omega
      ·obtain rfl : t = 4 := by omega
       have HR : Hid (DEnc w seq xs (N : Int) (.returned (.tuple #[.slice (some ⟨g5, 0, none⟩) N c5, .int .i64 0])) wr) := by
        refine ⟨some ⟨g5, 0, none⟩, N, c5, ?_⟩
        unfold encE encB
        rw [if_pos HZ.out.1, if_pos HZ.out.1, Int.toNat_natCast]
        have e : splice (pageL seq xs N) 4 (S.take 4) = encL seq xs N := by
         rw [List.take_of_length_le (by rw [HQ.out.2.1]; omega), HQ.out.1, H5.out.2.2.2.1, join_splice]; rfl
        rw [e] at oa
        refine ⟨rfl, own_lowerN oa (by rw [← H.out.2.2.2.2.2]; omega), H.out.2.1.trans (bl.mono (by rw [← H.out.2.2.2.2.2]; omega))⟩
       clear oa ob bl
       go_wp2
       go_ret2
       exact HR.out
end Go.Proofs.YtncnkpnfmbgifaaGreat
