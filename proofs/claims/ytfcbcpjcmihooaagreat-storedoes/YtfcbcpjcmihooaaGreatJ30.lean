/- Texts of this seat, one behind the other: DkEnc, RcMore, RcDocE, ZRefOps. -/
import Derived.Test.YtfcbcpjcmihooaaGreatJ29
import Derived.Test.YtfcbcpjcmihooaaGreatJ11
import Derived.Test.YtfcbcpjcmihooaaGreatJ7
import Derived.Test.YtfcbcpjcmihooaaGreatJ13
import Derived.Test.YtfcbcpjcmihooaaGreatJ16
import Derived.Lib.QuietBelow
import Derived.Test.YtfcbcpjcmihooaaGreatJ12
/- What one call of the document's own Encode does. -/
namespace Go.Proofs.YtfcbcpjcmihooaaGreat
open Go.RowKit
set_option linter.unusedVariables false
set_option maxRecDepth 4000

theorem cown_addr {w : World} {base : Nat} {a : Option Addr} {n c : Nat} {zs : List Value} (h : w.ownsRow base 5 1 (.slice a n c) n zs) (hn : 0 < n) : ∃ g, a = some ⟨g, 0, none⟩ ∧ base ≤ g ∧ g < w.heap.size := by
  rcases h.2 with ⟨_, hz⟩ | ⟨g, cap, cur, hv, hbg, hg, _⟩
  · omega
  · cases hv
    refine ⟨g, rfl, hbg, ?_⟩
    rcases Nat.lt_or_ge g w.heap.size with h | h
    · exact h
    · rw [Array.getElem?_eq_none h] at hg; cases hg
theorem u8s_put (L : List Int) (i : Nat) (z : Int) : (u8s L).set i (.int .u8 z) = u8s (L.set i z) := by simp [u8s, List.map_set]
def slLen : Value → Nat | .slice _ n _ => n | _ => 0
theorem zero_one : ∀ z ∈ [(0 : Int)], Fits8 z := by intro z hz; simp at hz; subst hz; unfold Fits8; omega
theorem last_one : ∀ z ∈ [(231 : Int)], Fits8 z := by intro z hz; simp at hz; subst hz; unfold Fits8; omega
theorem splice_next {p S : List Int} {j : Nat} (hp : 8 ≤ p.length) (hS : S.length = 4) (hj : j < 4) : (splice p 4 (S.take j)).set (4 + j) (S.getD j 0) = splice p 4 (S.take (j + 1)) := by
  match S, hS with
  | [a, b, c, d], _ =>
    match p, hp with
    | x0 :: x1 :: x2 :: x3 :: x4 :: x5 :: x6 :: x7 :: r, _ =>
      have h : j = 0 ∨ j = 1 ∨ j = 2 ∨ j = 3 := by omega
      rcases h with rfl | rfl | rfl | rfl <;> simp [splice]
theorem ckP_of {N k : Nat} {i m seq : Int} {pt : List Pl} {L : Nat} (hL : pt.length = L) (h : N = 26 + 16 * L + k + 1) : (hkB i m seq L ++ plsB pt ++ List.replicate k 0) ++ [231] = ckP N i m seq pt := by
  subst hL
  have e : N - 1 - (26 + 16 * pt.length) = k := by omega
  unfold ckP frontK
  rw [e]
def DkEncGot (w : World) (s : Sh) (seq : Int) (ps : List Pl) (e : Ending) (w' : World) : Prop :=
  ∃ v, e = .returned (.tuple #[v, .int .i64 (ckE s ps)]) ∧ RowAt (fun j => w.heap.size ≤ j) w' v (ckO s seq ps) ∧ Below w.heap.size w w'
theorem dkenc_none {w V : World} {s : Sh} {seq : Int} {ps : List Pl} {E : Int} (h : ckE s ps = E) (h0 : E ≠ 0) (hb : Below w.heap.size w V) : DkEncGot w s seq ps (.returned (.tuple #[.slice none 0 0, .int .i64 E])) V := by
  refine ⟨_, by rw [h], ?_, hb⟩
  unfold ckO
  rw [if_neg (by rw [h]; exact h0)]
  exact RowAt.nil _ _
set_option maxHeartbeats 4000000 in
theorem dkEncode_of (s : Sh) (seq : Int) (A : Option Addr) (n C : Nat) (ps : List Pl) (w : World) (hz : -9223372036854775808 ≤ s.z) (hs : FitsU seq) (hk : KIn w A n ps) (hn : n ≤ 100000000) :
    Calls Tryz.prog 98 #[.agg (shL s).toArray, .agg #[.int .u64 seq, .slice A n C]] w (DkEncGot w s seq ps) := by
  obtain ⟨q, hq⟩ : ∃ q, q = w.heap.size := ⟨_, rfl⟩
  have HW : Hid (Blk ((w.alloc (.cells #[.int .i64 s.z, .int .i64 s.zb, .int .i64 s.b, .int .i64 s.r] 23)).alloc (.cells #[.int .u64 seq, .slice A n C] 86)) q (shL s) 23 ∧ Blk ((w.alloc (.cells #[.int .i64 s.z, .int .i64 s.zb, .int .i64 s.b, .int .i64 s.r] 23)).alloc (.cells #[.int .u64 seq, .slice A n C] 86)) (q + 1) [.int .u64 seq, .slice A n C] 86 ∧ Below w.heap.size w ((w.alloc (.cells #[.int .i64 s.z, .int .i64 s.zb, .int .i64 s.b, .int .i64 s.r] 23)).alloc (.cells #[.int .u64 seq, .slice A n C] 86))) :=
    ⟨(Blk.new' hq.symm rfl).alloc _, Blk.new' (by simp [hq]) rfl, ((Below.refl _ _).alloc (Nat.le_refl _) _).alloc (by simp) _⟩
  have H : Hid (FitsU seq ∧ KIn w A n ps ∧ q = w.heap.size ∧ -9223372036854775808 ≤ s.z ∧ n ≤ 100000000) := ⟨hs, hk, hq, hz, hn⟩
  clear hs hk hz
  simp only [shL]
  go_enter Tryz.func98, Tryz.ntmps98
  go_upto_region 1 with fail
  rw [← hq]
  clear hq
  generalize hW : World.alloc (World.alloc w _) _ = W at HW ⊢
  clear hW
  have HC : Hid (∀ V : World, Below W.heap.size W V → (V.cell? ⟨q, 0, none⟩ = some (.int .i64 s.z) ∧ V.cell? ⟨q, 1, none⟩ = some (.int .i64 s.zb) ∧ V.cell? ⟨q, 2, none⟩ = some (.int .i64 s.b) ∧ V.cell? ⟨q, 3, none⟩ = some (.int .i64 s.r)) ∧ V.cell? ⟨q + 1, 0, none⟩ = some (.int .u64 seq) ∧ V.cell? ⟨q + 1, 1, none⟩ = some (.slice A n C)) := by
    intro V hV
    have h := HW.out.1.below hV HW.out.1.lt
    have h' := HW.out.2.1.below hV HW.out.2.1.lt
    exact ⟨⟨h.cell 0, h.cell 1, h.cell 2, h.cell 3⟩, h'.cell 0, h'.cell 1⟩
  have HR : Hid (Calls Tryz.prog 97 #[.agg #[.int .i64 s.z, .int .i64 s.zb, .int .i64 s.b, .int .i64 s.r]] W fun e w' => e = .returned (.bool (decide (RightS s))) ∧ Below W.heap.size W w') := rRight_of s W H.out.2.2.2.1
  obtain ⟨⟨c0, c1, c2, c3⟩, c4, c5⟩ := HC.out W (Below.refl _ _)
  by_cases hr : RightS s
  rotate_left
  · have HS : Hid (¬ RightS s) := hr
    rw [decide_eq_false hr] at HR
    clear hr
    go_wp2_with (go_at_call 97; refine HR.out.mono ?_; rintro e w1 ⟨rfl, b1⟩)
    go_ret2
    exact dkenc_none (by unfold ckE; rw [if_neg (fun h => HS.out h.1)]) (by decide) (HW.out.2.2.trans (b1.mono HW.out.2.2.size))
  have HS : Hid (RightS s) := hr
  rw [decide_eq_true hr] at HR
  clear hr
  go_upto_region 2 with (go_at_call 97; refine HR.out.mono ?_; rintro e w1 ⟨rfl, b1⟩)
  have H1 : Hid (Below W.heap.size W w1 ∧ Below w.heap.size w w1) := ⟨b1, HW.out.2.2.trans (b1.mono HW.out.2.2.size)⟩
  clear b1 c0 c1 c2 c3 c4 c5 HR
  obtain ⟨-, o0, o1⟩ := HC.out w1 H1.out.1
  by_cases hri : Rises ps
  rotate_left
  · have HN : Hid (¬ Rises ps) := hri
    have HRi : Hid (Calls Tryz.prog 148 #[.slice A n C] w1 fun e w' => e = .returned (.bool false) ∧ Below w1.heap.size w1 w') := (dkRises_of A n C ps w1 (H.out.2.1.below H1.out.2)).mono (by rintro e w' ⟨b, rfl, hb, bl⟩; refine ⟨?_, bl⟩; cases b; rfl; exact absurd (hb.1 rfl) hri)
    clear hri
    go_wp2_with (go_at_call 148; refine HRi.out.mono ?_; rintro e w2 ⟨rfl, b2⟩)
    go_ret2
    exact dkenc_none (by unfold ckE; rw [if_neg (fun h => HN.out h.2.1)]) (by decide) (H1.out.2.trans (b2.mono H1.out.2.size))
  have HRi : Hid (Calls Tryz.prog 148 #[.slice A n C] w1 fun e w' => e = .returned (.bool true) ∧ Below w1.heap.size w1 w') := (dkRises_of A n C ps w1 (H.out.2.1.below H1.out.2)).mono (by rintro e w' ⟨b, rfl, hb, bl⟩; refine ⟨?_, bl⟩; cases b; exact absurd (hb.2 hri) (by simp); rfl)
  have HRs : Hid (Rises ps) := hri
  clear hri
  go_wp2_with (go_at_call 148; refine HRi.out.mono ?_; rintro e w2 ⟨rfl, b2⟩)
  have H2 : Hid (Below W.heap.size W w2 ∧ Below w.heap.size w w2) := ⟨H1.out.1.trans (b2.mono H1.out.1.size), H1.out.2.trans (b2.mono H1.out.2.size)⟩
  clear b2 o0 o1 HRi H1
  go_loopw [7] (fun x wr => ∃ i : Nat, x = .int .i64 i ∧ i ≤ n ∧ Below W.heap.size W wr ∧ ∀ k p, k < i → ps[k]? = some p → InSh s p) (fun x _ => n - (intOf x).toNat)
  case atStart => exact ⟨0, rfl, Nat.zero_le _, H2.out.1, fun k p h => by omega⟩
  case round =>
    obtain ⟨i, rfl, hi, bl, hup⟩ := hrel
    have blw : Below w.heap.size w wr := HW.out.2.2.trans (bl.mono HW.out.2.2.size)
    obtain ⟨⟨e0, e1, e2, e3⟩, o0, o1⟩ := HC.out wr bl
    rcases Nat.lt_or_ge i n with hlt | hge
    · obtain ⟨b', off, x, hA, hx, d0, d1, d2, d3⟩ := kin_place (H.out.2.1.below blw) hlt
      subst hA
      have hi' : (i : Int) < n := by omega
      have hwi : IntKind.i64.wrap ((i : Int) + 1) = (i : Int) + 1 := by rw [IntKind.wrap_i64]; omega
      obtain ⟨qi, hqi⟩ : ∃ qi, qi = wr.heap.size := ⟨_, rfl⟩
      have HA : Hid (Blk (wr.alloc (.cells #[.int .i64 x.2.1, .int .i64 x.2.2] 60)) qi [.int .i64 x.2.1, .int .i64 x.2.2] 60 ∧ Below W.heap.size W (wr.alloc (.cells #[.int .i64 x.2.1, .int .i64 x.2.2] 60))) := ⟨Blk.new' hqi.symm rfl, bl.alloc bl.size _⟩
      have HX : Hid (ps[i]? = some x ∧ ∀ k p, k < i → ps[k]? = some p → InSh s p) := ⟨hx, hup⟩
      clear hx hup bl blw
      go_upto_region 8 with fail
      rw [← hqi]
      clear d0 d1 d2 d3 e0 e1 e2 e3 o0 o1 hqi
      generalize World.alloc wr _ = W1 at HA ⊢
      obtain ⟨⟨e0, e1, -, -⟩, -, -⟩ := HC.out W1 HA.out.2
      have k0 : W1.cell? ⟨qi, 0, none⟩ = some (.int .i64 x.2.1) := HA.out.1.cell 0
      have k1 : W1.cell? ⟨qi, 1, none⟩ = some (.int .i64 x.2.2) := HA.out.1.cell 1
      have hbad : Hid (¬ InSh s x → DkEncGot w s seq ps (.returned (.tuple #[.slice none 0 0, .int .i64 141])) W1) := fun h => dkenc_none (by unfold ckE; rw [if_neg (fun hg => h (hg.2.2 x (List.mem_of_getElem? HX.out.1)))]) (by decide) (HW.out.2.2.trans (HA.out.2.mono HW.out.2.2.size))
      by_cases t1 : x.2.1 < 2
      · have f1 : decide (x.2.1 < 2) = true := by simp [t1]
        have HB : Hid _ := hbad.out (fun h => by unfold InSh at h; omega)
        clear t1 hbad
        go_wp2
        go_ret2
        exact HB.out
      have f1 : decide (x.2.1 < 2) = false := by simp; omega
      by_cases t2 : s.z ≤ x.2.1
      · have f2 : decide (s.z ≤ x.2.1) = true := by simp [t2]
        have HB : Hid _ := hbad.out (fun h => by unfold InSh at h; omega)
        clear t1 t2 hbad
        go_wp2
        go_ret2
        exact HB.out
      have f2 : decide (s.z ≤ x.2.1) = false := by simp; omega
      by_cases t3 : x.2.2 < 0
      · have f3 : decide (x.2.2 < 0) = true := by simp [t3]
        have HB : Hid _ := hbad.out (fun h => by unfold InSh at h; omega)
        clear t1 t2 t3 hbad
        go_wp2
        go_ret2
        exact HB.out
      have f3 : decide (x.2.2 < 0) = false := by simp; omega
      by_cases t4 : s.zb ≤ x.2.2
      · have f4 : decide (s.zb ≤ x.2.2) = true := by simp [t4]
        have HB : Hid _ := hbad.out (fun h => by unfold InSh at h; omega)
        clear t1 t2 t3 t4 hbad
        go_wp2
        go_ret2
        exact HB.out
      have f4 : decide (s.zb ≤ x.2.2) = false := by simp; omega
      have HB : Hid (∀ k p, k < i + 1 → ps[k]? = some p → InSh s p) := by
        intro k p hk hp
        rcases Nat.lt_or_ge k i with h | h
        · exact HX.out.2 k p h hp
        · obtain rfl : k = i := by omega
          rw [HX.out.1] at hp
          cases hp
          unfold InSh
          omega
      clear t1 t2 t3 t4 hbad
      go_wp2
      go_roundw
      case rel => exact ⟨i + 1, by simp, by omega, HA.out.2, HB.out⟩
      case measure => simp [intOf]; omega
    · have hin : n = i := by omega
      subst hin
      have hgood : GoodK s ps := ⟨HS.out, HRs.out, fun p hp => by
        obtain ⟨k, hk⟩ := List.getElem?_of_mem hp
        exact hup k p (by have := (List.getElem?_eq_some_iff.1 hk).1; rw [H.out.2.1.1] at this; exact this) hk⟩
      obtain ⟨r, hr⟩ : ∃ r : Nat, roomK s.b = r := ⟨roomN s, by have := roomK_pow HS.out.2.2.2.2.1; unfold roomN; omega⟩
      have hrN : roomN s = r := by unfold roomN; omega
      have hrb := roomN_pos HS.out
      rw [hrN] at hrb
      obtain ⟨N, hN⟩ : ∃ N : Nat, s.b = N := ⟨s.b.toNat, by have := pow_bounds (show s.b ∈ PowR from HS.out.2.2.2.2.1); omega⟩
      have hNb : 64 ≤ N ∧ N ≤ 4096 := by have := pow_bounds (show s.b ∈ PowR from HS.out.2.2.2.2.1); omega
      obtain ⟨zb, hzb⟩ : ∃ zb : Nat, s.zb = zb := ⟨s.zb.toNat, by have := HS.out.2.2.1; omega⟩
      have hzbb : zb ≤ 4096 := by have h2 := HS.out.2.2.2.1; omega
      obtain ⟨m, hm⟩ : ∃ m : Nat, m = mK s ps := ⟨_, rfl⟩
      have w1 : IntKind.i64.wrap ((n : Int) + r) = (n : Int) + r := by rw [IntKind.wrap_i64]; omega
      have w2 : IntKind.i64.wrap ((n : Int) + r - 1) = ((n + r - 1 : Nat) : Int) := by rw [IntKind.wrap_i64]; omega
      obtain ⟨X, hX⟩ : ∃ X : Nat, X = (n + r - 1) / r := ⟨_, rfl⟩
      have hXb : X ≤ n + r - 1 := by rw [hX]; exact Nat.div_le_self _ _
      have w3 : IntKind.i64.wrap (((n + r - 1 : Nat) : Int) / (r : Int)) = (X : Int) := by
        rw [← Int.natCast_ediv, ← hX, IntKind.wrap_i64]
        omega
      have hmX : m = max 1 X := by rw [hm]; unfold mK manyN; rw [hrN, H.out.2.1.1, ← hX]
      have hr0 : ¬ (r : Int) = 0 := by omega
      have hRm : ∀ X : World, Calls Tryz.prog 149 #[.int .i64 s.b] X fun e w' => e = .returned (.int .i64 (r : Int)) ∧ w' = X := fun X => by rw [← hr]; exact dkRoom_of s.b X
      have HG : Hid (GoodK s ps ∧ roomN s = r ∧ (2 ≤ r ∧ 27 + 16 * r ≤ s.b.toNat ∧ r ≤ 254) ∧ s.b = N ∧ 64 ≤ N ∧ N ≤ 4096 ∧ s.zb = zb ∧ zb ≤ 4096 ∧ m = mK s ps ∧ Below W.heap.size W wr) := ⟨hgood, hrN, hrb, hN, hNb.1, hNb.2, hzb, hzbb, hm, bl⟩
      clear hgood hrN hrb hNb hzbb hm hup bl hXb hX hr
      rw [hN] at e2 hRm
      rw [hzb] at e1
      clear hN hzb
      have hm1 : 1 ≤ m := by omega
      rcases Nat.eq_zero_or_pos X with hX0 | hX0
      have hmi : Hid ((Value.int .i64 1) = Value.int .i64 (m : Int)) := by rw [show m = 1 by omega]; exact rfl
      subst hX0
      clear hmX
      go_upto_region 14 with (go_at_call 149; refine (hRm _).mono ?_; rintro e W1 ⟨rfl, hw1⟩; replace hw1 := hw1.symm; subst hw1)
      rw [hmi.out]
      clear hmi
      rotate_left
      have hXm : m = X := by omega
      have hm0 : ((m : Int) == 0) = false := by simp; omega
      clear hmX hX0
      subst hXm
      go_upto_region 14 with (go_at_call 149; refine (hRm _).mono ?_; rintro e W1 ⟨rfl, hw1⟩; replace hw1 := hw1.symm; subst hw1)
      rw [hm0]
      clear hm0
      all_goals (
        clear w1 w2 w3 hr0 hRm
        by_cases hbig : zb < m
        · have f1 : decide ((zb : Int) < (m : Int)) = true := by simp; omega
          have f2 : decide (zb < m) = true := by simp; omega
          have HE : Hid (DkEncGot w s seq ps (.returned (.tuple #[.slice none 0 0, .int .i64 140])) wr) := dkenc_none (by unfold ckE; rw [if_pos HG.out.1, if_neg (by have := HG.out; omega)]) (by decide) (HW.out.2.2.trans (HG.out.2.2.2.2.2.2.2.2.2.mono HW.out.2.2.size))
          clear hbig
          go_wp2
          go_ret2
          exact HE.out
        have f1 : decide ((zb : Int) < (m : Int)) = false := by simp; omega
        have f2 : decide (zb < m) = false := by simp; omega
        obtain ⟨ls, hls⟩ : ∃ ls, ls = ckL s seq ps := ⟨_, rfl⟩
        have HL : Hid (ls = ckL s seq ps ∧ m ≤ zb ∧ ckE s ps = 0 ∧ ls.length = m) := ⟨hls, by omega, ckE_zero.2 ⟨HG.out.1, by have := HG.out; omega⟩, by rw [hls, ckL_length]; exact HG.out.2.2.2.2.2.2.2.2.1.symm⟩
        clear hbig hls e0 e1 e2 e3 o0 o1
        obtain ⟨V0, hV0⟩ : ∃ V0 : World, V0 = wr := ⟨_, rfl⟩
        subst hV0
        obtain ⟨⟨-, e1, -, -⟩, -, -⟩ := HC.out V0 HG.out.2.2.2.2.2.2.2.2.2
        rw [HG.out.2.2.2.2.2.2.1] at e1
        go_wp2
        clear e1 f1 f2
        go_loopw [11, 12] (fun v x wr => ∃ (i : Nat) (av : Option Addr) (cv : Nat), i ≤ m ∧ x = .int .i64 i ∧ v = .slice av i cv ∧ RowAt (fun k => W.heap.size ≤ k) wr (.slice av i cv) (ls.take i) ∧ Below W.heap.size W wr) (fun _ x _ => m - (intOf x).toNat)
        case atStart => exact ⟨0, none, 0, Nat.zero_le _, rfl, rfl, by simpa using RowAt.nil _ _, HG.out.2.2.2.2.2.2.2.2.2⟩
        case round =>
          obtain ⟨i, av, cv, hi, rfl, rfl, row, bl⟩ := hrel
          rcases Nat.lt_or_ge i m with hlt | hge
          · obtain ⟨V, hV⟩ : ∃ V : World, V = wr := ⟨_, rfl⟩
            subst hV
            obtain ⟨F, hF⟩ : ∃ F : Nat, F = i * r := ⟨_, rfl⟩
            obtain ⟨L, hL⟩ : ∃ L : Nat, L = (partK r i ps).length := ⟨_, rfl⟩
            have hMm : manyN r n = m := by rw [HG.out.2.2.2.2.2.2.2.2.1]; unfold mK; rw [HG.out.2.1, H.out.2.1.1]
            have hg2 := HG.out.2.2.1
            have hFn : F ≤ n := by
              rcases Nat.eq_zero_or_pos i with h0 | h0
              · rw [hF, h0, Nat.zero_mul]; exact Nat.zero_le _
              · rcases Nat.lt_or_ge n F with h | h
                · have h2 := (manyN_le (r := r) (n := n) (z := i) (by omega) h0).2 (by omega)
                  omega
                · exact h
            have hLe : L = min r (n - F) := by rw [hL]; unfold partK; rw [List.length_take, List.length_drop, H.out.2.1.1, hF]
            have hi4 : i ≤ 4096 ∧ m ≤ 4096 := by have := HG.out; have := HL.out; omega
            have hFb : F ≤ 4096 * 254 := by rw [hF]; exact Nat.mul_le_mul hi4.1 hg2.2.2
            obtain ⟨T, hT⟩ : ∃ T : Nat, T = F + L := ⟨_, rfl⟩
            have hLr : L ≤ 254 := by omega
            have hi' : (i : Int) < m := by omega
            have hwi : IntKind.i64.wrap ((i : Int) + 1) = (i : Int) + 1 := by rw [IntKind.wrap_i64]; omega
            have u1 : IntKind.i64.wrap ((i : Int) * r) = (F : Int) := by rw [← Int.natCast_mul, ← hF, IntKind.wrap_i64]; omega
            have u2 : IntKind.i64.wrap ((F : Int) + r) = (F : Int) + r := by rw [IntKind.wrap_i64]; omega
            have u3 : (if (n : Int) < (F : Int) + r then (n : Int) else (F : Int) + r) = (T : Int) := by split <;> omega
            have u4 : IntKind.i64.wrap ((T : Int) - F) = (L : Int) := by rw [IntKind.wrap_i64]; omega
            have u5 : IntKind.u64.wrap (L : Int) = L := by rw [IntKind.wrap_u64]; omega
            have u6 : IntKind.u64.wrap (i : Int) = i := by rw [IntKind.wrap_u64]; omega
            have u7 : IntKind.u64.wrap (m : Int) = m := by rw [IntKind.wrap_u64]; omega
            have HF : Hid (F = i * r ∧ L = (partK r i ps).length ∧ T = F + L ∧ T = min (F + r) n ∧ L ≤ r ∧ i ≤ 4096 ∧ m ≤ 4096 ∧ L ≤ 254 ∧ F ≤ n ∧ 27 + 16 * L ≤ N) := ⟨hF, hL, hT, by omega, by omega, hi4.1, hi4.2, hLr, hFn, by have := HG.out; omega⟩
            have HV : Hid (RowAt (fun k => W.heap.size ≤ k) V (.slice av i cv) (ls.take i) ∧ Below W.heap.size W V) := ⟨row, bl⟩
            obtain ⟨-, o0, o1⟩ := HC.out V bl
            clear hF hL hT hMm hg2 hFn hLe hFb row bl hi4 hLr
            go_upto_region 22 with fail
            clear u1 u2 u3
            have HLt : Hid (∀ (X : World) (g : Nat), X.heap.size = g → NIn .u64 (X.alloc (.cells #[.int .u64 1129009236, .int .u64 0, .int .u64 i, .int .u64 m, .int .u64 seq, .int .u64 L] 40)) (some ⟨g, 0, none⟩) 6 (hkV i m seq L)) := lit_hk (by have := HF.out; unfold FitsU; omega) (by have := HF.out; unfold FitsU; omega) H.out.1 (by have := HF.out; unfold FitsU; omega)
            have g0 : ∀ o, (V.alloc o).cell? ⟨q + 1, 0, none⟩ = some (.int .u64 seq) := fun o => (HC.out _ (HV.out.2.alloc HV.out.2.size o)).2.1
            obtain ⟨Q, hQ⟩ : ∃ Q, Q = V.heap.size := ⟨_, rfl⟩
            go_wp2_with fail
            refine (refPack_of (some ⟨V.heap.size, 0, none⟩) 6 6 hkW (some ⟨V.heap.size + 1, 0, none⟩) 6 6 (hkV i m seq L) _ ((nin_hk rfl).alloc _) (HLt.out _ _ (by simp)) (by omega) (by omega)).mono ?_
            rintro e w2 ⟨a2, k2, c2, rfl, hk2, ow2, b2⟩
            obtain rfl : k2 = 26 := by rw [hk2]; exact hkB_length i m seq L
            obtain ⟨pt, hpt⟩ : ∃ pt, pt = partK r i ps := ⟨_, rfl⟩
            have H2 : Hid (w2.ownsRow Q 5 1 (.slice a2 26 c2) 26 (u8s (hkB i m seq L ++ plsB (pt.take 0))) ∧ Below Q V w2 ∧ Q = V.heap.size ∧ pt = partK r i ps ∧ pt.length = L) := by
              have e : hkB i m seq L ++ plsB (pt.take 0) = packL hkW (hkV i m seq L) := by simp [plsB, hkB]
              refine ⟨by rw [e]; exact own_lowerN ow2 (by simp; omega), ?_, hQ, hpt, by rw [hpt]; exact HF.out.2.1.symm⟩
              exact (((Below.refl Q V).alloc (by omega) _).alloc (by simp; omega) _).trans (b2.mono (by simp; omega))
            clear hk2 ow2 b2 HLt g0 o0 o1 u4 u5 u6 u7 hQ hpt
            go_wp2
            go_loopw [15, 16] (fun b y wr => ∃ (j : Nat) (a' : Option Addr) (c' : Nat), j ≤ L ∧ y = .int .i64 ((F + j : Nat) : Int) ∧ b = .slice a' (26 + 16 * j : Nat) c' ∧ wr.ownsRow Q 5 1 (.slice a' (26 + 16 * j) c') (26 + 16 * j) (u8s (hkB i m seq L ++ plsB (pt.take j))) ∧ Below Q V wr) (fun _ y _ => T - (intOf y).toNat)
            case atStart => exact ⟨0, a2, c2, Nat.zero_le _, by simp, rfl, H2.out.1, H2.out.2.1⟩
            case round =>
              obtain ⟨j, a', c', hj, rfl, rfl, ow, blq⟩ := hrel
              obtain ⟨K, hK⟩ : ∃ K, K = 26 + 16 * j := ⟨_, rfl⟩
              obtain ⟨y, hy⟩ : ∃ y, y = F + j := ⟨_, rfl⟩
              rw [← hK] at ow ⊢
              rw [← hy]
              have hQs : Q ≤ wr.heap.size := by rw [H2.out.2.2.1]; exact blq.size
              have blW : Below W.heap.size W wr := HV.out.2.trans (blq.mono (by rw [H2.out.2.2.1]; exact HV.out.2.size))
              have blw : Below w.heap.size w wr := HW.out.2.2.trans (blW.mono HW.out.2.2.size)
              obtain ⟨⟨-, -, e2, -⟩, o0, o1⟩ := HC.out wr blW
              rw [HG.out.2.2.2.1] at e2
              rcases Nat.lt_or_ge j L with hjl | hjl
              · have hyn : y < n := by have := HF.out; omega
                obtain ⟨b', off, x, hA, hx, d0, d1, d2, d3⟩ := kin_place (H.out.2.1.below blw) hyn
                subst hA
                have hptj : pt[j]? = some x := by
                  rw [H2.out.2.2.2.1]
                  unfold partK
                  rw [List.getElem?_take_of_lt (by have := HF.out; omega), List.getElem?_drop, ← hx, hy, HF.out.1]
                have hxf : Fit2 x := good_fit2 HG.out.1 (fun p hp => (H.out.2.1.2.2.1 p hp).1) x (List.mem_of_getElem? hx)
                obtain ⟨qi, hqi⟩ : ∃ qi, qi = wr.heap.size := ⟨_, rfl⟩
                have HA : Hid (Blk (wr.alloc (.cells #[.int .u32 x.1.1, .int .u64 x.1.2, .int .i64 x.2.1, .int .i64 x.2.2] 62)) qi (plL x) 62 ∧ (wr.alloc (.cells #[.int .u32 x.1.1, .int .u64 x.1.2, .int .i64 x.2.1, .int .i64 x.2.2] 62)).ownsRow Q 5 1 (.slice a' K c') K (u8s (hkB i m seq L ++ plsB (pt.take j))) ∧ Below Q V (wr.alloc (.cells #[.int .u32 x.1.1, .int .u64 x.1.2, .int .i64 x.2.1, .int .i64 x.2.2] 62)) ∧ Q ≤ (wr.alloc (.cells #[.int .u32 x.1.1, .int .u64 x.1.2, .int .i64 x.2.1, .int .i64 x.2.2] 62)).heap.size) := ⟨Blk.new' hqi.symm rfl, ow.alloc _, blq.alloc hQs _, by simp; omega⟩
                have hyT : (y : Int) < T := by have := HF.out; omega
                have hyn' : (y : Int) < n := by omega
                have hwy : IntKind.i64.wrap ((y : Int) + 1) = (y : Int) + 1 := by rw [IntKind.wrap_i64]; omega
                have HX : Hid (pt[j]? = some x ∧ Fit2 x ∧ K = 26 + 16 * j ∧ y = F + j ∧ j < L) := ⟨hptj, hxf, hK, hy, hjl⟩
                clear hptj hxf hK hy ow blq blW blw hQs hx e2
                go_upto_region 27 with fail
                rw [← hqi]
                clear d0 d1 d2 d3 o0 o1 hqi hyn'
                generalize World.alloc wr _ = W7 at HA ⊢
                have k0 : W7.cell? ⟨qi, 0, none⟩ = some (.int .u32 x.1.1) := HA.out.1.cell 0
                have k1 : W7.cell? ⟨qi, 1, none⟩ = some (.int .u64 x.1.2) := HA.out.1.cell 1
                have k2 : W7.cell? ⟨qi, 2, none⟩ = some (.int .i64 x.2.1) := HA.out.1.cell 2
                have k3 : W7.cell? ⟨qi, 3, none⟩ = some (.int .i64 x.2.2) := HA.out.1.cell 3
                have g0 : ∀ o, (W7.alloc o).cell? ⟨qi, 0, none⟩ = some (.int .u32 x.1.1) := fun o => (HA.out.1.alloc o).cell 0
                have g1 : ∀ o, (W7.alloc o).cell? ⟨qi, 1, none⟩ = some (.int .u64 x.1.2) := fun o => (HA.out.1.alloc o).cell 1
                have g2 : ∀ o, (W7.alloc o).cell? ⟨qi, 2, none⟩ = some (.int .i64 x.2.1) := fun o => (HA.out.1.alloc o).cell 2
                have g3 : ∀ o, (W7.alloc o).cell? ⟨qi, 3, none⟩ = some (.int .i64 x.2.2) := fun o => (HA.out.1.alloc o).cell 3
                obtain ⟨v0, v2, v3⟩ : IntKind.u64.wrap x.1.1 = x.1.1 ∧ IntKind.u64.wrap x.2.1 = x.2.1 ∧ IntKind.u64.wrap x.2.2 = x.2.2 := by
                  obtain ⟨⟨f0, _⟩, f2, f3⟩ := HX.out.2.1
                  unfold Fits32 at f0
                  unfold Fits16 at f2 f3
                  simp only [IntKind.wrap_u64]
                  omega
                have HLp : Hid (∀ (X : World) (g : Nat), X.heap.size = g → NIn .u64 (X.alloc (.cells #[.int .u64 x.1.1, .int .u64 x.1.2, .int .u64 x.2.1, .int .u64 x.2.2] 40)) (some ⟨g, 0, none⟩) 4 (plV x)) := lit_pl HX.out.2.1
                go_wp2_with fail
                refine (refPack_of (some ⟨W7.heap.size, 0, none⟩) 4 4 plW (some ⟨W7.heap.size + 1, 0, none⟩) 4 4 (plV x) _ ((nin_pl rfl).alloc _) (HLp.out _ _ (by simp)) (by omega) (by omega)).mono ?_
                rintro e w9 ⟨a9, k9, c9, rfl, hk9, ow9, b9⟩
                obtain rfl : k9 = 16 := by rw [hk9]; exact plB_length x
                have hbb := (((Below.refl W7.heap.size W7).alloc (Nat.le_refl _) _).alloc (by simp) _).trans (b9.mono (by simp; omega))
                have H9 : Hid (w9.ownsRow Q 5 1 (.slice a' K c') K (u8s (hkB i m seq L ++ plsB (pt.take j))) ∧ BIn w9 a9 16 (plB x) ∧ (a9 = none → 16 = 0 ∧ c9 = 0) ∧ Below Q V w9 ∧ Q ≤ w9.heap.size) :=
                  ⟨own_belowN HA.out.2.1 hbb (Nat.le_refl _), own_bin ow9 (by unfold maxLen; omega) (plB_fits x), own_nil ow9, HA.out.2.2.1.trans (hbb.mono HA.out.2.2.2), by have := hbb.size; have := HA.out.2.2.2; omega⟩
                clear hk9 ow9 b9 hbb HLp g0 g1 g2 g3 k0 k1 k2 k3 v0 v2 v3
                go_wp2_with (at_builtin; refine wpList_append_bin rfl (.tmp 121) (.tmp 137) rfl Q a' K c' _ rfl H9.out.1 a9 16 c9 (plB x) rfl H9.out.2.1 H9.out.2.2.1 (by have := HX.out; have := HF.out; omega) H9.out.2.2.2.2 ?_; intro a3 c3 w3 ow3 bl3)
                go_roundw
                case rel =>
                  have e : K + 16 = 26 + 16 * (j + 1) := by have := HX.out; omega
                  rw [List.append_assoc, ← plsB_next HX.out.1, e] at ow3
                  exact ⟨j + 1, a3, c3, by have := HX.out; omega, by rw [show ((y : Int) + 1) = ((F + (j + 1) : Nat) : Int) by have := HX.out.2.2.2.1; omega], by rw [e], ow3, H9.out.2.2.2.1.trans bl3⟩
                case measure => simp [intOf]; omega
              · have hjL : L = j := by omega
                subst hjL
                have hyT : ¬ (y : Int) < T := by have := HF.out; omega
                have htk : pt.take L = pt := List.take_of_length_le (by rw [H2.out.2.2.2.2]; exact Nat.le_refl _)
                rw [htk] at ow
                obtain ⟨M, hM⟩ : ∃ M, N = M + 1 := ⟨N - 1, by have := HG.out; omega⟩
                have hwM : IntKind.i64.wrap ((N : Int) - 1) = (M : Int) := by have := HG.out; rw [IntKind.wrap_i64]; omega
                have HZ : Hid (wr.ownsRow Q 5 1 (.slice a' K c') K (u8s (hkB i m seq L ++ plsB pt)) ∧ Below Q V wr ∧ K ≤ M ∧ N = M + 1 ∧ K = 26 + 16 * L) := ⟨ow, blq, by have := HF.out; omega, hM, hK⟩
                clear ow blq htk hM hK hy hQs blW blw e2 o0 o1 hjl hj
                go_wp2
                clear hyT
                obtain ⟨V1, hV1⟩ : ∃ V1 : World, V1 = wr := ⟨_, rfl⟩
                subst hV1
                go_loopw [15] (fun b wr2 => ∃ (k : Nat) (a3 : Option Addr) (c3 : Nat), K + k ≤ M ∧ b = .slice a3 (K + k : Nat) c3 ∧ wr2.ownsRow Q 5 1 (.slice a3 (K + k) c3) (K + k) (u8s (hkB i m seq L ++ plsB pt ++ List.replicate k 0)) ∧ Below Q V wr2) (fun b _ => N - slLen b)
                case atStart => exact ⟨0, a', c', HZ.out.2.2.1, rfl, by simpa using HZ.out.1, HZ.out.2.1⟩
                case round =>
                  obtain ⟨k, a3, c3, hk, rfl, ow, blq⟩ := hrel
                  obtain ⟨P, hP⟩ : ∃ P, P = K + k := ⟨_, rfl⟩
                  rw [← hP] at ow hk ⊢
                  have hQs : Q ≤ wr.heap.size := by rw [H2.out.2.2.1]; exact blq.size
                  have blW : Below W.heap.size W wr := HV.out.2.trans (blq.mono (by rw [H2.out.2.2.1]; exact HV.out.2.size))
                  obtain ⟨⟨-, -, e2, -⟩, -, -⟩ := HC.out wr blW
                  rw [HG.out.2.2.2.1] at e2
                  have HT : Hid (wr.ownsRow Q 5 1 (.slice a3 P c3) P (u8s (hkB i m seq L ++ plsB pt ++ List.replicate k 0)) ∧ Below Q V wr ∧ Q ≤ wr.heap.size ∧ P = K + k) := ⟨ow, blq, hQs, hP⟩
                  clear ow blq hP hQs blW
                  rcases Nat.lt_or_ge P M with hlt2 | hge2
                  · have hlt' : (P : Int) < M := by omega
                    go_wp2_with (at_builtin; refine wpList_append_bin rfl (.tmp 145) (.tmp 146) rfl Q a3 P c3 _ rfl (HT.out.1.alloc _) (some ⟨wr.heap.size, 0, none⟩) 1 1 [0] rfl (new_bin rfl rfl rfl zero_one (by unfold maxLen; omega)) (fun h => by cases h) (by have := HG.out; have := HZ.out.2.2.2.1; omega) (by have := HT.out.2.2.1; simp; omega) ?_; intro a4 c4 w4 ow4 bl4)
                    go_roundw
                    case rel =>
                      have e : P + 1 = K + (k + 1) := by have := HT.out.2.2.2; omega
                      rw [List.append_assoc, ← List.replicate_succ', e] at ow4
                      exact ⟨k + 1, a4, c4, by omega, by rw [e], ow4, (HT.out.2.1.alloc HT.out.2.2.1 _).trans bl4⟩
                    case measure => simp [slLen]; have := HZ.out.2.2.2.1; omega
                  · have hPM : M = P := by omega
                    subst hPM
                    go_upto_region 31 with (at_builtin; refine wpList_append_bin rfl (.tmp 148) (.tmp 149) rfl Q a3 M c3 _ rfl (HT.out.1.alloc _) (some ⟨wr.heap.size, 0, none⟩) 1 1 [231] rfl (new_bin rfl rfl rfl last_one (by unfold maxLen; omega)) (fun h => by cases h) (by have := HG.out; have := HZ.out.2.2.2.1; omega) (by have := HT.out.2.2.1; simp; omega) ?_; intro a5 c5 w5 ow5 bl5)
                    have e5 : M + 1 = N := by have := HZ.out.2.2.2.1; omega
                    obtain ⟨pg, hpg⟩ : ∃ pg, pg = ckP N i m seq pt := ⟨_, rfl⟩
                    rw [ckP_of (N := N) H2.out.2.2.2.2 (by have := HZ.out; have := HT.out.2.2.2; omega), e5, ← hpg] at ow5
                    rw [e5]
                    obtain ⟨g5, hg5, hq5, hl5⟩ := cown_addr ow5 (by have := HG.out; omega)
                    subst hg5
                    have hpf : ∀ z ∈ pg, Fits8 z := by rw [hpg]; exact ckP_fits
                    have hcr := crI_fits fits0 hpf
                    obtain ⟨Z, hZ⟩ : ∃ Z, Z = crI 0 pg := ⟨_, rfl⟩
                    rw [← hZ] at hcr
                    have hZw : IntKind.u64.wrap Z = Z := by have := hcr.1; have := hcr.2; rw [IntKind.wrap_u64]; omega
                    have H5 : Hid (w5.ownsRow Q 5 1 (.slice (some ⟨g5, 0, none⟩) N c5) N (u8s pg) ∧ Below Q V w5 ∧ BIn w5 (some ⟨g5, 0, none⟩) N pg ∧ Z = crI 0 pg ∧ Fits32 Z ∧ Q ≤ g5 ∧ g5 < w5.heap.size ∧ pg = ckP N i m seq pt) :=
                      ⟨ow5, (HT.out.2.1.alloc HT.out.2.2.1 _).trans bl5, own_bin ow5 (by have := HG.out; unfold maxLen; omega) hpf, hZ, hcr, hq5, hl5, hpg⟩
                    clear ow5 bl5 hcr hZ hq5 hl5 e5 hwM hge2 hk hpf hpg e2
                    go_wp2_with (go_at_call 151; refine (dCrcSum_of (some ⟨g5, 0, none⟩) N c5 pg _ (H5.out.2.2.1.alloc _)).mono ?_; rintro e W9 ⟨rfl, hw9⟩; replace hw9 := hw9.symm; subst hw9; rw [← H5.out.2.2.2.1])
                    refine (refPack_of (some ⟨w5.heap.size, 0, none⟩) 1 1 [4] (some ⟨w5.heap.size + 1, 0, none⟩) 1 1 [Z] _ ((nin_lit 3 (L := [4]) rfl rfl rfl rfl (by decide)).alloc _) (nin_litU 40 (by simp) rfl rfl (by intro z hz; simp only [List.mem_cons, List.not_mem_nil, or_false] at hz; subst hz; have := H5.out.2.2.2.2.1; unfold Fits32 at this; unfold FitsU; omega) (by omega)) (by omega) (by omega)).mono ?_
                    rintro e w6 ⟨a6, k6, c6, rfl, hk6, ow6, b6⟩
                    obtain rfl : k6 = 4 := by rw [hk6, pack4, bigI_length]
                    rw [pack4] at ow6
                    obtain ⟨g6, hg6, hq6, _⟩ := cown_addr ow6 (by omega)
                    subst hg6
                    have hbb := (((Below.refl w5.heap.size w5).alloc (Nat.le_refl _) _).alloc (by simp) _).trans (b6.mono (by simp; omega))
                    have hqq : w5.heap.size ≤ g6 := by simp at hq6; omega
                    obtain ⟨S, hS⟩ : ∃ S, S = bigI 4 Z := ⟨_, rfl⟩
                    have hSl : S.length = 4 := by rw [hS, bigI_length]
                    rw [← hS] at ow6
                    have H6 : Hid (w6.ownsRow Q 5 1 (.slice (some ⟨g5, 0, none⟩) N c5) N (u8s (splice pg 4 (S.take 0))) ∧ w6.ownsRow w5.heap.size 5 1 (.slice (some ⟨g6, 0, none⟩) 4 c6) 4 (u8s S) ∧ Below Q V w6) :=
                      ⟨by rw [show splice pg 4 (S.take 0) = pg by simp [splice]]; exact own_belowN H5.out.1 hbb (Nat.le_refl _), own_lowerN ow6 (by simp; omega), H5.out.2.1.trans (hbb.mono (by have := H5.out.2.2.2.2.2; omega))⟩
                    have HQ : Hid (S = bigI 4 Z ∧ S.length = 4 ∧ w5.heap.size ≤ g6) := ⟨hS, hSl, hqq⟩
                    clear hk6 ow6 b6 hbb hqq hS hSl hq6 hZw
                    go_wp2
                    go_loopw [19] (fun y wr => ∃ t : Nat, t ≤ 4 ∧ y = .int .i64 t ∧ wr.ownsRow Q 5 1 (.slice (some ⟨g5, 0, none⟩) N c5) N (u8s (splice pg 4 (S.take t))) ∧ wr.ownsRow w5.heap.size 5 1 (.slice (some ⟨g6, 0, none⟩) 4 c6) 4 (u8s S) ∧ Below Q V wr) (fun y _ => 4 - (intOf y).toNat)
                    case atStart => exact ⟨0, by omega, rfl, H6.out⟩
                    case round =>
                      obtain ⟨t, ht, rfl, oa, ob, blq⟩ := hrel
                      have hpl : pg.length = N := by rw [H5.out.2.2.2.2.2.2.2]; exact ckP_length (by rw [H2.out.2.2.2.2]; exact HF.out.2.2.2.2.2.2.2.2.2)
                      rcases Nat.lt_or_ge t 4 with hlt3 | hge3
                      · have hlt' : (t : Int) < 4 := by omega
                        obtain ⟨T4, hT4⟩ : ∃ T4, T4 = 4 + t := ⟨_, rfl⟩
                        have hTw : IntKind.i64.wrap (4 + (t : Int)) = (T4 : Int) := by rw [IntKind.wrap_i64]; omega
                        have hTN : T4 < N := by have := HG.out; omega
                        have hTN' : (T4 : Int) < N := by omega
                        have hsl : (splice pg 4 (S.take t)).length = N := by rw [splice_length (by rw [hpl, List.length_take, HQ.out.2.1]; have := HG.out; omega)]; exact hpl
                        obtain ⟨v, hv⟩ : ∃ v, v = S.getD t 0 := ⟨_, rfl⟩
                        have ca : wr.cell? ⟨g6, t, none⟩ = some (.int .u8 v) := by
                          rw [ob.cellAt t (by omega), hv]
                          have := HQ.out.2.1
                          simp [u8s, List.getD, this, hlt3]
                        obtain ⟨z, hz⟩ : ∃ z, z = (splice pg 4 (S.take t)).getD T4 0 := ⟨_, rfl⟩
                        have cb : wr.cell? ⟨g5, T4, none⟩ = some (.int .u8 z) := by
                          rw [oa.cellAt T4 (by omega), hz]
                          simp [u8s, List.getD, hsl, hTN]
                        have fb := oa.frozenAt T4
                        obtain ⟨s1, _⟩ := oa.stored T4 (.int .u8 v)
                        rw [u8s_put] at s1
                        have e := splice_next (p := pg) (S := S) (j := t) (by have := HG.out; omega) HQ.out.2.1 hlt3
                        rw [← hT4, ← hv] at e
                        rw [e] at s1
                        have HR : Hid ((wr.setCell ⟨g5, T4, none⟩ (.int .u8 v)).ownsRow Q 5 1 (.slice (some ⟨g5, 0, none⟩) N c5) N (u8s (splice pg 4 (S.take (t + 1)))) ∧ (wr.setCell ⟨g5, T4, none⟩ (.int .u8 v)).ownsRow w5.heap.size 5 1 (.slice (some ⟨g6, 0, none⟩) 4 c6) 4 (u8s S) ∧ Below Q V (wr.setCell ⟨g5, T4, none⟩ (.int .u8 v))) :=
                          ⟨s1, ownsRow_setCell_below ob (a := ⟨g5, T4, none⟩) (by show g5 < w5.heap.size; exact H5.out.2.2.2.2.2.2.1) _, blq.setCell (p := ⟨g5, T4, none⟩) (by show Q ≤ g5; exact H5.out.2.2.2.2.2.1) _⟩
                        clear oa ob blq hT4 hTN hpl hsl hv hz s1 e
                        go_wp2
                        go_roundw
                        case rel => exact ⟨t + 1, by omega, by simp, HR.out⟩
                        case measure => simp [intOf]; omega
                      · have ht4 : t = 4 := by omega
                        subst ht4
                        have hcb : splice pg 4 (S.take 4) = ckB N i m seq pt := by
                          rw [List.take_of_length_le (by rw [HQ.out.2.1]; omega), HQ.out.1, H5.out.2.2.2.1, join_splice, H5.out.2.2.2.2.2.2.2]
                          rfl
                        rw [hcb] at oa
                        have hD : ls[i]? = some (ckB N i m seq pt) := by
                          have h1 := ckL_at (s := s) (seq := seq) (ps := ps) (i := i) (by rw [← HG.out.2.2.2.2.2.2.2.2.1]; exact hlt)
                          rw [HG.out.2.1, ← HG.out.2.2.2.2.2.2.2.2.1, HG.out.2.2.2.1, Int.toNat_natCast, ← H2.out.2.2.2.1] at h1
                          rw [HL.out.1]; exact h1
                        have hDl : (ckB N i m seq pt).length = N := ckB_length (by rw [H2.out.2.2.2.2]; exact HF.out.2.2.2.2.2.2.2.2.2)
                        have hsz : W.heap.size ≤ Q := by rw [H2.out.2.2.1]; exact HV.out.2.size
                        have hbk : BkAt (fun j => W.heap.size ≤ j) wr (.slice (some ⟨g5, 0, none⟩) N c5) (ckB N i m seq pt) := ⟨by rw [hDl]; exact own_zero oa, fun c hc => Nat.le_trans hsz (oa.lt c hc).1, ckB_fits, by rw [hDl]; have := HG.out; omega⟩
                        have blV : Below V.heap.size V wr := by rw [← H2.out.2.2.1]; exact blq
                        have rowZ : RowAt (fun j => W.heap.size ≤ j) wr (.slice av i cv) (ls.take i) := HV.out.1.out (below_out Non blV) (fun _ _ => id) (fun _ _ _ _ => id)
                        have htl : (ls.take i).length = i := by rw [List.length_take, HL.out.2.2.2]; omega
                        have hWr : W.heap.size ≤ wr.heap.size := Nat.le_trans HV.out.2.size blV.size
                        obtain ⟨a9, c9, w9, e9, r9, g9, _⟩ := app_row rowZ hbk rfl (by rw [htl]; have := HF.out; omega) (fun k hk => Nat.le_trans hWr hk)
                        rw [htl] at e9 r9
                        have blW : Below W.heap.size W wr := HV.out.2.trans (blV.mono HV.out.2.size)
                        have H9 : Hid (RowAt (fun j => W.heap.size ≤ j) w9 (.slice a9 (i + 1) c9) (ls.take (i + 1)) ∧ Below W.heap.size W w9) := by
                          obtain ⟨vs, r1, r2, _⟩ := rowZ
                          exact ⟨by rw [take_snoc hD]; exact r9, (blW.alloc hWr _).grown g9 (by simp; omega) (fun k hk => r2 k hk)⟩
                        clear oa ob blq hcb hD hDl hsz hbk blV rowZ htl hWr r9 g9 blW hpl
                        go_wp2_with (at_builtin; refine wpList_append_run rfl (.tmp 169) (.tmp 171) 78 78 rfl _ _ rfl rfl _ _ e9 ?_)
                        clear e9
                        go_roundw
                        case rel => exact ⟨i + 1, a9, c9, by omega, by simp, by simp, H9.out.1, H9.out.2⟩
                        case measure => simp [intOf]; omega
          · have him : m = i := by omega
            subst him
            have htk : ls.take m = ls := List.take_of_length_le (by rw [HL.out.2.2.2]; exact Nat.le_refl _)
            rw [htk] at row
            have HR : Hid (DkEncGot w s seq ps (.returned (.tuple #[.slice av m cv, .int .i64 0])) wr) := by
              refine ⟨_, by rw [HL.out.2.2.1], ?_, HW.out.2.2.trans (bl.mono HW.out.2.2.size)⟩
              unfold ckO
              rw [if_pos HL.out.2.2.1, ← HL.out.1]
              exact row.mono (fun c hc _ => Nat.le_trans HW.out.2.2.size hc)
            clear row bl htk
            go_wp2
            go_ret2
            exact HR.out)
end Go.Proofs.YtfcbcpjcmihooaaGreat

/- What one call of rec's Check does, and of the document's Same. -/
namespace Go.Proofs.YtfcbcpjcmihooaaGreat
open Go.RowKit Go.Sort
set_option linter.unusedVariables false
set_option maxRecDepth 4000

theorem shl_pow : ∀ p : Fin 7, wrap64 (64 * 2 ^ p.val) = ((64 * 2 ^ p.val : Nat) : Int) := by decide +kernel
theorem shl_mem : ∀ p : Fin 7, (((64 * 2 ^ p.val : Nat) : Int) ∈ PowR) := by decide +kernel
theorem cwpList_append_run {P : Program} {w : World} {ops : Array Oper} {rest : List Oper} {o : Oper} {a : Act} {Q : Exit → Act → World → Prop} (hg : o.guard = none) (s x : Operand) (t t2 : TypeId)
    (hop : o.op = Op.call { callee := Callee.builtin Builtin.append, args := #[s, x], argTypes := #[t, t2] }) (u y : Value) (hs : a.eval s = u) (hx : a.eval x = y) (v' : Value) (w' : World)
    (hrun : (Builtin.append_ #[t, t2] o.type #[u, y]).run P w = .ok v' w') (hK : wpList P ops Q rest (a.put o.dst v') w') : wpList P ops Q (o :: rest) a w := by
  refine wpList_plain hg fun _ hK' => ?_
  unfold Oper.wp
  simp [execOp, hop, resolve, invoke, builtin, hs, hx, hrun, Result.andThen]
  exact hK' _ _ hK
theorem ends_regrown {w : World} (a : Option Addr) (n c : Nat) (zs : List Int) (h : BIn w a n zs) (d : Nat) (os : Array Obj) : Calls Tryz.prog 159 #[.slice a n c] (grow (redrawn w d) os) fun e w'' => e = .returned (.int .i64 (endsN zs : Nat)) ∧ ∃ p : Regrown, w'' = grow (redrawn w p.d) p.os :=
  Calls.regrown_of ((ends_of a n c zs _ (h.below (below_regrown w d os))).mono fun e w' h => ⟨h.1, by rw [h.2]; exact Below.refl _ _⟩)
end Go.Proofs.YtfcbcpjcmihooaaGreat

/- What one call of the document's own Encode does. -/
namespace Go.Proofs.YtfcbcpjcmihooaaGreat
open Go.RowKit
set_option linter.unusedVariables false
set_option maxRecDepth 4000

theorem cown_nil {w : World} {base : Nat} {a : Option Addr} {n c : Nat} {zs : List Value} (h : w.ownsRow base 5 1 (.slice a n c) n zs) : a = none → n = 0 ∧ c = 0 := by
  intro e
  subst e
  rcases h.2 with ⟨hv, hn⟩ | ⟨g, cap, cur, hv, _⟩
  · cases hv; exact ⟨hn, rfl⟩
  · cases hv
theorem page_of {seq : Int} {xs : List It} {N k : Nat} (h : N = 18 + 19 * xs.length + k + 1) : (headL seq xs ++ List.replicate k 0) ++ [231] = pageL seq xs N := by
  have e : N - 1 - (18 + 19 * xs.length) = k := by omega
  unfold pageL
  rw [e]
def DEnc (w : World) (seq : Int) (xs : List It) (b : Int) (e : Ending) (w' : World) : Prop :=
  ∃ A n C, e = .returned (.tuple #[.slice A n C, .int .i64 (encE xs b)]) ∧ w'.ownsRow w.heap.size 5 1 (.slice A n C) n (u8s (encB seq xs b)) ∧ Below w.heap.size w w'
theorem denc_no {w V : World} {seq : Int} {xs : List It} {b : Int} (h : Below w.heap.size w V) (hno : ¬ GoodR xs b) : DEnc w seq xs b (.returned (.tuple #[.slice none 0 0, .int .i64 110])) V := by
  refine ⟨none, 0, 0, ?_⟩
  unfold encE encB
  rw [if_neg hno, if_neg hno]
  exact ⟨rfl, World.ownsRow_nil _ _ _ _, h⟩
theorem head_next {seq : Int} {xs : List It} {n j : Nat} {x : It} (hx : xs[j]? = some x) : (hdB seq n ++ itsB (xs.take j)) ++ itB x = hdB seq n ++ itsB (xs.take (j + 1)) := by
  rw [List.take_add_one, hx, Option.toList_some, itsB_snoc, List.append_assoc]
set_option maxHeartbeats 4000000 in
theorem dEncode_of (seq : Int) (A : Option Addr) (n C : Nat) (xs : List It) (b : Int) (w : World) (hs : FitsU seq) (hi : ItsIn w A n xs) :
    Calls Tryz.prog 183 #[.agg #[.int .u64 seq, .slice A n C], .int .i64 b] w (DEnc w seq xs b) := by
  obtain ⟨q, hq⟩ : ∃ q, q = w.heap.size := ⟨_, rfl⟩
  have b0 : Blk (w.alloc (.cells #[.int .u64 seq, .slice A n C] 177)) q [.int .u64 seq, .slice A n C] 177 := Blk.new' hq.symm rfl
  have bw : Below w.heap.size w (w.alloc (.cells #[.int .u64 seq, .slice A n C] 177)) := (Below.refl _ _).alloc (Nat.le_refl _) _
  have hsz : (w.alloc (.cells #[.int .u64 seq, .slice A n C] 177)).heap.size = q + 1 := by simp [hq]
  go_enter Tryz.func183, Tryz.ntmps183
  go_upto_region 1 with fail
  rw [← hq]
  generalize hW : World.alloc w _ = W at b0 bw hsz ⊢
  have H : Hid (Blk W q [.int .u64 seq, .slice A n C] 177 ∧ Below w.heap.size w W ∧ W.heap.size = q + 1 ∧ FitsU seq ∧ ItsIn w A n xs ∧ q = w.heap.size) := ⟨b0, bw, hsz, hs, hi, hq⟩
  have c0 : W.cell? ⟨q, 0, none⟩ = some (.int .u64 seq) := b0.cell 0
  have c1 : W.cell? ⟨q, 1, none⟩ = some (.slice A n C) := b0.cell 1
  have g0 : ∀ o, (W.alloc o).cell? ⟨q, 0, none⟩ = some (.int .u64 seq) := fun o => (b0.alloc o).cell 0
  have g1 : ∀ o, (W.alloc o).cell? ⟨q, 1, none⟩ = some (.slice A n C) := fun o => (b0.alloc o).cell 1
  have hm := hi.2.1
  unfold maxLen at hm
  clear hW b0 bw hsz hs hi hq
  have cR := dRoom_of b W
  obtain ⟨R, hR⟩ : ∃ R, R = roomI b := ⟨_, rfl⟩
  rw [← hR] at cR
  by_cases hn0 : n = 0
  · have HN : Hid (¬ GoodR xs b) := fun h => by have := h.1; have := H.out.2.2.2.2.1.1; omega
    subst hn0
    have z1 : ((0 : Int) == 0) = true := rfl
    have z2 : (((0 : Nat) : Int) == 0) = true := rfl
    clear hR
    go_wp2_with (go_at_call 181; refine cR.mono ?_; rintro e W1 ⟨rfl, hw1⟩; replace hw1 := hw1.symm; subst hw1)
    go_ret2
    exact denc_no H.out.2.1 HN.out
  have hn0' : ((n : Int) == 0) = false := by simp; omega
  have hn0d : (n == 0) = false := by simp [hn0]
  by_cases hnr : R < (n : Int)
  · have HN : Hid (¬ GoodR xs b) := fun h => by have := h.2.1; have := H.out.2.2.2.2.1.1; omega
    have hnd : decide (R < (n : Int)) = true := by simp [hnr]
    clear hR
    go_wp2_with (go_at_call 181; refine cR.mono ?_; rintro e W1 ⟨rfl, hw1⟩; replace hw1 := hw1.symm; subst hw1)
    go_ret2
    exact denc_no H.out.2.1 HN.out
  have hnd : decide (R < (n : Int)) = false := by simp; omega
  have hrb := room_bounds (b := b) (by omega)
  have hpb := pow_bounds hrb.1
  obtain ⟨N, rfl⟩ : ∃ N : Nat, b = N := ⟨b.toNat, by omega⟩
  have HG : Hid (19 + 19 * n ≤ N ∧ 64 ≤ N ∧ N ≤ 4096 ∧ ((n : Int) ≤ roomI N) ∧ 0 < n ∧ n ≤ 214) := by
    have := room_le (N : Int)
    exact ⟨by omega, by omega, by omega, by omega, by omega, by omega⟩
  clear hR hrb hpb
  have hnw : IntKind.u64.wrap (n : Int) = n := by rw [IntKind.wrap_u64]; have := HG.out; omega
  go_upto_region 4 with (go_at_call 181; refine cR.mono ?_; rintro e W1 ⟨rfl, hw1⟩; replace hw1 := hw1.symm; subst hw1)
  clear hnr hnd hn0' hn0d hn0 cR
  have HL : Hid (∀ (X : World) (g : Nat), X.heap.size = g → NIn .u64 (X.alloc (.cells #[.int .u64 1129074503, .int .u64 0, .int .u64 seq, .int .u64 (n : Int)] 40)) (some ⟨g, 0, none⟩) 4 (hdV seq n)) := lit_hd H.out.2.2.2.1 (by have := HG.out; unfold FitsU; omega)
  go_wp2_with fail
  refine (refPack_of (some ⟨W.heap.size, 0, none⟩) 4 4 hdW (some ⟨W.heap.size + 1, 0, none⟩) 4 4 (hdV seq n) _ ((nin_hd rfl).alloc _) (HL.out _ _ (by simp)) (by omega) (by omega)).mono ?_
  rintro e w2 ⟨a2, k2, c2, rfl, hk2, ow2, b2⟩
  obtain rfl : k2 = 18 := by rw [hk2]; exact hdB_length seq n
  have hs1 := H.out.2.2.1
  have H2 : Hid (w2.ownsRow (q + 1) 5 1 (.slice a2 18 c2) 18 (u8s (hdB seq n ++ itsB (xs.take 0))) ∧ Below (q + 1) W w2) := by
    have e : hdB seq n ++ itsB (xs.take 0) = packL hdW (hdV seq n) := by simp [itsB, hdB]
    refine ⟨by rw [e]; exact own_lowerN ow2 (by simp; omega), ?_⟩
    exact (((Below.refl (q + 1) W).alloc (by omega) _).alloc (by simp; omega) _).trans (b2.mono (by simp; omega))
  clear hk2 ow2 b2 HL hnw c0 c1 g0 g1
  have HS : Hid (W.heap.size = q + 1) := hs1
  clear hs1
  go_wp2
  go_loopw [7, 8] (fun s i wr => ∃ (j : Nat) (a' : Option Addr) (c' : Nat), j ≤ n ∧ i = .int .i64 j ∧ s = .slice a' (18 + 19 * j : Nat) c' ∧ wr.ownsRow (q + 1) 5 1 (.slice a' (18 + 19 * j) c') (18 + 19 * j) (u8s (hdB seq n ++ itsB (xs.take j))) ∧ Below (q + 1) W wr ∧ ∀ y ∈ xs.take j, RightI y) (fun _ i _ => n - (intOf i).toNat)
  case atStart => exact ⟨0, a2, c2, Nat.zero_le _, rfl, rfl, H2.out.1, H2.out.2, by simp⟩
  case round =>
    obtain ⟨j, a', c', hj, rfl, rfl, ow, bl, hri⟩ := hrel
    obtain ⟨K, hK⟩ : ∃ K, K = 18 + 19 * j := ⟨_, rfl⟩
    rw [← hK] at ow ⊢
    have hV1 : W.heap.size ≤ wr.heap.size := bl.size
    have hV2 := HS.out
    have blw : Below w.heap.size w wr := H.out.2.1.trans (bl.mono (by rw [← H.out.2.2.2.2.2]; omega))
    have rr := H.out.1.below bl (by omega)
    have c1 : wr.cell? ⟨q, 1, none⟩ = some (.slice A n C) := rr.cell 1
    have HK : Hid (K = 18 + 19 * j) := hK
    clear hK
    rcases Nat.lt_or_ge j n with hlt | hge
    · obtain ⟨x, hx⟩ : ∃ x, xs[j]? = some x := ⟨xs[j]'(by have := H.out.2.2.2.2.1.1; omega), by simp⟩
      have hxf := H.out.2.2.2.2.1.2.2.1 x (List.mem_of_getElem? hx)
      obtain ⟨b', off, hA, hc⟩ := (H.out.2.2.2.2.1.below blw).2.2.2.resolve_left (by omega)
      subst hA
      have d0 : wr.cell? ⟨b', off + j * 5, none⟩ = some (.int .u32 x.t) := hc j x hx 0 _ rfl
      have d1 : wr.cell? ⟨b', off + j * 5 + 1, none⟩ = some (.int .u64 x.b) := hc j x hx 1 _ rfl
      have d2 : wr.cell? ⟨b', off + j * 5 + 2, none⟩ = some (.int .u8 x.k) := hc j x hx 2 _ rfl
      have d3 : wr.cell? ⟨b', off + j * 5 + 3, none⟩ = some (.int .u32 x.s) := hc j x hx 3 _ rfl
      have d4 : wr.cell? ⟨b', off + j * 5 + 4, none⟩ = some (.int .u16 x.e) := hc j x hx 4 _ rfl
      obtain ⟨qi, hqi⟩ : ∃ qi, qi = wr.heap.size := ⟨_, rfl⟩
      have kb : Blk (wr.alloc (.cells #[.int .u32 x.t, .int .u64 x.b, .int .u8 x.k, .int .u32 x.s, .int .u16 x.e] 179)) qi (itL x) 179 := Blk.new' hqi.symm rfl
      have ow7 := ow.alloc (.cells #[.int .u32 x.t, .int .u64 x.b, .int .u8 x.k, .int .u32 x.s, .int .u16 x.e] 179)
      have bl7 := bl.alloc (by omega : q + 1 ≤ wr.heap.size) (.cells #[.int .u32 x.t, .int .u64 x.b, .int .u8 x.k, .int .u32 x.s, .int .u16 x.e] 179)
      have blw7 := blw.alloc (by have := H.out.2.2.2.2.2; omega : w.heap.size ≤ wr.heap.size) (.cells #[.int .u32 x.t, .int .u64 x.b, .int .u8 x.k, .int .u32 x.s, .int .u16 x.e] 179)
      have hi' : (j : Int) < n := by omega
      have hwi : IntKind.i64.wrap ((j : Int) + 1) = (j : Int) + 1 := by have := HG.out; rw [IntKind.wrap_i64]; omega
      have HX : Hid (xs[j]? = some x ∧ x.Fits ∧ (∀ y ∈ xs.take j, RightI y) ∧ q + 1 ≤ wr.heap.size) := ⟨hx, hxf, hri, by omega⟩
      clear hx hxf hri hc ow bl blw hV1 hV2 rr
      go_upto_region 9 with fail
      rw [← hqi]
      have hsz7 : (wr.alloc (.cells #[.int .u32 x.t, .int .u64 x.b, .int .u8 x.k, .int .u32 x.s, .int .u16 x.e] 179)).heap.size = qi + 1 := by simp [hqi]
      generalize World.alloc wr _ = W7 at kb ow7 bl7 blw7 hsz7 ⊢
      have H7 : Hid (Blk W7 qi (itL x) 179 ∧ W7.ownsRow (q + 1) 5 1 (.slice a' K c') K (u8s (hdB seq n ++ itsB (xs.take j))) ∧ Below (q + 1) W W7 ∧ Below w.heap.size w W7 ∧ q + 1 ≤ W7.heap.size) := ⟨kb, ow7, bl7, blw7, by have := HX.out.2.2.2; omega⟩
      have k0 : W7.cell? ⟨qi, 0, none⟩ = some (.int .u32 x.t) := kb.cell 0
      have k1 : W7.cell? ⟨qi, 1, none⟩ = some (.int .u64 x.b) := kb.cell 1
      have k2 : W7.cell? ⟨qi, 2, none⟩ = some (.int .u8 x.k) := kb.cell 2
      have k3 : W7.cell? ⟨qi, 3, none⟩ = some (.int .u32 x.s) := kb.cell 3
      have k4 : W7.cell? ⟨qi, 4, none⟩ = some (.int .u16 x.e) := kb.cell 4
      have g0 : ∀ o, (W7.alloc o).cell? ⟨qi, 0, none⟩ = some (.int .u32 x.t) := fun o => (kb.alloc o).cell 0
      have g1 : ∀ o, (W7.alloc o).cell? ⟨qi, 1, none⟩ = some (.int .u64 x.b) := fun o => (kb.alloc o).cell 1
      have g2 : ∀ o, (W7.alloc o).cell? ⟨qi, 2, none⟩ = some (.int .u8 x.k) := fun o => (kb.alloc o).cell 2
      have g3 : ∀ o, (W7.alloc o).cell? ⟨qi, 3, none⟩ = some (.int .u32 x.s) := fun o => (kb.alloc o).cell 3
      have g4 : ∀ o, (W7.alloc o).cell? ⟨qi, 4, none⟩ = some (.int .u16 x.e) := fun o => (kb.alloc o).cell 4
      clear kb ow7 bl7 blw7 d0 d1 d2 d3 d4 hqi hsz7
      by_cases hr : RightI x
      · have HR : Hid (RightI x) := hr
        obtain ⟨u0, u2, u3, u4⟩ : IntKind.u64.wrap x.t = x.t ∧ IntKind.u64.wrap x.k = x.k ∧ IntKind.u64.wrap x.s = x.s ∧ IntKind.u64.wrap x.e = x.e := by
          obtain ⟨f0, _, f2, f3, f4⟩ := HX.out.2.1
          unfold Fits32 at f0 f3
          unfold Fits8 at f2
          unfold Fits16 at f4
          simp only [IntKind.wrap_u64]
          omega
        have HL : Hid (∀ (X : World) (g : Nat), X.heap.size = g → NIn .u64 (X.alloc (.cells #[.int .u64 x.t, .int .u64 x.b, .int .u64 x.k, .int .u64 x.s, .int .u64 x.e] 40)) (some ⟨g, 0, none⟩) 5 (itV x)) := lit_it HX.out.2.1
        rcases hr with ⟨h1, h2⟩ | ⟨h1, h2, h3⟩
        have f1 : (x.k != 1) = false := by simp [h1]
        have f0 : decide (4096 < x.e) = false := by simp; omega
        clear h1 h2
        go_upto_region 11 with fail
        clear f1 f0
        rotate_left
        have f1 : (x.k != 1) = true := by simp [h1]
        have f2 : (x.k != 2) = false := by simp [h1]
        have f3 : (x.s != 0) = false := by simp [h2]
        have f4 : (x.e != 0) = false := by simp [h3]
        have f0 : decide (4096 < x.e) = false := by simp; omega
        clear h1 h2 h3
        go_upto_region 11 with fail
        clear f0 f1 f2 f3 f4
        all_goals (
          go_wp2_with fail
          refine (refPack_of (some ⟨W7.heap.size, 0, none⟩) 5 5 itW (some ⟨W7.heap.size + 1, 0, none⟩) 5 5 (itV x) _ ((nin_it rfl).alloc _) (HL.out _ _ (by simp)) (by omega) (by omega)).mono ?_
          rintro e w9 ⟨a9, k9, c9, rfl, hk9, ow9, b9⟩
          obtain rfl : k9 = 19 := by rw [hk9]; exact itB_length x
          have hbb := (((Below.refl W7.heap.size W7).alloc (Nat.le_refl _) _).alloc (by simp) _).trans (b9.mono (by simp; omega))
          have H9 : Hid (w9.ownsRow (q + 1) 5 1 (.slice a' K c') K (u8s (hdB seq n ++ itsB (xs.take j))) ∧ BIn w9 a9 19 (itB x) ∧ (a9 = none → 19 = 0 ∧ c9 = 0) ∧ Below (q + 1) W w9 ∧ q + 1 ≤ w9.heap.size) :=
            ⟨own_belowN H7.out.2.1 hbb (Nat.le_refl _), own_bin ow9 (by unfold maxLen; omega) (itB_fits x), cown_nil ow9, H7.out.2.2.1.trans (hbb.mono H7.out.2.2.2.2), by have := hbb.size; have := H7.out.2.2.2.2; omega⟩
          clear hk9 ow9 b9 hbb HL g0 g1 g2 g3 g4 k0 k1 k2 k3 k4 u0 u2 u3 u4
          go_wp2_with (at_builtin; refine wpList_append_bin rfl (.tmp 69) (.tmp 86) rfl (q + 1) a' K c' _ rfl H9.out.1 a9 19 c9 (itB x) rfl H9.out.2.1 H9.out.2.2.1 (by have := HG.out; have := HK.out; omega) H9.out.2.2.2.2 ?_; intro a3 c3 w3 ow3 bl3)
          go_roundw
          case rel =>
            rw [head_next HX.out.1] at ow3
            have e : K + 19 = 18 + 19 * (j + 1) := by have := HK.out; omega
            rw [e] at ow3
            refine ⟨j + 1, a3, c3, by omega, by simp, by rw [e], ow3, H9.out.2.2.2.1.trans bl3, ?_⟩
            intro y hy
            rw [List.take_add_one, HX.out.1] at hy
            rcases List.mem_append.1 hy with h | h
            · exact HX.out.2.2.1 y h
            · simp at h; rw [h]; exact HR.out
          case measure => simp [intOf]; omega)
      · have HR : Hid (¬ RightI x) := hr
        have hbad : Hid (DEnc w seq xs (N : Int) (.returned (.tuple #[.slice none 0 0, .int .i64 110])) W7) := denc_no H7.out.2.2.2.1 (fun h => HR.out (h.2.2 x (List.mem_of_getElem? HX.out.1)))
        by_cases h0 : 4096 < x.e
        · have f0 : decide (4096 < x.e) = true := by simp [h0]
          clear hr h0
          go_wp2
          go_ret2
          exact hbad.out
        have f0 : decide (4096 < x.e) = false := by simp; omega
        have h1 : x.k ≠ 1 := fun h => hr (.inl ⟨h, by omega⟩)
        have f1 : (x.k != 1) = true := by simp [h1]
        by_cases h2 : x.k = 2
        · have f2 : (x.k != 2) = false := by simp [h2]
          by_cases h3 : x.s = 0
          · have f3 : (x.s != 0) = false := by simp [h3]
            have f4 : (x.e != 0) = true := by simp; intro h; exact hr (.inr ⟨h2, h3, h⟩)
            clear hr h0 h1 h2 h3
            go_wp2
            go_ret2
            exact hbad.out
          · have f3 : (x.s != 0) = true := by simp [h3]
            clear hr h0 h1 h2 h3
            go_wp2
            go_ret2
            exact hbad.out
        · have f2 : (x.k != 2) = true := by simp [h2]
          clear hr h0 h1 h2
          go_wp2
          go_ret2
          exact hbad.out
    · obtain rfl : j = n := by omega
      have hxl := H.out.2.2.2.2.1.1
      have hgood : GoodR xs (N : Int) := by
        refine ⟨by have := HG.out; omega, by have := HG.out; omega, fun y hy => hri y ?_⟩
        rw [List.take_of_length_le (by omega)]; exact hy
      have hhd : hdB seq j ++ itsB (xs.take j) = headL seq xs := by rw [List.take_of_length_le (by omega)]; unfold headL; rw [hxl]
      rw [hhd] at ow
      obtain ⟨M, hM⟩ : ∃ M, N = M + 1 := ⟨N - 1, by have := HG.out; omega⟩
      have hwM : IntKind.i64.wrap ((N : Int) - 1) = (M : Int) := by have := HG.out; rw [IntKind.wrap_i64]; omega
      have HZ : Hid (GoodR xs (N : Int) ∧ wr.ownsRow (q + 1) 5 1 (.slice a' K c') K (u8s (headL seq xs)) ∧ Below (q + 1) W wr ∧ K ≤ M ∧ N = M + 1 ∧ xs.length = j) := ⟨hgood, ow, bl, by have := HG.out; have := HK.out; omega, hM, hxl⟩
      clear hxl hgood hhd ow hM bl blw rr hri hV1 hV2
      go_wp2
      go_loopw [7] (fun s wr2 => ∃ (k : Nat) (a3 : Option Addr) (c3 : Nat), K + k ≤ M ∧ s = .slice a3 (K + k : Nat) c3 ∧ wr2.ownsRow (q + 1) 5 1 (.slice a3 (K + k) c3) (K + k) (u8s (headL seq xs ++ List.replicate k 0)) ∧ Below (q + 1) W wr2) (fun s _ => N - slLen s)
      case atStart => exact ⟨0, a', c', HZ.out.2.2.2.1, rfl, by simpa using HZ.out.2.1, HZ.out.2.2.1⟩
      case round =>
        obtain ⟨k, a3, c3, hk, rfl, ow, bl⟩ := hrel
        obtain ⟨P, hP⟩ : ∃ P, P = K + k := ⟨_, rfl⟩
        rw [← hP] at ow hk ⊢
        have HT : Hid (wr.ownsRow (q + 1) 5 1 (.slice a3 P c3) P (u8s (headL seq xs ++ List.replicate k 0)) ∧ Below (q + 1) W wr ∧ q + 1 ≤ wr.heap.size ∧ P = K + k) := ⟨ow, bl, by have := bl.size; have := HS.out; omega, hP⟩
        clear ow bl hP
        rcases Nat.lt_or_ge P M with hlt | hge
        · have hlt' : (P : Int) < M := by omega
          go_wp2_with (at_builtin; refine wpList_append_bin rfl (.tmp 93) (.tmp 94) rfl (q + 1) a3 P c3 _ rfl (HT.out.1.alloc _) (some ⟨wr.heap.size, 0, none⟩) 1 1 [0] rfl (new_bin rfl rfl rfl zero_one (by unfold maxLen; omega)) (fun h => by cases h) (by have := HG.out; have := HZ.out.2.2.2.2.1; omega) (by have := HT.out.2.2.1; simp; omega) ?_; intro a4 c4 w4 ow4 bl4)
          go_roundw
          case rel =>
            have e : P + 1 = K + (k + 1) := by have := HT.out.2.2.2; omega
            rw [List.append_assoc, ← List.replicate_succ', e] at ow4
            exact ⟨k + 1, a4, c4, by omega, by rw [e], ow4, (HT.out.2.1.alloc HT.out.2.2.1 _).trans bl4⟩
          case measure => simp [slLen]; have := HZ.out.2.2.2.2.1; omega
        · obtain rfl : P = M := by omega
          go_upto_region 15 with (at_builtin; refine wpList_append_bin rfl (.tmp 96) (.tmp 97) rfl (q + 1) a3 P c3 _ rfl (HT.out.1.alloc _) (some ⟨wr.heap.size, 0, none⟩) 1 1 [231] rfl (new_bin rfl rfl rfl last_one (by unfold maxLen; omega)) (fun h => by cases h) (by have := HG.out; have := HZ.out.2.2.2.2.1; omega) (by have := HT.out.2.2.1; simp; omega) ?_; intro a5 c5 w5 ow5 bl5)
          have e5 : P + 1 = N := by have := HZ.out.2.2.2.2.1; omega
          rw [page_of (N := N) (by have := HZ.out.2.2.2.2; have := HT.out.2.2.2; have := HK.out; omega), e5] at ow5
          rw [e5]
          obtain ⟨g5, hg5, hq5, hl5⟩ := cown_addr ow5 (by have := HG.out; omega)
          subst hg5
          have hcr := crI_fits fits0 (page_fits seq xs N)
          obtain ⟨Z, hZ⟩ : ∃ Z, Z = crI 0 (pageL seq xs N) := ⟨_, rfl⟩
          rw [← hZ] at hcr
          have hZw : IntKind.u64.wrap Z = Z := by have := hcr.1; have := hcr.2; rw [IntKind.wrap_u64]; omega
          have H5 : Hid (w5.ownsRow (q + 1) 5 1 (.slice (some ⟨g5, 0, none⟩) N c5) N (u8s (pageL seq xs N)) ∧ Below (q + 1) W w5 ∧ BIn w5 (some ⟨g5, 0, none⟩) N (pageL seq xs N) ∧ Z = crI 0 (pageL seq xs N) ∧ Fits32 Z ∧ q + 1 ≤ g5 ∧ g5 < w5.heap.size) :=
            ⟨ow5, (HT.out.2.1.alloc HT.out.2.2.1 _).trans bl5, own_bin ow5 (by have := HG.out; unfold maxLen; omega) (page_fits _ _ _), hZ, hcr, hq5, hl5⟩
          clear ow5 bl5 hcr hZ hq5 hl5 e5 hwM hge hk
          go_wp2_with (go_at_call 151; refine (dCrcSum_of (some ⟨g5, 0, none⟩) N c5 (pageL seq xs N) _ (H5.out.2.2.1.alloc _)).mono ?_; rintro e W9 ⟨rfl, hw9⟩; replace hw9 := hw9.symm; subst hw9; rw [← H5.out.2.2.2.1])
          refine (refPack_of (some ⟨w5.heap.size, 0, none⟩) 1 1 [4] (some ⟨w5.heap.size + 1, 0, none⟩) 1 1 [Z] _ ((nin_lit 3 (L := [4]) rfl rfl rfl rfl (by decide)).alloc _) (nin_litU 40 (by simp) rfl rfl (by intro z hz; simp only [List.mem_cons, List.not_mem_nil, or_false] at hz; subst hz; have := H5.out.2.2.2.2.1; unfold Fits32 at this; unfold FitsU; omega) (by omega)) (by omega) (by omega)).mono ?_
          rintro e w6 ⟨a6, k6, c6, rfl, hk6, ow6, b6⟩
          obtain rfl : k6 = 4 := by rw [hk6, pack4, bigI_length]
          rw [pack4] at ow6
          obtain ⟨g6, hg6, hq6, _⟩ := cown_addr ow6 (by omega)
          subst hg6
          have hbb := (((Below.refl w5.heap.size w5).alloc (Nat.le_refl _) _).alloc (by simp) _).trans (b6.mono (by simp; omega))
          have hqq : w5.heap.size ≤ g6 := by simp at hq6; omega
          obtain ⟨S, hS⟩ : ∃ S, S = bigI 4 Z := ⟨_, rfl⟩
          have hSl : S.length = 4 := by rw [hS, bigI_length]
          rw [← hS] at ow6
          have H6 : Hid (w6.ownsRow (q + 1) 5 1 (.slice (some ⟨g5, 0, none⟩) N c5) N (u8s (splice (pageL seq xs N) 4 (S.take 0))) ∧ w6.ownsRow w5.heap.size 5 1 (.slice (some ⟨g6, 0, none⟩) 4 c6) 4 (u8s S) ∧ Below (q + 1) W w6) :=
            ⟨by rw [show splice (pageL seq xs N) 4 (S.take 0) = pageL seq xs N by simp [splice]]; exact own_belowN H5.out.1 hbb (Nat.le_refl _), own_lowerN ow6 (by simp; omega), H5.out.2.1.trans (hbb.mono (by have := H5.out.2.2.2.2.2; omega))⟩
          have HQ : Hid (S = bigI 4 Z ∧ S.length = 4 ∧ w5.heap.size ≤ g6) := ⟨hS, hSl, hqq⟩
          clear hk6 ow6 b6 hbb hqq hS hSl hq6 hZw
          go_wp2
          go_loopw [11] (fun y wr => ∃ t : Nat, t ≤ 4 ∧ y = .int .i64 t ∧ wr.ownsRow (q + 1) 5 1 (.slice (some ⟨g5, 0, none⟩) N c5) N (u8s (splice (pageL seq xs N) 4 (S.take t))) ∧ wr.ownsRow w5.heap.size 5 1 (.slice (some ⟨g6, 0, none⟩) 4 c6) 4 (u8s S) ∧ Below (q + 1) W wr) (fun y _ => 4 - (intOf y).toNat)
          case atStart => exact ⟨0, by omega, rfl, H6.out⟩
          case round =>
            obtain ⟨t, ht, rfl, oa, ob, bl⟩ := hrel
            rcases Nat.lt_or_ge t 4 with hlt | hge
            · have hlt' : (t : Int) < 4 := by omega
              obtain ⟨T, hT⟩ : ∃ T, T = 4 + t := ⟨_, rfl⟩
              have hTw : IntKind.i64.wrap (4 + (t : Int)) = (T : Int) := by rw [IntKind.wrap_i64]; omega
              have hTN : T < N := by have := HG.out; omega
              have hTN' : (T : Int) < N := by omega
              have hpl : (pageL seq xs N).length = N := page_length (by have := HG.out; have := HZ.out.2.2.2.2.2; omega)
              have hsl : (splice (pageL seq xs N) 4 (S.take t)).length = N := by rw [splice_length (by rw [hpl, List.length_take, HQ.out.2.1]; have := HG.out; omega)]; exact hpl
              obtain ⟨v, hv⟩ : ∃ v, v = S.getD t 0 := ⟨_, rfl⟩
              have ca : wr.cell? ⟨g6, t, none⟩ = some (.int .u8 v) := by
                rw [ob.cellAt t (by omega), hv]
                have := HQ.out.2.1
                simp [u8s, List.getD, this, hlt]
              obtain ⟨y, hy⟩ : ∃ y, y = (splice (pageL seq xs N) 4 (S.take t)).getD T 0 := ⟨_, rfl⟩
              have cb : wr.cell? ⟨g5, T, none⟩ = some (.int .u8 y) := by
                rw [oa.cellAt T (by omega), hy]
                simp [u8s, List.getD, hsl, hTN]
              have fb := oa.frozenAt T
              obtain ⟨s1, _⟩ := oa.stored T (.int .u8 v)
              rw [u8s_put] at s1
              have e := splice_next (p := pageL seq xs N) (S := S) (j := t) page_eight HQ.out.2.1 hlt
              rw [← hT, ← hv] at e
              rw [e] at s1
              have HR : Hid ((wr.setCell ⟨g5, T, none⟩ (.int .u8 v)).ownsRow (q + 1) 5 1 (.slice (some ⟨g5, 0, none⟩) N c5) N (u8s (splice (pageL seq xs N) 4 (S.take (t + 1)))) ∧ (wr.setCell ⟨g5, T, none⟩ (.int .u8 v)).ownsRow w5.heap.size 5 1 (.slice (some ⟨g6, 0, none⟩) 4 c6) 4 (u8s S) ∧ Below (q + 1) W (wr.setCell ⟨g5, T, none⟩ (.int .u8 v))) :=
                ⟨s1, ownsRow_setCell_below ob (a := ⟨g5, T, none⟩) (by show g5 < w5.heap.size; exact H5.out.2.2.2.2.2.2) _, bl.setCell (p := ⟨g5, T, none⟩) (by show q + 1 ≤ g5; exact H5.out.2.2.2.2.2.1) _⟩
              clear oa ob bl hT hTN hpl hsl hv hy s1 e
              go_wp2
              go_roundw
              case rel => exact ⟨t + 1, by omega, by simp, HR.out⟩
              case measure => simp [intOf]; omega
            · obtain rfl : t = 4 := by omega
              have HR : Hid (DEnc w seq xs (N : Int) (.returned (.tuple #[.slice (some ⟨g5, 0, none⟩) N c5, .int .i64 0])) wr) := by
                refine ⟨some ⟨g5, 0, none⟩, N, c5, ?_⟩
                unfold encE encB
                rw [if_pos HZ.out.1, if_pos HZ.out.1, Int.toNat_natCast]
                have e : splice (pageL seq xs N) 4 (S.take 4) = encL seq xs N := by
                  rw [List.take_of_length_le (by rw [HQ.out.2.1]; omega), HQ.out.1, H5.out.2.2.2.1, join_splice]; rfl
                rw [e] at oa
                refine ⟨rfl, own_lowerN oa (by rw [← H.out.2.2.2.2.2]; omega), H.out.2.1.trans (bl.mono (by rw [← H.out.2.2.2.2.2]; omega))⟩
              clear oa ob bl
              go_wp2
              go_ret2
              exact HR.out
end Go.Proofs.YtfcbcpjcmihooaaGreat

/- What one call of the document's At, Reset, Flush does. -/
namespace Go.Proofs.YtfcbcpjcmihooaaGreat
open Go.RowKit Go.Shelf
set_option linter.unusedVariables false
set_option maxRecDepth 4000
section
variable {O : Nat → Prop} {W : World} {p : Nat} {s : Sh} {zs : List Zn}
theorem out_cases {zs : List Zn} {zn : Int} (h : ¬ (0 ≤ zn ∧ zn ≤ (zs.length : Int) - 1)) : zn < 0 ∨ (¬ zn < 0 ∧ (zs.length : Int) ≤ zn) := by omega
theorem rAt_of (zn : Int) (hd : Dv 142 O W p s zs) :
    Calls Tryz.prog 135 #[.pointer (some ⟨p, 0, none⟩), .int .i64 zn] W fun e w' => e = .returned (.tuple #[.int .i64 ((atZ zs zn).1.length : Nat), .int .i64 (atZ zs zn).2]) ∧ Below W.heap.size W w' := by
  obtain ⟨g, c, vs, hv⟩ := hd
  have c4 := hv.pcell.2.2.2.2
  rcases zone_cases zs zn with ⟨i, z, rfl, hz, hi, hb⟩ | ⟨hn, hb⟩
  · rw [atZ_in hz]
    obtain ⟨a, cc, hu, hr, z0, z1⟩ := hv.at hz
    have hi' : (i : Int) < zs.length := by omega
    clear hv hr hz hu hb
    go_enter Tryz.func135, Tryz.ntmps135
    go_wp2
    go_quiet (fail)
    go_wp2
    go_ret2
    exact ⟨rfl, below_drewN _ _⟩
  · rw [atZ_out hn]
    rcases out_cases hn with h | ⟨h1, h2⟩
    · clear hb hn hv
      go_enter Tryz.func135, Tryz.ntmps135
      go_wp2
      go_ret2
      exact ⟨rfl, Below.refl _ _⟩
    · clear hb hn hv
      go_enter Tryz.func135, Tryz.ntmps135
      go_wp2
      go_ret2
      exact ⟨rfl, Below.refl _ _⟩
theorem rReset_of (zn : Int) (hd : Dv 142 O W p s zs) :
    Calls Tryz.prog 100 #[.pointer (some ⟨p, 0, none⟩), .int .i64 zn] W fun e w' => e = .returned (.int .i64 (resetE zs zn)) ∧ Step 142 O W p s (resetZ zs zn) w' := by
  obtain ⟨g, c, vs, hv⟩ := hd
  have c4 := hv.pcell.2.2.2.2
  rcases zone_cases zs zn with ⟨i, z, rfl, hz, hi, hb⟩ | ⟨hn, hb⟩
  · rw [resetZ_in, resetE, if_pos (by omega)]
    obtain ⟨a, cc, hu, hr, z0, z1⟩ := hv.at hz
    have f0 := hv.free (i * 2)
    have f1 := hv.free (i * 2 + 1)
    have HR : Hid (Step 142 O W p s (zs.set i ([], 0)) ((W.setCell ⟨g, i * 2, none⟩ (.slice none 0 0)).setCell ⟨g, i * 2 + 1, none⟩ (.int .i64 0))) := hv.reset hz
    have hi' : (i : Int) < zs.length := by omega
    clear hv hr hz hu hb
    go_enter Tryz.func100, Tryz.ntmps100
    go_wp2
    go_ret
    exact ⟨rfl, HR.out⟩
  · rw [resetZ_out hn, resetE, if_neg hn]
    have HD : Hid (Step 142 O W p s zs W) := step_of ⟨g, c, vs, hv⟩ (Out.refl _ _)
    rcases out_cases hn with h | ⟨h1, h2⟩
    · clear hb hn hv
      go_enter Tryz.func100, Tryz.ntmps100
      go_wp2
      go_ret
      exact ⟨rfl, HD.out⟩
    · clear hb hn hv
      go_enter Tryz.func100, Tryz.ntmps100
      go_wp2
      go_ret
      exact ⟨rfl, HD.out⟩

set_option maxHeartbeats 2000000 in
theorem rFlush_of (hd : Dv 142 O W p s zs) :
    Calls Tryz.prog 102 #[.pointer (some ⟨p, 0, none⟩)] W fun e w' => (∃ v, e = .returned v) ∧ Step 142 O W p s (flushZ zs) w' := by
  obtain ⟨g, c, vs, hv⟩ := hd
  have hl := hv.small
  have HV : Hid (DvV 142 O W p s zs g c vs) := hv
  clear hv
  generalize hN : zs.length = N at *
  go_enter Tryz.func102, Tryz.ntmps102
  go_wp2
  go_loopw [2] (fun x wr => ∃ i : Nat, x = .int .i64 i ∧ i ≤ N ∧ DvV 142 O wr p s (upTo (fun _ z => fl z) zs i) g c vs ∧ Out O W wr) (fun x wr => N - (intOf x).toNat)
  case atStart => exact ⟨0, rfl, Nat.zero_le _, by rw [upTo_zero]; exact HV.out, Out.refl _ _⟩
  case round =>
    obtain ⟨i, rfl, hi, hv, ho⟩ := hrel
    have c4' := hv.pcell.2.2.2.2
    rw [upTo_length, hN] at c4'
    rcases Nat.lt_or_ge i N with hlt | hge
    · obtain ⟨z, hz⟩ : ∃ z, zs[i]? = some z := ⟨zs[i]'(by omega), by simp⟩
      obtain ⟨a, cc, hu, hr, z0, z1⟩ := hv.at ((upTo_get _ _ _).trans hz)
      have f1 := hv.free (i * 2 + 1)
      have HS : Hid (DvV 142 O (wr.setCell ⟨g, i * 2 + 1, none⟩ (.int .i64 (z.1.length : Nat))) p s (upTo (fun _ z => fl z) zs (i + 1)) g c vs ∧ Out O W (wr.setCell ⟨g, i * 2 + 1, none⟩ (.int .i64 (z.1.length : Nat)))) := by
        refine ⟨?_, ho.setCell (p := ⟨g, i * 2 + 1, none⟩) (.inl hv.og) _⟩
        have := hv.setD ((upTo_get _ _ _).trans hz) (z.1.length : Nat)
        rw [← upTo_next _ _ hz]
        exact this
      have hi' : (i : Int) < (N : Int) := by omega
      have hw : IntKind.i64.wrap ((i : Int) + 1) = (i : Int) + 1 := by rw [IntKind.wrap_i64]; omega
      have k4 := HS.out.1.pcell.2.2.2.2
      rw [upTo_length, hN] at k4
      have k0 : (wr.setCell ⟨g, i * 2 + 1, none⟩ (.int .i64 (z.1.length : Nat))).cell? ⟨g, i * 2, none⟩ = some (.slice a z.1.length cc) := by
        rw [World.cell?_setCell_other _ _ _ _ (by intro e; injection e with _ e; omega)]; exact z0
      clear hv ho hr hu
      go_wp2
      go_region_held3 (fun w' => w'.cell? ⟨p, 4, none⟩ = some (.slice (some ⟨g, 0, none⟩) N c) ∧ w'.cell? ⟨g, i * 2, none⟩ = some (.slice a z.1.length cc)) (first | exact ⟨c4', z0⟩ | exact ⟨k4, k0⟩) (fail)
      clear z0 z1 c4' k4 k0
      generalize World.setCell _ _ _ = V at HS ⊢
      go_wp2
      go_roundw
      case rel => exact ⟨i + 1, by simp, by omega, HS.out.1.under (Below.refl _ _).drew, HS.out.2.drew⟩
      case measure => simp [intOf]; omega
    · obtain rfl : i = N := by omega
      have HS : Hid (DvV 142 O wr p s (upTo (fun _ z => fl z) zs i) g c vs ∧ Out O W wr) := ⟨hv, ho⟩
      clear hv ho
      go_wp2
      go_end0
      refine ⟨⟨_, rfl⟩, step_of ⟨g, c, vs, ?_⟩ HS.out.2⟩
      have := HS.out.1
      rw [upTo_all _ _ (by omega)] at this
      exact this
end
end Go.Proofs.YtfcbcpjcmihooaaGreat
