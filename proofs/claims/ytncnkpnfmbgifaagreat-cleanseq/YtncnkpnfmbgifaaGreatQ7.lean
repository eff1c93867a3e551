/- Texts of this seat, one behind the other: SgD, SgDN. -/
import Derived.Test.YtncnkpnfmbgifaaGreatQ6
import Derived.Test.YtncnkpnfmbgifaaGreatP18
import Derived.Test.YtncnkpnfmbgifaaGreatP19
import Derived.Deep.RegionHeld3
import Derived.BigQuiet
/- What one call of the document's List, Low, New does; of SameInts. -/
namespace Go.Proofs.YtncnkpnfmbgifaaGreat
open Go.RowKit
set_option linter.unusedVariables false
set_option maxRecDepth 4000

theorem dgList_of (p g c : Nat) (s : Sh) (L : List Int) (a : Int) (w : World) (h : SegR w p g c s L) :
  Calls Tryz.prog 39 #[.pointer (some ⟨p, 0, none⟩), .int .u8 a] w fun e w' => ListGot w (listZ L a) e w' := by
 obtain ⟨N, hN⟩ : ∃ N, N = L.length := ⟨_, rfl⟩
 have c0 := h.c4
 rw [← hN] at c0
 have HS : Hid (SegR w p g c s L ∧ N = L.length) := ⟨h, hN⟩
 clear h hN
 go_enter Tryz.func39, Tryz.ntmps39
 go_wp2
 go_loopw [5, 6] (fun x i wr => ∃ (k : Nat) (A : Option Addr) (C : Nat), x = .slice A (listTo L a k).length C ∧ i = .int .i64 k ∧ k ≤ N ∧ wr.ownsRow w.heap.size 3 1 (.slice A (listTo L a k).length C) (listTo L a k).length (kInts .i64 (listTo L a k)) ∧ Below w.heap.size w wr) (fun _ i wr => N - (intOf i).toNat)
 case atStart => exact ⟨0, none, 0, rfl, rfl, Nat.zero_le _, World.ownsRow_nil _ _ _ _, Below.refl _ _⟩
 case round =>
  obtain ⟨k, A, C, rfl, rfl, hk, ow, hb⟩ := hrel
  rename World => wq
  have HI : Hid (wq.ownsRow w.heap.size 3 1 (.slice A (listTo L a k).length C) (listTo L a k).length (kInts .i64 (listTo L a k)) ∧ Below w.heap.size w wq) := ⟨ow, hb⟩
  have hs := HS.out.1.under hb
  have d0 := hs.c4
  rw [← HS.out.2] at d0
  rcases Nat.lt_or_ge k N with hlt | hge
  ·have hkL : k < L.length := by rw [← HS.out.2]; exact hlt
   have c1 := hs.at hkL
   obtain ⟨X, hX⟩ : ∃ X, X = L.getD k 0 := ⟨_, rfl⟩
   rw [← hX] at c1
   have hw : IntKind.i64.wrap ((k : Int) + 1) = (k : Int) + 1 := by have := HS.out.1.len.2; have := HS.out.2; rw [IntKind.wrap_i64]; omega
   have hll := listTo_length L a k
   have hN256 : N ≤ 256 := by rw [HS.out.2]; exact HS.out.1.len.2
   have HX : Hid (X = L.getD k 0 ∧ k < N ∧ (listTo L a k).length ≤ 256 ∧ k ≤ 256) := ⟨hX, hlt, by omega, by omega⟩
   have hsz := hb.size
   have HZ : Hid (w.heap.size ≤ wq.heap.size) := hsz
   clear hX hkL hs ow hb hk hll hN256 hsz
   by_cases hq : X = a
   ·have HQ : Hid (X = a) := hq
    subst hq
    obtain ⟨ys, hys⟩ : ∃ ys, ys = listTo L X k := ⟨_, rfl⟩
    rw [← hys] at HI ⊢
    have HY : Hid (ys = listTo L X k ∧ ys.length ≤ 256) := ⟨hys, by rw [hys]; exact HX.out.2.2.1⟩
    clear hys
    generalize hn : ys.length = n at HI ⊢
    have HN : Hid (ys.length = n ∧ n ≤ 256) := ⟨hn, by rw [← hn]; exact HY.out.2⟩
    clear hn
    go_wp2_with (at_builtin; refine wpList_append_nin (k := .i64) Tryz.underlying62 Tryz.zero_int (by omega) rfl (.tmp 25) (.tmp 27) rfl w.heap.size A n C _ rfl (HI.out.1.alloc _) (some ⟨wq.heap.size, 0, none⟩) 1 1 [(k : Int)] rfl (new_nin rfl rfl rfl (fun z hz => by simp at hz; subst hz; exact wfI (by have := HX.out.2.2.2; unfold F63; omega)) (by unfold maxLen; omega)) (fun h => by cases h) (by have := HN.out.2; omega) (by have := HZ.out; simp; omega) ?_; intro a2 c2 w2 ow2 bl2; have HB : Hid (w2.ownsRow w.heap.size 3 1 (.slice a2 (n + 1) c2) (n + 1) (kInts .i64 (ys ++ [(k : Int)])) ∧ Below w.heap.size w w2) := ⟨ow2, (HI.out.2.alloc HZ.out _).trans bl2⟩; clear ow2 bl2)
    go_roundw
    case rel =>
     have e1 : listTo L X (k + 1) = ys ++ [(k : Int)] := by rw [listTo_step, if_pos HX.out.1.symm, HY.out.1]
     have e2 : (ys ++ [(k : Int)]).length = n + 1 := by simp [HN.out.1]
     exact ⟨k + 1, a2, c2, by rw [e1, e2], by simp, by have := HX.out.2.1; omega, by rw [e1, e2]; exact HB.out.1, HB.out.2⟩
    case measure => have := HX.out.2.1; simp [intOf]; omega
   ·have HQ : Hid (¬ X = a) := hq
    go_wp2
    go_roundw
    case rel =>
     have e1 : listTo L a (k + 1) = listTo L a k := by rw [listTo_step, if_neg (by rw [← HX.out.1]; exact HQ.out)]
     exact ⟨k + 1, A, C, by rw [e1], by simp, by have := HX.out.2.1; omega, by rw [e1]; exact HI.out.1, HI.out.2⟩
    case measure => have := HX.out.2.1; simp [intOf]; omega
  ·obtain rfl : k = N := by omega
   clear hs ow hb hk
   go_wp2
   go_ret
   refine ⟨A, C, ?_, ?_, HI.out.2⟩
   ·unfold listZ; rw [← HS.out.2]; rfl
   ·unfold listZ; rw [← HS.out.2]; exact HI.out.1

theorem dgLow_of (p g c : Nat) (s : Sh) (L : List Int) (w : World) (h : SegR w p g c s L) :
  Calls Tryz.prog 106 #[.pointer (some ⟨p, 0, none⟩)] w fun e w' => e = .returned (.bool (lowB L s.r)) ∧ Below w.heap.size w w' := by
 have c3 := h.c3
 have HS : Hid (SegR w.drew p g c s L ∧ Below w.heap.size w w.drew) := ⟨h.drew, (Below.refl _ _).drew⟩
 obtain ⟨K, hK⟩ : ∃ K, K = (listZ L 1).length := ⟨_, rfl⟩
 have HL : Hid (∀ X, SegR X p g c s L → Calls Tryz.prog 39 #[.pointer (some ⟨p, 0, none⟩), .int .u8 1] X fun e w' => ∃ A c, e = .returned (.slice A K c) ∧ Below X.heap.size X w') := fun X hX => by
  refine (dgList_of p g c s L 1 X hX).mono ?_
  rintro e w' ⟨A, c, h1, _, h3⟩
  exact ⟨A, c, by rw [hK]; exact h1, h3⟩
 have HK : Hid (lowB L s.r = decide ((K : Int) ≤ s.r)) := show _ = _ by rw [hK]; rfl
 clear hK h
 go_enter Tryz.func106, Tryz.ntmps106
 go_wp2_with fail
 go_region_held3 (fun X => X.cell? ⟨p, 3, none⟩ = some (.int .i64 s.r)) (first | exact c3 | exact d3)
  ((go_at_call 39; refine (HL.out _ HS.out.1).mono ?_; rintro e w2 ⟨A2, c2, rfl, hb2⟩; have HS2 : Hid (Below w.heap.size w w2) := HS.out.2.trans (hb2.mono HS.out.2.size); have d3 := (HS.out.1.under hb2).c3; clear hb2))
 go_wp2
 go_ret
 exact ⟨by rw [HK.out]; rfl, HS2.out⟩
end Go.Proofs.YtncnkpnfmbgifaaGreat

/- What one call of the document's New does; of SameInts. -/
namespace Go.Proofs.YtncnkpnfmbgifaaGreat
open Go.RowKit
set_option linter.unusedVariables false
set_option maxRecDepth 4000

theorem newZ_snoc {k : Nat} (h : 2 ≤ k) : newZ (k + 1) = newZ k ++ [1] := by
 unfold newZ
 have e : k + 1 - 2 = (k - 2) + 1 := by omega
 rw [e, List.replicate_succ']
 rfl
theorem newZ_fits (k : Nat) : ∀ x ∈ newZ k, Fits8 x := fun x hx => by
 have := newZ_fit k x hx
 unfold Fits8; omega

def DNewGot (w : World) (s : Sh) (e : Ending) (w' : World) : Prop :=
 (¬ RightS s ∧ e = .returned (.pointer none) ∧ Below w.heap.size w w') ∨
 (RightS s ∧ ∃ p g c, e = .returned (.pointer (some ⟨p, 0, none⟩)) ∧ SegR w' p g c s (newZ s.z.toNat) ∧ w.heap.size ≤ p ∧ w.heap.size ≤ g ∧ Below w.heap.size w w')
structure NewSt (w wr : World) (q p g c k : Nat) (s : Sh) : Prop where
 sh : Blk wr q (shL s) 23
 st : Blk wr p [.int .i64 s.z, .int .i64 s.zb, .int .i64 s.b, .int .i64 s.r, .slice (some ⟨g, 0, none⟩) k c] 150
 row : wr.ownsRow w.heap.size 5 1 (.slice (some ⟨g, 0, none⟩) k c) k (kInts .u8 (newZ k))
 hp : w.heap.size ≤ p
 bel : Below w.heap.size w wr
theorem NewSt.drewN {w wr : World} {q p g c k : Nat} {s : Sh} (h : NewSt w wr q p g c k s) (n : Nat) : NewSt w (wr.drewN n) q p g c k s :=
 ⟨h.sh.drewN n, h.st.drewN n, h.row, h.hp, sbelow_drewN h.bel n⟩

theorem dgNew_of (s : Sh) (w : World) (hz : -9223372036854775808 ≤ s.z) :
  Calls Tryz.prog 131 #[.agg (shL s).toArray] w fun e w' => DNewGot w s e w' := by
 have hr := rRight_of s (w.alloc (.cells (shL s).toArray 23)) hz
 obtain ⟨z, zb, b, r⟩ := s
 obtain ⟨W, hW⟩ : ∃ W, W = w.alloc (.cells (shL ⟨z, zb, b, r⟩).toArray 23) := ⟨_, rfl⟩
 have bw : Below w.heap.size w W := by rw [hW]; exact (Below.refl _ _).alloc (Nat.le_refl _) _
 have hs : W.heap.size = w.heap.size + 1 := by rw [hW]; simp
 have hbk : Blk W w.heap.size (shL ⟨z, zb, b, r⟩) 23 := by rw [hW]; exact Blk.new' rfl rfl
 rw [← hW] at hr
 have HH : Hid (Below w.heap.size w W ∧ W.heap.size = w.heap.size + 1 ∧ Blk W w.heap.size (shL ⟨z, zb, b, r⟩) 23) := ⟨bw, hs, hbk⟩
 have HW : Hid (W = w.alloc (.cells (shL ⟨z, zb, b, r⟩).toArray 23)) := hW
 by_cases hR : RightS ⟨z, zb, b, r⟩
 ·rw [decide_eq_true hR] at hr
  have HR : Hid (Calls Tryz.prog 127 #[.agg (shL ⟨z, zb, b, r⟩).toArray] W fun e w' => e = .returned (.bool true) ∧ Below W.heap.size W w') := hr
  have HQ : Hid (RightS ⟨z, zb, b, r⟩) := hR
  clear hr hR hbk hs bw hW hz
  simp only [shL] at *
  go_enter Tryz.func131, Tryz.ntmps131
  go_upto_region 4 with (go_at_call 127; rw [← HW.out]; refine HR.out.mono ?_; rintro e w1 ⟨rfl, hb1⟩)
  have hw1 : Blk w1 w.heap.size [.int .i64 z, .int .i64 zb, .int .i64 b, .int .i64 r] 23 := HH.out.2.2.below hb1 (by have := HH.out.2.1; omega)
  have c0 : w1.cell? ⟨w.heap.size, 0, none⟩ = some (.int .i64 z) := hw1.cell 0
  have c1 : w1.cell? ⟨w.heap.size, 1, none⟩ = some (.int .i64 zb) := hw1.cell 1
  have c2 : w1.cell? ⟨w.heap.size, 2, none⟩ = some (.int .i64 b) := hw1.cell 2
  have c3 : w1.cell? ⟨w.heap.size, 3, none⟩ = some (.int .i64 r) := hw1.cell 3
  obtain ⟨N, hN⟩ : ∃ N : Nat, z = N := ⟨z.toNat, by have := HQ.out.1; simp only at this; omega⟩
  have hN1 : 6 ≤ N ∧ N ≤ 256 := by have := HQ.out.1; have := HQ.out.2.1; simp only at *; omega
  have HW1 : Hid (Blk w1 w.heap.size [.int .i64 z, .int .i64 zb, .int .i64 b, .int .i64 r] 23 ∧ Below w.heap.size w w1 ∧ w.heap.size ≤ w1.heap.size) := ⟨hw1, HH.out.1.trans (below_less hb1 (by have := HH.out.2.1; omega)), by have := hb1.size; have := HH.out.2.1; omega⟩
  clear hw1 hb1
  subst hN
  have hst0 : NewSt w ((w1.alloc (.cells #[.int .u8 4, .int .u8 4] 5)).alloc (.cells #[.int .i64 (N : Int), .int .i64 zb, .int .i64 b, .int .i64 r, .slice (some ⟨w1.heap.size, 0, none⟩) 2 2] 150)) w.heap.size (w1.heap.size + 1) w1.heap.size 2 2 ⟨N, zb, b, r⟩ := by
   have hb2 : Blk (w1.alloc (.cells #[.int .u8 4, .int .u8 4] 5)) w1.heap.size (kInts .u8 (newZ 2)) 5 := Blk.new' rfl rfl
   refine ⟨(HW1.out.1.alloc _).alloc _, Blk.new' (by simp) rfl, blk_own _ (hb2.alloc _) rfl (by unfold maxLen; omega) HW1.out.2.2, by have := HW1.out.2.2; omega, ?_⟩
   exact ((HW1.out.2.1.alloc HW1.out.2.2 _).alloc (by have := HW1.out.2.2; simp; omega) _)
  have HST : Hid (NewSt w ((w1.alloc (.cells #[.int .u8 4, .int .u8 4] 5)).alloc (.cells #[.int .i64 (N : Int), .int .i64 zb, .int .i64 b, .int .i64 r, .slice (some ⟨w1.heap.size, 0, none⟩) 2 2] 150)) w.heap.size (w1.heap.size + 1) w1.heap.size 2 2 ⟨N, zb, b, r⟩) := hst0
  clear hst0
  go_wp2
  generalize hV : World.alloc (World.alloc w1 _) _ = V at HST ⊢
  generalize hp : w1.heap.size + 1 = p at HST ⊢
  generalize hg : w1.heap.size = g at HST ⊢
  generalize hq : w.heap.size = q at HST ⊢
  have HqE : Hid (w.heap.size = q) := hq
  clear hV hp hg c0 c1 c2 c3 HW1 HR HW HH hq
  go_loopw [13] (fun x wr => ∃ (k g c : Nat), 2 ≤ k ∧ k ≤ N ∧ NewSt w wr q p g c k ⟨N, zb, b, r⟩) (fun x wr => match wr.cell? ⟨p, 4, none⟩ with | some (.slice _ n _) => N - n | _ => 0)
  case atStart => exact ⟨2, _, _, Nat.le_refl _, by omega, HST.out⟩
  case round =>
   obtain ⟨k, g', c, hk2, hk, hst⟩ := hrel
   clear HST
   have hall := fun n => hst.drewN n
   have HA : Hid (∀ n, NewSt w (wr.drewN n) q p g' c k ⟨N, zb, b, r⟩) := hall
   have d0 : wr.cell? ⟨q, 0, none⟩ = some (.int .i64 (N : Int)) := hst.sh.cell 0
   have d4 : wr.cell? ⟨p, 4, none⟩ = some (.slice (some ⟨g', 0, none⟩) k c) := hst.st.cell 4
   have HM : Hid (wr.cell? ⟨p, 4, none⟩ = some (.slice (some ⟨g', 0, none⟩) k c)) := d4
   have HK : Hid (2 ≤ k ∧ k ≤ N ∧ N ≤ 256) := ⟨hk2, hk, hN1.2⟩
   clear hall hst
   rcases Nat.lt_or_ge k N with hlt | hge
   ·have HL : Hid (k < N) := hlt
    clear hk hk2 hN1
    go_wp2
    go_quiet (fail)
    have hv := HA.out nq
    generalize hV : World.drewN _ _ = V' at hv ⊢
    have v4 : V'.cell? ⟨p, 4, none⟩ = some (.slice (some ⟨g', 0, none⟩) k c) := hv.st.cell 4
    have HV : Hid (NewSt w V' q p g' c k ⟨N, zb, b, r⟩ ∧ w.heap.size ≤ V'.heap.size) := ⟨hv, hv.bel.size⟩
    clear hv hV d0 d4
    go_wp2_with (at_builtin; refine wpList_append_kept (k := .u8) Tryz.underlying43 Tryz.zero_u8 (by omega) rfl (.tmp 25) (.tmp 26) rfl w.heap.size (some ⟨g', 0, none⟩) k c _ rfl (HV.out.1.row.alloc _) (some ⟨V'.heap.size, 0, none⟩) 1 1 [1] rfl (new_nin rfl rfl rfl (fun z hz => by simp at hz; subst hz; exact wf8 (by unfold Fits8; omega)) (by unfold maxLen; omega)) (fun h => by cases h) (by have := HK.out; omega) (by have := HV.out.2; simp; omega) ?_; intro a2 c2 w2 ow2 bl2 gr2; have hb2 : Blk w2 p [.int .i64 (N : Int), .int .i64 zb, .int .i64 b, .int .i64 r, .slice (some ⟨g', 0, none⟩) k c] 150 := (HV.out.1.st.alloc _).grownR gr2 (own_not HV.out.1.row HV.out.1.st (by decide)); have hs2 := (HV.out.1.sh.alloc (.cells #[.int .u8 1] 5)).grownR gr2 (own_not HV.out.1.row HV.out.1.sh (by decide)); have u4 : w2.cell? ⟨p, 4, none⟩ = some (.slice (some ⟨g', 0, none⟩) k c) := hb2.cell 4; have z4 := hb2.frozen 4; have HB : Hid (Blk w2 p [.int .i64 (N : Int), .int .i64 zb, .int .i64 b, .int .i64 r, .slice (some ⟨g', 0, none⟩) k c] 150 ∧ Blk w2 q (shL ⟨N, zb, b, r⟩) 23 ∧ w2.ownsRow w.heap.size 5 1 (.slice a2 (k + 1) c2) (k + 1) (kInts .u8 (newZ k ++ [1])) ∧ Below w.heap.size w w2) := ⟨hb2, hs2, ow2, (HV.out.1.bel.alloc HV.out.2 _).trans bl2⟩; clear hb2 hs2 ow2 bl2 gr2)
    obtain ⟨g2, hg2⟩ : ∃ g2, a2 = some ⟨g2, 0, none⟩ := by
     rcases HB.out.2.2.1.2 with ⟨hv, hn⟩ | ⟨g2, cap, cur, hv, _⟩
     ·omega
     ·cases hv; exact ⟨g2, rfl⟩
    subst hg2
    have hnew : NewSt w (w2.setCell ⟨p, 4, none⟩ (.slice (some ⟨g2, 0, none⟩) (k + 1) c2)) q p g2 c2 (k + 1) ⟨N, zb, b, r⟩ := by
     refine ⟨HB.out.2.1.set_other (blk_ne' HB.out.2.1 HB.out.1 (by decide)) _, HB.out.1.set 4 _, ?_, HV.out.1.hp, HB.out.2.2.2.setCell (by exact HV.out.1.hp) _⟩
     rw [newZ_snoc HK.out.1]
     exact (out_one w2 p 4 _).own HB.out.2.2.1 (fun x hx e => own_not HB.out.2.2.1 HB.out.1 (by decide) (by rw [← e]; exact hx))
    have HNew : Hid (NewSt w (w2.setCell ⟨p, 4, none⟩ (.slice (some ⟨g2, 0, none⟩) (k + 1) c2)) q p g2 c2 (k + 1) ⟨N, zb, b, r⟩) := hnew
    clear hnew
    go_roundw
    case rel => exact ⟨k + 1, g2, c2, by have := HK.out.1; omega, by have := HL.out; omega, HNew.out⟩
    case measure =>
     have m4 : (w2.setCell ⟨p, 4, none⟩ (.slice (some ⟨g2, 0, none⟩) (k + 1) c2)).cell? ⟨p, 4, none⟩ = some (.slice (some ⟨g2, 0, none⟩) (k + 1) c2) := HNew.out.st.cell 4
     rw [m4, HM.out]
     have := HL.out
     simp only
     omega
   ·obtain rfl : k = N := by omega
    clear hk hk2 hN1
    go_wp2
    go_quiet (fail)
    have hv := HA.out nq
    generalize hV : World.drewN _ _ = V' at hv ⊢
    have HV : Hid (NewSt w V' q p g' c k ⟨k, zb, b, r⟩) := hv
    clear hv hV d0 d4
    go_wp2
    go_ret
    refine .inr ⟨HQ.out, p, g', c, rfl, ?_, HV.out.hp, (HV.out.row.lt g' rfl).1, HV.out.bel⟩
    have e : ((k : Int)).toNat = k := by omega
    have el := newZ_length HK.out.1
    show SegR V' p g' c ⟨k, zb, b, r⟩ (newZ ((k : Int)).toNat)
    rw [e]
    refine ⟨?_, ?_, by rw [el]; have := HK.out; omega, newZ_fits k⟩
    ·rw [el]; exact HV.out.st
    ·rw [el]; exact own_zero HV.out.row
 ·rw [decide_eq_false hR] at hr
  have HR : Hid (Calls Tryz.prog 127 #[.agg (shL ⟨z, zb, b, r⟩).toArray] W fun e w' => e = .returned (.bool false) ∧ Below W.heap.size W w') := hr
  have HQ : Hid (¬ RightS ⟨z, zb, b, r⟩) := hR
  clear hr hR hbk hs bw hW hz
  simp only [shL] at *
  go_enter Tryz.func131, Tryz.ntmps131
  go_wp2_with (go_at_call 127; rw [← HW.out]; refine HR.out.mono ?_; rintro e w1 ⟨rfl, hb1⟩)
  go_ret
  exact .inl ⟨HQ.out, rfl, HH.out.1.trans (below_less hb1 (by have := HH.out.2.1; omega))⟩

end Go.Proofs.YtncnkpnfmbgifaaGreat
