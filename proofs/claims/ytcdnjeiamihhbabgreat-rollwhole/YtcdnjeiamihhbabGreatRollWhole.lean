/- Of whatever blocks are put: each zone is records one behind another, told by Scan, each item's block sums up right; there are as many as have been put. -/
import Derived.Test.YtcdnjeiamihhbabGreatRows
import Derived.BigQuiet
import Derived.Lib.QuietBelow
import Derived.Deep.RegionHeld3
import Derived.WalkKit
import Derived.ProofKit
import Derived.OpenShut
import Derived.ShutString
import Derived.ChangeOld
import Derived.Below
import Derived.Test.YtcdnjeiamihhbabGreatP55
namespace Go.Proofs.YtcdnjeiamihhbabGreat.rollWhole
open Go.ChangeShapes Go.WideShapes Go.ChangeAt Go.RowKit
open Go.ChangeMaps (open_string shut_string)
set_option linter.unusedVariables false

theorem own : ownKnob Tryz.prog.godebug = none := by kernel_rfl
theorem laidOut : laidOutB Tryz.prog = true := by kernel_rfl

theorem hid_of2 {p : Prop} (h : p) : Hid p := h
set_option maxRecDepth 20000 in
set_option maxHeartbeats 8000000 in
theorem walk (s0 : Sh) (a1 : Option Addr) (n1 c1 : Nat) (x1 : List Od) (w : World) (w0 : ShF s0) (w1 : OdsR w a1 n1 x1 ∧ n1 ≤ c1 ∧ (a1 = none → n1 = 0 ∧ c1 = 0) ∧ ∀ o ∈ x1, Fits8 o.k ∧ F64 o.z) :
  Calls Tryz.prog 3 #[.agg (shL s0).toArray, .slice a1 n1 c1] w fun e w' => e = .returned (.bool true) ∧ Below w.heap.size w w' := by
 obtain ⟨hpr, hnc, hnil, hof⟩ := w1
 have hb0 : Below w.heap.size w (w.alloc (.cells #[.int .i64 s0.z, .int .i64 s0.zb, .int .i64 s0.b, .int .i64 s0.r] 23)) := (Below.refl _ _).alloc (Nat.le_refl _) _
 have bs0 : Blk (w.alloc (.cells #[.int .i64 s0.z, .int .i64 s0.zb, .int .i64 s0.b, .int .i64 s0.r] 23)) w.heap.size (shC s0) 23 := Blk.new' rfl rfl
 obtain ⟨hv, hHv⟩ : ∃ b, b = @decide (HvO s0 x1) (Classical.propDecidable _) := ⟨_, rfl⟩
 have HHv : Hid (Calls Tryz.prog 5 #[.agg #[.int .i64 s0.z, .int .i64 s0.zb, .int .i64 s0.b, .int .i64 s0.r], .slice a1 n1 c1] (w.alloc (.cells #[.int .i64 s0.z, .int .i64 s0.zb, .int .i64 s0.b, .int .i64 s0.r] 23)) fun e w' => e = .returned (.int .i64 (trB hv)) ∧ Below w.heap.size w w' ∧ Blk w' w.heap.size (shC s0) 23) := by
  rw [hHv]
  refine (Heavy_of s0 a1 n1 c1 x1 _ (hpr.below hb0)).mono ?_
  rintro e w' ⟨rfl, hb⟩
  exact ⟨rfl, hb0.trans (hb.mono hb0.size), bs0.below hb bs0.lt⟩
 have HH : Hid (hv = @decide (HvO s0 x1) (Classical.propDecidable _) ∧ OdsR w a1 n1 x1 ∧ ShF s0) := ⟨hHv, hpr, w0⟩
 have HKn : Hid (∀ V, Below w.heap.size w V → Blk V w.heap.size (shC s0) 23 → Calls Tryz.prog 6 #[] V fun e w' => e = .returned (.bool true) ∧ Below w.heap.size w w' ∧ Blk w' w.heap.size (shC s0) 23) := fun V hb hs => by
  refine (oknown_any V).mono ?_
  rintro e w' ⟨rfl, hb'⟩
  exact ⟨rfl, hb.trans (hb'.mono hb.size), hs.below hb' hs.lt⟩
 have hn1 := hpr.2.1
 clear hHv hpr hb0 bs0 w0 hof
 unfold shL
 cases hv with
 | true =>
  rw [show trB true = 1 from rfl] at HHv
  go_enter Tryz.func3, Tryz.ntmps3
  go_wp2_with (first
   | (go_at_call 5; refine HHv.out.mono ?_; rintro e W1 ⟨rfl, hb1, bs1⟩)
   | (go_at_call 6; refine (HKn.out _ hb1 bs1).mono ?_; rintro e W2 ⟨rfl, hb2, _⟩))
  go_ret
  exact ⟨rfl, hb2⟩
 | false =>
  rw [show trB false = 0 from rfl] at HHv
  have HL : Hid (SmallS s0 ∧ n1 ≤ 40 ∧ (∀ o ∈ x1, o.l.length ≤ 30 ∧ ∀ p ∈ o.l, p.d.length ≤ 200)) := by
   have hn := light_ops (fun h => by have e := HH.out.1; rw [@decide_eq_true _ (Classical.propDecidable _) h] at e; cases e)
   have hlen := HH.out.2.1.1
   exact ⟨hn.1, by rw [← hlen]; exact hn.2.1, hn.2.2⟩
  by_cases hr : RightS s0
  ·have HN : Hid (∀ V, Below w.heap.size w V → Blk V w.heap.size (shC s0) 23 → Calls Tryz.prog 7 #[.agg #[.int .i64 s0.z, .int .i64 s0.zb, .int .i64 s0.b, .int .i64 s0.r]] V fun e w' => ∃ D k, e = .returned (.pointer (some ⟨k.ps, 0, none⟩)) ∧ Sq w w' s0 D k (st0 s0) 0 0) := fun V hb hs => by
    refine (snew_of s0 V (by have := HH.out.2.2.1; exact this.1)).mono ?_
    rintro e w' ⟨hb', ⟨hn, _⟩ | ⟨_, D, k, rfl, h1, h2⟩⟩
    ·exact (hn hr).elim
    ·exact ⟨D, k, rfl, h1, hb.trans (hb'.mono hb.size), hs.below hb' hs.lt, fun x hx => by have := h2 x hx; have := hs.lt; omega, st0_inv hr, rfl, ⟨by show (0 : Int) ≤ 0; omega, by show (0 : Int) ≤ _; omega⟩, by omega⟩
   obtain ⟨S, hS⟩ : ∃ S : Nat, s0.b = S := ⟨s0.b.toNat, by have := (pow_bounds (show s0.b ∈ PowR from hr.2.2.2.2.1)).1; omega⟩
   have HS : Hid (s0.b = S ∧ S ≤ 128 ∧ 64 ≤ S ∧ RightS s0) := ⟨hS, by have := HL.out.1.2.2; omega, by have := (pow_bounds (show s0.b ∈ PowR from hr.2.2.2.2.1)).1; omega, hr⟩
   clear hr hS
   go_enter Tryz.func3, Tryz.ntmps3
   go_wp2_with (first
    | (go_at_call 5; refine HHv.out.mono ?_; rintro e W1 ⟨rfl, hb1, bs1⟩)
    | (go_at_call 6; refine (HKn.out _ hb1 bs1).mono ?_; rintro e W2 ⟨rfl, hb2, bs2⟩; have sh0 : W2.cell? ⟨w.heap.size, 0, none⟩ = some (.int .i64 s0.z) := bs2.cell 0; have sh1 : W2.cell? ⟨w.heap.size, 1, none⟩ = some (.int .i64 s0.zb) := bs2.cell 1; have sh2 : W2.cell? ⟨w.heap.size, 2, none⟩ = some (.int .i64 s0.b) := bs2.cell 2; have sh3 : W2.cell? ⟨w.heap.size, 3, none⟩ = some (.int .i64 s0.r) := bs2.cell 3)
    | (go_at_call 7; refine (HN.out _ hb2 bs2).mono ?_; rintro e W3 ⟨D, k, rfl, hv3⟩))
   have H3 : Hid (Sq w W3 s0 D k (st0 s0) 0 0) := hv3
   clear sh0 sh1 sh2 sh3 bs2 bs1 hb1 hb2 hv3 HN HHv HKn
   go_loopw [6] (fun x wr => ∃ (i : Nat) (D' : Nat → Prop) (st : St) (c : Nat), x = .int .i64 i ∧ i ≤ n1 ∧ Sq w wr s0 D' k st c i ∧ Inv3 st ∧ ∃ G, Wh st G) (fun x _ => n1 - (intOf x).toNat)
   case atStart => exact ⟨0, D, st0 s0, 0, rfl, Nat.zero_le _, H3.out, st0_inv3 HS.out.2.2.2, _, st0_wh HS.out.2.2.2⟩
   case round =>
    obtain ⟨i, D', st, c, rfl, hi, sq, i3, G, wh⟩ := hrel
    have hn40 : n1 ≤ 40 := HL.out.2.1
    rcases Nat.lt_or_ge i n1 with hlt | hge
    ·have hi' : (i : Int) < n1 := by omega
     have hwi : IntKind.i64.wrap ((i : Int) + 1) = (i : Int) + 1 := by rw [IntKind.wrap_i64]; omega
     obtain ⟨o, b0, off, ho, rfl, A, N, C, hcl, hpts, hNC, _⟩ := HH.out.2.1.at hlt
     have hol := HL.out.2.2 o (List.mem_of_getElem? ho)
     have hNl : o.l.length = N := hpts.1
     have hN30 : N ≤ 30 := by rw [← hNl]; exact hol.1
     have hptw : PtsIn (fun x => x < w.heap.size) w A N o.l := hpts.pts (by omega) (fun p hp => by have := hol.2 p hp; omega)
     have hlc : ∀ V, Below w.heap.size w V → V.cell? ⟨b0, off + i * 3 + 1, none⟩ = some (.slice A N C) := fun V hb => (hb.cell (old_block (hcl 1 _ rfl))).trans (hcl 1 _ rfl)
     obtain ⟨l', hl'⟩ : ∃ l', l' = o.l.map (blkP S) := ⟨_, rfl⟩
     have hl'n : l'.length = N := by rw [hl', List.length_map]; exact hNl
     have hfit : ∀ p ∈ l', p.Fits := by rw [hl']; exact map_fits hptw.fits
     have hput := put_seq (l := l') sq.inv hfit ⟨sq.qb.1, by have := sq.qb.2; omega⟩ (by omega)
     have hwh := putM_wh (l := l') wh i3 hfit sq.qb.1 (by have := sq.qb.2; omega)
     have xl : wr.cell? ⟨b0, off + i * 3 + 1, none⟩ = some (.slice A N C) := hlc wr sq.bel
     have xs : wr.cell? ⟨w.heap.size, 2, none⟩ = some (.int .i64 s0.b) := sq.sh.cell 2
     have HBl : Hid (∀ V, Below wr.heap.size wr V → Calls Tryz.prog 9 #[.int .i64 s0.b, .slice A N C] V fun e w' => ∃ A' C', e = .returned (.slice A' N C') ∧ Rd w w' s0 D' k st c A' N C' l') := fun V hV => by
      rw [HS.out.1]
      refine ((sq.below hV).blocks (C := C) hptw (by have := HS.out.2.1; omega)).mono ?_
      rintro e w' ⟨A', C', rfl, rd⟩
      rw [← hl'] at rd
      exact ⟨A', C', rfl, rd⟩
     have HQ : Hid (st.s = s0 ∧ 0 ≤ st.q ∧ st.q ≤ 30 * i ∧ c ≤ 30 * i) := ⟨sq.ss, sq.qb.1, sq.qb.2, sq.cb⟩
     have HPt : Hid ((putM st l').2.s = st.s ∧ Inv3 (putM st l').2 ∧ 0 ≤ (putM st l').2.q ∧ (putM st l').2.q ≤ st.q + l'.length ∧ ∃ G', Wh (putM st l').2 G') := ⟨by rcases hput with h | ⟨r, _, _, _, _, h⟩; rw [h.2]; exact h, hwh⟩
     have HN2 : Hid (l'.length = N) := hl'n
     have hlc2 := hlc
     clear sq hput hl' hl'n hlc hptw hpts hcl ho hol hNl i3 wh hwh hfit
     have HLc : Hid (∀ V, Below w.heap.size w V → V.cell? ⟨b0, off + i * 3 + 1, none⟩ = some (.slice A N C)) := hlc2
     clear hlc2
     go_wp2_with fail
     go_region_held3 (fun Y => Y.cell? ⟨w.heap.size, 2, none⟩ = some (.int .i64 s0.b) ∧ Y.cell? ⟨b0, off + i * 3 + 1, none⟩ = some (.slice A N C)) (first | exact ⟨xs, xl⟩ | exact ⟨ys, yl⟩ | exact ⟨zs4, zl⟩)
      (first
      | (go_simp; go_at_call 9; refine (HBl.out _ (by first | exact Below.refl _ _ | exact (Below.refl _ _).drew)).mono ?_; rintro e V2 ⟨A', C', rfl, rd2⟩; have ys : V2.cell? ⟨w.heap.size, 2, none⟩ = some (.int .i64 s0.b) := rd2.sh.cell 2; have yl := HLc.out V2 rd2.bel; have HR2 : Hid (Rd w V2 s0 D' k st c A' N C' l') := rd2; clear rd2)
      | (go_simp; go_at_call 8; refine (HR2.out.put2 (by have := HQ.out.2.2.2; omega)).mono ?_; rintro e V4 ⟨rfl, ⟨D4, rd4⟩, _⟩; have zs4 : V4.cell? ⟨w.heap.size, 2, none⟩ = some (.int .i64 s0.b) := rd4.sh.cell 2; have zl := HLc.out V4 rd4.bel; have H4 : Hid (Rd w V4 s0 D4 k (putM st l').2 (c + N) A' N C' l') := rd4; clear rd4))
     go_wp2_with fail
     go_roundw
     case rel =>
      have r4 := H4.out
      obtain ⟨p1, p2, p3, p4, p5⟩ := HPt.out
      obtain ⟨q1, q2, q3, q4⟩ := HQ.out
      have hN2 := HN2.out
      exact ⟨i + 1, D4, _, c + N, by simp, by omega, ⟨r4.st, r4.bel, r4.sh, r4.low, p2.i2.inv, by rw [p1, q1], ⟨p3, by push_cast; omega⟩, by omega⟩, p2, p5⟩
     case measure => simp [intOf]; omega
    ·obtain rfl : i = n1 := by omega
     have HW : Hid (Wf st.s st.zs ∧ Wh st G ∧ st.s = s0 ∧ 0 ≤ st.q ∧ st.q ≤ 100000) := ⟨sq.inv.wf, wh, sq.ss, sq.qb.1, by have := sq.qb.2; omega⟩
     have HZ : Hid ((st.zs.length : Int) = s0.z ∧ st.zs.length ≤ 100000 ∧ 2 ≤ st.zs.length ∧ (sumG G st.zs.length : Int) = st.q) := by
      have h1 := sq.inv.wf.len
      rw [sq.ss] at h1
      have h2 := HS.out.2.2.2
      have h3 := h2.1
      have h4 := HL.out.1.1
      exact ⟨by omega, by omega, by omega, wh.sum⟩
     have H0 : Hid (Sq w wr s0 D' k st c i) := sq
     clear sq i3 wh
     go_wp2_with fail
     go_loopw [7, 8] (fun t x wr => ∃ z : Nat, x = .int .i64 z ∧ t = .int .u64 ((sumG G z : Nat) : Int) ∧ 2 ≤ z ∧ z ≤ st.zs.length ∧ Sq w wr s0 D' k st c i) (fun _ x _ => st.zs.length - (intOf x).toNat)
     case atStart =>
      have hl := HW.out.2.1.lo
      have h2 : sumG G 2 = 0 := by simp [sumG, hl.1, hl.2]
      exact ⟨2, rfl, by rw [h2]; rfl, Nat.le_refl _, HZ.out.2.2.1, H0.out⟩
     case round =>
      obtain ⟨z, rfl, rfl, hz2, hz, sq⟩ := hrel
      obtain ⟨wz, rfl⟩ : ∃ x, x = wr := ⟨wr, rfl⟩
      obtain ⟨_, hzl, _, _⟩ := HZ.out
      have xz : wz.cell? ⟨w.heap.size, 0, none⟩ = some (.int .i64 s0.z) := sq.sh.cell 0
      rcases Nat.lt_or_ge z st.zs.length with hlt | hge
      ·have hz' : (z : Int) < s0.z := by have := HZ.out.1; omega
       have hwz : IntKind.i64.wrap ((z : Int) + 1) = (z : Int) + 1 := by rw [IntKind.wrap_i64]; omega
       obtain ⟨L, hL⟩ : ∃ L, L = scanL st.zs (z : Nat) := ⟨_, rfl⟩
       obtain ⟨n, hn⟩ : ∃ n, n = (G z).length := ⟨_, rfl⟩
       have hsl : L = posB st.s.b 0 (G z) := by rw [hL]; exact HW.out.2.1.scan hz2 hlt
       have HDv : Hid (∀ V, Below wz.heap.size wz V → Calls Tryz.prog 11 #[.pointer (some ⟨k.ps, 0, none⟩)] V fun e w' => e = .returned (.pointer (some ⟨k.pd, 0, none⟩)) ∧ w' = V) := fun V hV => sdev_of (sq.below hV).sv
       have HSc : Hid (∀ V, Below wz.heap.size wz V → Calls Tryz.prog 10 #[.pointer (some ⟨k.pd, 0, none⟩), .int .i64 z] V fun e w' => ∃ A C B cB, e = .returned (.tuple #[.slice A n C, .slice B n cB]) ∧ ScR V.heap.size V w' A n C B n cB (L.map (elB st.zs (z : Nat))) (L.map (fun i => ((i : Nat) : Int))) ∧ Below wz.heap.size wz w') := fun V hV => by
        refine (oscan_of (z : Nat) (sq.below hV).sv.dv HW.out.1).mono ?_
        rintro e w' ⟨A, C, B, cB, n', rfl, sc⟩
        rw [← hL] at sc
        have h1 := sc.ln
        rw [List.length_map, hsl, posB_len, ← hn] at h1
        subst h1
        exact ⟨A, C, B, cB, rfl, sc, hV.trans (sc.bel.mono hV.size)⟩
       have HAt : Hid (∀ V, Below wz.heap.size wz V → Calls Tryz.prog 12 #[.pointer (some ⟨k.pd, 0, none⟩), .int .i64 z] V fun e w' => e = .returned (.tuple #[.int .i64 ((atZ st.zs (z : Nat)).1.length : Nat), .int .i64 (atZ st.zs (z : Nat)).2]) ∧ Below V.heap.size V w') := fun V hV => at_of (z : Nat) (sq.below hV).sv.dv
       have HRd : Hid (∀ V (bn : Nat) D, Below wz.heap.size wz V → blkZ st.zs ((z : Nat), (bn : Int)) = some D → Calls Tryz.prog 13 #[.pointer (some ⟨k.pd, 0, none⟩), .agg #[.int .i64 z, .int .i64 bn]] V fun e w' => ∃ a n c, e = .returned (.tuple #[.slice a n c, .int .u16 0]) ∧ Below V.heap.size V w' ∧ BIn w' a n D) := fun V bn D hV hD => by
        refine (read_of (z : Nat) (bn : Nat) (sq.below hV).sv.dv HW.out.1).mono ?_
        rintro e w' ⟨h, rfl, hk, hb⟩
        obtain ⟨a, c, rfl⟩ := own_slice hk.1
        obtain ⟨hr1, hr2⟩ := rd_some hD
        simp only at hr1 hr2
        rw [hr1]
        refine ⟨a, _, c, rfl, hb, ?_⟩
        have := hk.bin.1
        rw [hr2] at this ⊢
        exact this
       have HG : Hid (L = posB st.s.b 0 (G z) ∧ n = (G z).length ∧ 2 ≤ z ∧ z < st.zs.length ∧ (atZ st.zs (z : Nat)).1 = zonB st.s.b (G z) ∧ (zonB st.s.b (G z)).length ≤ 4096 ∧ n ≤ 4096) := by
        have h1 := HW.out.2.1.zone z hz2 hlt
        have h2 := HW.out.1.zone _ (List.getElem_mem hlt)
        have h3 := HW.out.1.right.2.2.2.1
        have h4 : (atZ st.zs (z : Nat)).1 = (st.zs[z]).1 := by rw [atZ_in (List.getElem?_eq_getElem hlt)]
        have h5 := zonB_ge st.s.b (G z)
        have h6 := h2.1
        rw [← h4, h1] at h6
        exact ⟨hsl, hn, hz2, hlt, h1, by omega, by omega⟩
       have HSq : Hid (Sq w wz s0 D' k st c i) := sq
       obtain ⟨T0, hT0⟩ : ∃ T0 : Nat, T0 = sumG G z := ⟨_, rfl⟩
       obtain ⟨NB, hNB⟩ : ∃ NB : Nat, NB = (atZ st.zs (z : Nat)).1.length := ⟨_, rfl⟩
       have HT : Hid (T0 = sumG G z ∧ NB = (zonB st.s.b (G z)).length ∧ T0 ≤ 200000) := ⟨hT0, by rw [hNB, HG.out.2.2.2.2.1], by
        have := HZ.out.2.2.2
        have h2 := HW.out.2.2.2.2
        have h3 : ∀ j, z ≤ j → sumG G z ≤ sumG G j := fun j hj => by
         induction j with
         | zero => obtain rfl : z = 0 := by omega
                   exact Nat.le_refl _
         | succ j ih =>
          rcases Nat.lt_or_ge z (j + 1) with h | h
          ·have := ih (by omega)
           show _ ≤ sumG G j + (G j).length
           omega
          ·obtain rfl : z = j + 1 := by omega
           exact Nat.le_refl _
        have := h3 st.zs.length (by omega)
        omega⟩
       rw [← hT0]
       rw [← hNB] at HAt
       clear hL hn hsl sq hT0 hNB
       go_wp2_with (first
        | (go_at_call 11; refine (HDv.out _ (by first | exact Below.refl _ _ | exact (Below.refl _ _).drew | assumption)).mono ?_; rintro e V1 ⟨rfl, hv1⟩; have hv2 := hv1.symm; clear hv1; subst hv2)
        | (go_at_call 10; refine (HSc.out _ (by first | exact Below.refl _ _ | exact (Below.refl _ _).drew)).mono ?_; rintro e V2 ⟨A, C, B, cB, rfl, sc, hb2⟩)
        | (go_at_call 12; refine (HAt.out _ hb2).mono ?_; rintro e V3 ⟨rfl, hb3⟩))
       have HR3 : Hid (Below wz.heap.size wz V3 ∧ ∃ q1 X1, ScR q1 X1 V3 A n C B n cB (L.map (elB st.zs (z : Nat))) (L.map (fun i => ((i : Nat) : Int)))) := ⟨hb2.trans (hb3.mono hb2.size), _, _, sc.below hb3⟩
       clear sc hb2 hb3 HAt HSc
       go_loopw [7, 13, 14] (fun t nx x w1 => ∃ j : Nat, x = .int .i64 j ∧ nx = .int .i64 (((zonB st.s.b ((G z).take j)).length : Nat) : Int) ∧ t = .int .u64 ((T0 + j : Nat) : Int) ∧ j ≤ n ∧ Below wz.heap.size wz w1 ∧ ∃ q1 X1, ScR q1 X1 w1 A n C B n cB (L.map (elB st.zs (z : Nat))) (L.map (fun i => ((i : Nat) : Int)))) (fun _ _ x _ => n - (intOf x).toNat)
       case atStart => exact ⟨0, rfl, rfl, rfl, Nat.zero_le _, HR3.out⟩
       case round =>
        obtain ⟨j, rfl, rfl, rfl, hj, hb4, q1, X1, sc⟩ := hrel
        obtain ⟨w1, rfl⟩ : ∃ x, x = wr := ⟨wr, rfl⟩
        obtain ⟨hLp, hnG, hz2', hlt', hzB, hzn, hn4⟩ := HG.out
        rcases Nat.lt_or_ge j n with hjn | hge
        ·have hjn' : (j : Int) < n := by omega
         have hwj : IntKind.i64.wrap ((j : Int) + 1) = (j : Int) + 1 := by rw [IntKind.wrap_i64]; omega
         obtain ⟨S, l, hGj⟩ : ∃ S l, (G z)[j]? = some (S, l) := ⟨((G z)[j]'(by omega)).1, ((G z)[j]'(by omega)).2, List.getElem?_eq_getElem (by omega)⟩
         obtain ⟨b', a, m, cc, g, g2, hb', rfl, rfl, c0, c1, c2, hit⟩ := sc.at2 hjn
         obtain ⟨e1, e2, e3⟩ := HW.out.2.1.el hz2' hlt' hGj
         have hbe : b' = (zonB st.s.b ((G z).take j)).length := by
          rw [hLp, posB_at _ _ _ _ (by omega), Nat.zero_add] at hb'
          exact (Option.some.inj hb').symm
         subst hbe
         have hP : (zonB st.s.b ((G z).take j)).length ≤ 4096 := by
          have h1 : zonB st.s.b (G z) = zonB st.s.b ((G z).take j) ++ zonB st.s.b ((G z).drop j) := by rw [← zonB_append, List.take_append_drop]
          rw [h1, List.length_append] at hzn
          omega
         have hrok : RecOk st.s S l := HW.out.2.1.ok z (S, l) (List.mem_of_getElem? hGj)
         have hSf : FitsU S := hrok.q
         rw [e1] at c0
         rw [e2] at hit
         have HD : Hid (∀ (kk : Nat) (p : Pt), l[kk]? = some p → p.x = false → blkZ st.zs ((z : Nat), (((zonB st.s.b ((G z).take j)).length + 1 + ((l.take kk).filter (fun p => !p.x)).length : Nat) : Int)) = some p.d) := fun kk p hk hx => HW.out.2.1.dat hz2' hlt' hGj hk hx
         have HP : Hid (∀ p ∈ l, p.Fits) := hrok.fits
         have hml : l.length = m := by have := hit.1; rw [List.length_map] at this; exact this
         have hm4 : m ≤ 214 := by
          have h1 := hrok.good.bounds.2.2.2.1
          rw [List.length_map] at h1
          omega
         obtain ⟨P, hPe⟩ : ∃ P, P = (zonB st.s.b ((G z).take j)).length := ⟨_, rfl⟩
         have hprev : j = 0 ∨ ((0 : Int) < (j : Int) ∧ 0 < j ∧ ∃ (j' : Nat) (S' : Int), IntKind.i64.wrap ((j : Int) - 1) = (j' : Int) ∧ (j' : Int) < n ∧ w1.cell? ⟨g, j' * 2, none⟩ = some (.int .u64 S') ∧ IntKind.u64.wrap (S' + 1) = S) := by
          rcases Nat.eq_zero_or_pos j with h0 | h0
          ·exact .inl h0
          ·refine .inr ⟨by omega, h0, j - 1, ?_⟩
           obtain ⟨S', l2, hG2⟩ : ∃ S' l2, (G z)[j - 1]? = some (S', l2) := ⟨((G z)[j - 1]'(by omega)).1, ((G z)[j - 1]'(by omega)).2, List.getElem?_eq_getElem (by omega)⟩
           obtain ⟨b2, _, _, _, g3, _, hb2, hg3, _, d0, _, _, _⟩ := sc.at2 (i := j - 1) (by omega)
           obtain ⟨f1, _, _⟩ := HW.out.2.1.el hz2' hlt' hG2
           rw [hLp, posB_at _ _ _ _ (by omega), Nat.zero_add] at hb2
           rw [← Option.some.inj hb2, f1] at d0
           have hgg : g = g3 := by
            have := congrArg Addr.block (Option.some.inj hg3)
            exact this
           have hS1 := HW.out.2.1.cons z (j - 1) (S', l2) (S, l) hG2 (by rw [show j - 1 + 1 = j by omega]; exact hGj)
           have hS2 : S = S' + 1 := hS1
           refine ⟨S', by rw [IntKind.wrap_i64]; omega, by omega, by rw [hgg]; exact d0, ?_⟩
           rw [← hS2]
           unfold FitsU at hSf
           rw [IntKind.wrap_u64]
           omega
         have HSc1 : Hid (ScR q1 X1 w1 (some ⟨g, 0, none⟩) n C (some ⟨g2, 0, none⟩) n cB (L.map (elB st.zs (z : Nat))) (L.map (fun i => ((i : Nat) : Int))) ∧ Below wz.heap.size wz w1 ∧ ItsIn w1 a m (l.map itP) ∧ P = (zonB st.s.b ((G z).take j)).length ∧ (zonB st.s.b ((G z).take (j + 1))).length = P + 1 + (l.filter (fun p => !p.x)).length ∧ l.length = m ∧ m ≤ 214 ∧ P ≤ 4096 ∧ w1.cell? ⟨g, j * 2 + 1, none⟩ = some (.slice a m cc) ∧ j < n) := ⟨sc, hb4, hit, hPe, by rw [hPe]; exact e3, hml, hm4, by rw [hPe]; exact hP, c1, hjn⟩
         rw [← hPe] at c2 HD ⊢
         have hP4 : P ≤ 4096 := by rw [hPe]; exact hP
         have hwP : IntKind.i64.wrap ((P : Int) + 1) = (P : Int) + 1 := by rw [IntKind.wrap_i64]; omega
         have hT0 := HT.out.2.2
         have hwT : IntKind.u64.wrap ((T0 : Int) + (j : Int) + 1) = (T0 : Int) + (j : Int) + 1 := by rw [IntKind.wrap_u64]; omega
         clear hPe hP e1 e2 e3 hb' sc hb4 hit hGj hSf hrok hml hLp hnG hzB hzn
         rcases hprev with hj0 | ⟨hj0, hj0n, j', S', hwm, hj'n, cp, hws⟩
         case' inl =>
          have C2 : ∀ n, (w1.drewN n).cell? ⟨g2, j, none⟩ = some (.int .i64 (P : Nat)) := fun n => c2
          have hjd : decide ((0 : Int) < (j : Int)) = false := decide_eq_false (by omega)
          have hjd2 : decide (0 < j) = false := decide_eq_false (by omega)
          clear hj0
          go_wp2_with fail
          go_quiet (fail)
          clear hjd hjd2
          rename_i nq
          try simp only [World.drewN_drewN]
          go_wp2_with fail
          have HNq : Hid (Below w1.heap.size w1 (w1.drewN nq)) := below_drewN _ _
          generalize World.drewN w1 nq = w1n at HNq ⊢
          clear C2
         case' inr =>
          have C2 : ∀ n, (w1.drewN n).cell? ⟨g2, j, none⟩ = some (.int .i64 (P : Nat)) := fun n => c2
          have C0 : ∀ n, (w1.drewN n).cell? ⟨g, j * 2, none⟩ = some (.int .u64 S) := fun n => c0
          have CP : ∀ n, (w1.drewN n).cell? ⟨g, j' * 2, none⟩ = some (.int .u64 S') := fun n => cp
          go_wp2_with fail
          go_quiet (fail)
          rename_i nq
          try simp only [World.drewN_drewN]
          go_wp2_with fail
          have HNq : Hid (Below w1.heap.size w1 (w1.drewN nq)) := below_drewN _ _
          generalize World.drewN w1 nq = w1n at HNq ⊢
          clear C2 C0 CP
         all_goals (
          go_loopw [13, 15] (fun nx x w2 => ∃ kk d : Nat, x = .int .i64 kk ∧ nx = .int .i64 ((P : Int) + 1 + (d : Nat)) ∧ kk ≤ m ∧ d = ((l.take kk).filter (fun p => !p.x)).length ∧ d ≤ kk ∧ Below w1.heap.size w1 w2) (fun _ x _ => m - (intOf x).toNat)
          case atStart => exact ⟨0, 0, rfl, by simp, Nat.zero_le _, by simp, Nat.le_refl _, HNq.out⟩
          case round =>
           obtain ⟨kk, d, rfl, rfl, hkm, hdk, hdl, hb6⟩ := hrel
           obtain ⟨w2, rfl⟩ : ∃ x, x = wr := ⟨wr, rfl⟩
           obtain ⟨hsc1, hb4, hit, hPq, hzq, hml, hm4, hP4, c1', hjn⟩ := HSc1.out
           clear hPq hzq hsc1
           have c1 : w2.cell? ⟨g, j * 2 + 1, none⟩ = some (.slice a m cc) := (hb6.cell (old_block c1')).trans c1'
           rcases Nat.lt_or_ge kk m with hkl | hkg
           ·have hkl' : (kk : Int) < m := by omega
            have hwk : IntKind.i64.wrap ((kk : Int) + 1) = (kk : Int) + 1 := by rw [IntKind.wrap_i64]; omega
            obtain ⟨p, hp⟩ : ∃ p, l[kk]? = some p := ⟨l[kk]'(by omega), by simp⟩
            have hx : (l.map itP)[kk]? = some (itP p) := by rw [List.getElem?_map, hp]; rfl
            have hits := hit.below hb6
            have hfx := hits.2.2.1 (itP p) (List.mem_of_getElem? hx)
            obtain ⟨bb, off, rfl, hc⟩ := hits.2.2.2.resolve_left (by omega)
            have hnx := wh_next l hp
            obtain ⟨ip, hxe⟩ : ∃ ip, itP p = ip := ⟨_, rfl⟩
            rw [hxe] at hx hfx
            obtain ⟨t, u, kd, sm, en⟩ := ip
            have y0 : w2.cell? ⟨bb, off + kk * 5 + 0, none⟩ = some (.int .u32 t) := hc kk _ hx 0 _ rfl
            have y1 : w2.cell? ⟨bb, off + kk * 5 + 1, none⟩ = some (.int .u64 u) := hc kk _ hx 1 _ rfl
            have y2 : w2.cell? ⟨bb, off + kk * 5 + 2, none⟩ = some (.int .u8 kd) := hc kk _ hx 2 _ rfl
            have y3 : w2.cell? ⟨bb, off + kk * 5 + 3, none⟩ = some (.int .u32 sm) := hc kk _ hx 3 _ rfl
            have y4 : w2.cell? ⟨bb, off + kk * 5 + 4, none⟩ = some (.int .u16 en) := hc kk _ hx 4 _ rfl
            simp only [Nat.add_zero] at y0
            have HB6 : Hid (Below w1.heap.size w1 w2 ∧ Below wz.heap.size wz w2 ∧ It.Fits ⟨t, u, kd, sm, en⟩ ∧ itP p = ⟨t, u, kd, sm, en⟩ ∧ l[kk]? = some p) := ⟨hb6, hb4.trans (hb6.mono hb4.size), hfx, hxe, hp⟩
            cases hpx : p.x with
            | true =>
             have hkd : kd = 2 := by
              have := congrArg It.k hxe
              unfold itP at this
              rw [if_pos hpx] at this
              exact this.symm
             subst hkd
             rw [hpx] at hnx
             have HN : Hid (d = ((l.take (kk + 1)).filter (fun p => !p.x)).length) := by show _ = _; rw [hnx, hdk]; simp
             clear hits hfx hc hx hxe hnx hb6 hit c1' hdk hp hpx hb4
             go_wp2
             exact ⟨⟨kk + 1, d, by simp, rfl, by omega, HN.out, by omega, HB6.out.1⟩, by simp [intOf]; omega⟩
            | false =>
             have hkd : kd = 1 := by
              have := congrArg It.k hxe
              unfold itP at this
              rw [if_neg (by simp [hpx])] at this
              exact this.symm
             subst hkd
             rw [hpx] at hnx
             have HN : Hid (d + 1 = ((l.take (kk + 1)).filter (fun p => !p.x)).length) := by show _ = _; rw [hnx, hdk]; simp
             have hDd := HD.out kk p hp hpx
             rw [← hdk] at hDd
             have hbn : ((P + 1 + d : Nat) : Int) = (P : Int) + 1 + (d : Nat) := by omega
             have HRd2 : Hid (∀ V, Below wz.heap.size wz V → Calls Tryz.prog 13 #[.pointer (some ⟨k.pd, 0, none⟩), .agg #[.int .i64 z, .int .i64 ((P : Int) + 1 + (d : Nat))]] V fun e w' => ∃ a n c, e = .returned (.tuple #[.slice a n c, .int .u16 0]) ∧ Below V.heap.size V w' ∧ BIn w' a n p.d) := fun V hV => by
              rw [← hbn]
              exact HRd.out V (P + 1 + d) p.d hV hDd
             have hCB : checkB ⟨t, u, 1, sm, en⟩ p.d = true := by rw [← hxe]; exact checkB_itP hpx
             have HCk : Hid (∀ V da dn dc, BIn V da dn p.d → Calls Tryz.prog 14 #[.agg #[.int .u32 t, .int .u64 u, .int .u8 1, .int .u32 sm, .int .u16 en], .slice da dn dc] V fun e w' => e = .returned (.bool true) ∧ Below V.heap.size V w') := fun V da dn dc hd => by
              have := check_of ⟨t, u, 1, sm, en⟩ da dn dc p.d V HB6.out.2.2.1 hd
              rw [hCB] at this
              exact this
             have hwn : IntKind.i64.wrap ((P : Int) + 1 + (d : Nat) + 1) = (P : Int) + 1 + (d : Nat) + 1 := by rw [IntKind.wrap_i64]; omega
             clear hits hfx hc hx hxe hnx hb6 hit c1' hdk hp hpx hb4 hDd hbn hCB
             have HY : Hid (∀ V, Below w2.heap.size w2 V → V.cell? ⟨g, j * 2 + 1, none⟩ = some (.slice (some ⟨bb, off, none⟩) m cc) ∧ V.cell? ⟨bb, off + kk * 5, none⟩ = some (.int .u32 t) ∧ V.cell? ⟨bb, off + kk * 5 + 1, none⟩ = some (.int .u64 u) ∧ V.cell? ⟨bb, off + kk * 5 + 2, none⟩ = some (.int .u8 1) ∧ V.cell? ⟨bb, off + kk * 5 + 3, none⟩ = some (.int .u32 sm) ∧ V.cell? ⟨bb, off + kk * 5 + 4, none⟩ = some (.int .u16 en)) := fun V hV => ⟨(hV.cell (old_block c1)).trans c1, (hV.cell (old_block y0)).trans y0, (hV.cell (old_block y1)).trans y1, (hV.cell (old_block y2)).trans y2, (hV.cell (old_block y3)).trans y3, (hV.cell (old_block y4)).trans y4⟩
             have hb2w := HB6.out.2.1
             go_wp2_with (first
              | (go_at_call 11; refine (HDv.out _ (by first | exact hb2w | exact hb2w.drew)).mono ?_; rintro e V1 ⟨rfl, hv1⟩; have hv2 := hv1.symm; clear hv1; subst hv2)
              | (go_at_call 13; refine (HRd2.out _ (by first | exact hb2w | exact hb2w.drew)).mono ?_; rintro e V5 ⟨da, dn, dc, rfl, hb7, hdb⟩; obtain ⟨i0, i1, i2, i3, i4, i5⟩ := HY.out _ hb7)
              | (go_at_call 14; refine (HCk.out _ _ _ _ hdb).mono ?_; rintro e V6 ⟨rfl, hb8⟩))
             have HE7 := hid_of2 (HB6.out.1.trans ((hb7.mono HB6.out.1.size).trans (hb8.mono (by have := HB6.out.1.size; have := hb7.size; omega))))
             clear hb7 hb8 hdb i0 i1 i2 i3 i4 i5
             refine ⟨?_, ?measure⟩
             repeat apply Exists.intro
             refine ⟨?rel, rfl⟩
             case rel => exact ⟨kk + 1, d + 1, by simp, by push_cast; simp [Int.add_assoc], by omega, HN.out, by omega, HE7.out⟩
             case measure => simp [intOf]; omega
           ·obtain rfl : kk = m := by omega
            have hkl' : ¬ (kk : Int) < kk := by omega
            have HN : Hid ((P : Int) + 1 + (d : Nat) = (((zonB st.s.b ((G z).take (j + 1))).length : Nat) : Int)) := by
             show _ = _
             have h5 := HSc1.out.2.2.2.2.1
             rw [h5, hdk, ← hml, List.take_length]
             omega
            have HB6 : Hid (Below w1.heap.size w1 w2) := hb6
            clear hdk hit c1' hb6 hb4
            go_wp2
            exact ⟨⟨j + 1, by simp, by rw [HN.out], by push_cast; simp [Int.add_assoc], by omega, HSc1.out.2.1.trans (HB6.out.mono HSc1.out.2.1.size), q1, X1, HSc1.out.1.below HB6.out⟩, by simp [intOf]; omega⟩)
        ·obtain rfl : j = n := by omega
         have hjn' : ¬ (j : Int) < j := by omega
         have hNB : (zonB st.s.b ((G z).take j)).length = NB := by rw [hnG, List.take_length]; exact HT.out.2.1.symm
         rw [hNB]
         have HE : Hid (Below wz.heap.size wz w1) := hb4
         clear sc hb4
         go_wp2
         refine ⟨⟨z + 1, by simp, ?_, by omega, by omega, HSq.out.below HE.out⟩, by simp [intOf]; omega⟩
         show Value.int .u64 _ = .int .u64 _
         rw [HT.out.1, hnG]
         rfl
      ·obtain rfl : z = st.zs.length := by omega
       have hz' : ¬ ((st.zs.length : Nat) : Int) < s0.z := by have := HZ.out.1; omega
       have HSe : Hid (Calls Tryz.prog 15 #[.pointer (some ⟨k.ps, 0, none⟩)] wz fun e w' => e = .returned (.int .u64 ((sumG G st.zs.length : Nat) : Int)) ∧ w' = wz) := by
        rw [HZ.out.2.2.2]
        exact sseq_of sq.sv
       have HB5 : Hid (Below w.heap.size w wz) := sq.bel
       clear sq
       go_wp2_with (go_at_call 15; refine HSe.out.mono ?_; rintro e V5 ⟨rfl, rfl⟩)
       go_ret
       exact ⟨by simp, HB5.out⟩
  ·have HN : Hid (∀ V, Below w.heap.size w V → Calls Tryz.prog 7 #[.agg #[.int .i64 s0.z, .int .i64 s0.zb, .int .i64 s0.b, .int .i64 s0.r]] V fun e w' => e = .returned (.pointer none) ∧ Below w.heap.size w w') := fun V hb => by
    refine (snew_of s0 V (by have := HH.out.2.2.1; exact this.1)).mono ?_
    rintro e w' ⟨hb', ⟨_, rfl⟩ | ⟨hh, _⟩⟩
    ·exact ⟨rfl, hb.trans (hb'.mono hb.size)⟩
    ·exact (hr hh).elim
   go_enter Tryz.func3, Tryz.ntmps3
   go_wp2_with (first
    | (go_at_call 5; refine HHv.out.mono ?_; rintro e W1 ⟨rfl, hb1, bs1⟩)
    | (go_at_call 6; refine (HKn.out _ hb1 bs1).mono ?_; rintro e W2 ⟨rfl, hb2, bs2⟩; have sh0 : W2.cell? ⟨w.heap.size, 0, none⟩ = some (.int .i64 s0.z) := bs2.cell 0; have sh1 : W2.cell? ⟨w.heap.size, 1, none⟩ = some (.int .i64 s0.zb) := bs2.cell 1; have sh2 : W2.cell? ⟨w.heap.size, 2, none⟩ = some (.int .i64 s0.b) := bs2.cell 2; have sh3 : W2.cell? ⟨w.heap.size, 3, none⟩ = some (.int .i64 s0.r) := bs2.cell 3)
    | (go_at_call 7; refine (HN.out _ hb2).mono ?_; rintro e W3 ⟨rfl, hb3⟩))
   go_ret
   exact ⟨rfl, hb3⟩

set_option maxRecDepth 100000 in
theorem lifted (os : Os) (started : os.Started) (H : Type) (enc : TypeId × Value → H) :
  ReturnsInHanded {} Tryz.checked os 3 .any (Rows.rollWholeSpec.pre6 enc Tryz.prog Tryz.f3 Rows.rollWholeRow.domain false) (Rows.rollWholeSpec.post enc Tryz.prog Tryz.f3 false true false false) := by
 refine returnsInHanded_of_change (C := Tryz.checked) own started (by kernel_rfl) Tryz.func3
  (ChangeSpec.witness6 (enc := enc) (C := Tryz.checked) false ⟨#[], #[.agg #[.int .i64 0, .int .i64 0, .int .i64 0, .int .i64 0], .slice none 0 0], []⟩ 8 (by kernel_rfl) (by kernel_rfl) (by kernel_rfl) (by kernel_rfl)) ?_
 intro W base args ds gs before hval0 hW hcnd _
 have hval : ∀ (j : Nat) t v, Tryz.f3.params[j]? = some t → args[j]? = some v → Value.okWide Tryz.prog W .any base t v := hval0
 have hW' := hW
 obtain ⟨p, q, hA0, hV, rfl, hfz, hnd⟩ := hW
 have hA : DataW.TrodAll enc Tryz.prog W 0 (fun _ => true) true Tryz.f3.params.toList args.toList ds p := hA0
 rw [Tryz.params3] at hA hval
 obtain ⟨v0, vs0, d0, ds0, p0, q0, hargs, rfl, rfl, h0, r0⟩ := trodAll_cons hA
 obtain ⟨v1, vs1, d1, ds1, p1, q1, rfl, rfl, rfl, h1, r1⟩ := trodAll_cons r0
 obtain ⟨rfl, rfl, rfl⟩ := trodAll_nil r1
 obtain rfl : args = #[v0, v1] := by cases args; simp_all
 obtain ⟨rfl, rfl⟩ := trodVars_none hV
 have k0 := h0
 have lt0 : ∀ x ∈ p0, x.block < W.heap.size := by obtain ⟨m, hm⟩ := k0; exact DataW.trod_lt m _ _ _ hm
 obtain ⟨s0, rfl, w0⟩ := open_shape (hval 0 23 v0 rfl rfl) h0
 obtain ⟨a1, n1, c1, rfl⟩ := okWide_slice Tryz.underlying24 (hval 1 24 v1 rfl rfl)
 have k1 := h1
 have lt1 : ∀ x ∈ p1, x.block < W.heap.size := by obtain ⟨m, hm⟩ := k1; exact DataW.trod_lt m _ _ _ hm
 obtain ⟨x1, w1⟩ := open_sops h1
 clear hA0 hval0
 refine (walk s0 a1 n1 c1 x1 W w0 w1).mono fun e W' ⟨he, bel⟩ => ?_
 subst he
 exact ⟨_, rfl, _, _, _, [], _, [], hW', trodAll_mk1 (shut_bool Tryz.underlying4 _), (trodAll_cons_mk (Below.trod laidOut (by kernel_rfl) (of_decide_eq_true (by kernel_rfl)) k0 bel lt0) (trodAll_cons_mk (Below.trod laidOut (by kernel_rfl) (of_decide_eq_true (by kernel_rfl)) k1 bel lt1) trodAll_mk0)), rfl, bel.frame _, fun h => by cases h⟩

theorem over : Rows.rollWholeRow.holds Tryz.pinned (OpenSpec.ofChange Rows.rollWholeSpec) :=
 OpenClaim.holds_of_wide 3 Tryz.f3 rfl rfl rfl rfl rfl rfl rfl ⟨rfl, rfl, rfl, rfl, rfl⟩ rfl rfl rfl rfl rfl (by kernel_rfl) Tryz.func3 (by kernel_rfl)
  (of_decide_eq_true (by kernel_rfl)) (by unfold Func.isWrapper; first | (rw [if_pos (by decide +kernel)]; kernel_rfl) | (rw [if_neg (by decide +kernel)]; exact ⟨rfl, rfl⟩))
  (fun os started H enc _ => lifted os started H enc)

end Go.Proofs.YtcdnjeiamihhbabGreat.rollWhole
namespace Go.Proofs.YtcdnjeiamihhbabGreat
/-- The statement. -/
theorem rollWhole_holds : Rows.RollWholeSaid := rollWhole.over
#print axioms rollWhole_holds
end Go.Proofs.YtcdnjeiamihhbabGreat
