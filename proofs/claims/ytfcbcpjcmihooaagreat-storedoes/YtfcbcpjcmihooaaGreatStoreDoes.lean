/- For every shape and every list of calls the statement StoreDoes returns true: the program's store and the document's store answer each call alike and hold the same behind each, and Get tells the same. -/
import Derived.Test.YtfcbcpjcmihooaaGreatRows
import Derived.Test.YtfcbcpjcmihooaaGreatK21
import Derived.BigQuiet
import Derived.Lib.QuietBelow
import Derived.Deep.RegionHeld3
import Derived.WalkKit
import Derived.ProofKit
import Derived.OpenShut
import Derived.ShutString
import Derived.ChangeOld
import Derived.Below
namespace Go.Proofs.YtfcbcpjcmihooaaGreat.storeDoes
open Go.ChangeShapes Go.WideShapes Go.ChangeAt Go.RowKit
open Go.ChangeMaps (open_string shut_string)
set_option linter.unusedVariables false

theorem own : ownKnob Tryz.prog.godebug = none := by kernel_rfl
theorem laidOut : laidOutB Tryz.prog = true := by kernel_rfl

set_option maxRecDepth 20000 in
set_option maxHeartbeats 8000000 in
theorem walk (s0 : Sh) (a1 : Option Addr) (n1 c1 : Nat) (x1 : List Od) (w : World) (w0 : ShF s0) (w1 : OdsR w a1 n1 x1 ∧ n1 ≤ c1 ∧ (a1 = none → n1 = 0 ∧ c1 = 0) ∧ ∀ o ∈ x1, Fits8 o.k ∧ F64 o.z) :
    Calls Tryz.prog 3 #[.agg (shL s0).toArray, .slice a1 n1 c1] w fun e w' => e = .returned (.bool true) ∧ Below w.heap.size w w' := by
  obtain ⟨hpr, hnc, hnil, hof⟩ := w1
  have hb0 : Below w.heap.size w (w.alloc (.cells #[.int .i64 s0.z, .int .i64 s0.zb, .int .i64 s0.b, .int .i64 s0.r] 23)) := (Below.refl _ _).alloc (Nat.le_refl _) _
  have bs0 : Blk (w.alloc (.cells #[.int .i64 s0.z, .int .i64 s0.zb, .int .i64 s0.b, .int .i64 s0.r] 23)) w.heap.size (shC s0) 23 := Blk.new' rfl rfl
  obtain ⟨hv, hHv⟩ : ∃ b, b = @decide (HvO s0 x1) (Classical.propDecidable _) := ⟨_, rfl⟩
  have HHv : Hid (Calls Tryz.prog 9 #[.agg #[.int .i64 s0.z, .int .i64 s0.zb, .int .i64 s0.b, .int .i64 s0.r], .slice a1 n1 c1] (w.alloc (.cells #[.int .i64 s0.z, .int .i64 s0.zb, .int .i64 s0.b, .int .i64 s0.r] 23)) fun e w' => e = .returned (.int .i64 (trB hv)) ∧ Below w.heap.size w w' ∧ Blk w' w.heap.size (shC s0) 23) := by
    rw [hHv]
    refine (Heavy_of s0 a1 n1 c1 x1 _ (hpr.below hb0)).mono ?_
    rintro e w' ⟨rfl, hb⟩
    exact ⟨rfl, hb0.trans (hb.mono hb0.size), bs0.below hb bs0.lt⟩
  have HO : Hid (∀ o ∈ x1, Fits8 o.k ∧ F64 o.z) := hof
  have HH : Hid (hv = @decide (HvO s0 x1) (Classical.propDecidable _) ∧ OdsR w a1 n1 x1 ∧ ShF s0) := ⟨hHv, hpr, w0⟩
  have HKn : Hid (∀ V, Below w.heap.size w V → Blk V w.heap.size (shC s0) 23 → Calls Tryz.prog 10 #[] V fun e w' => e = .returned (.bool true) ∧ Below w.heap.size w w' ∧ Blk w' w.heap.size (shC s0) 23) := fun V hb hs => by
    refine (sknown_any V).mono ?_
    rintro e w' ⟨rfl, hb'⟩
    exact ⟨rfl, hb.trans (hb'.mono hb.size), hs.below hb' hs.lt⟩
  have hn1 := hpr.2.1
  clear hHv hpr hb0 bs0 w0 hof
  unfold shL
  cases hv with
  | true =>
    rw [show trB true = 1 from rfl] at HHv
    go_enter Tryz.func3, Tryz.ntmps3
    go_wp2_with (first
      | (go_at_call 9; refine HHv.out.mono ?_; rintro e W1 ⟨rfl, hb1, bs1⟩)
      | (go_at_call 10; refine (HKn.out _ hb1 bs1).mono ?_; rintro e W2 ⟨rfl, hb2, _⟩))
    go_ret
    exact ⟨rfl, hb2⟩
  | false =>
    rw [show trB false = 0 from rfl] at HHv
    have HL : Hid (SmallS s0 ∧ n1 ≤ 40 ∧ (∀ o ∈ x1, o.l.length ≤ 30 ∧ ∀ p ∈ o.l, p.d.length ≤ 200)) := by
      have hn := light_ops (fun h => by have e := HH.out.1; rw [@decide_eq_true _ (Classical.propDecidable _) h] at e; cases e)
      have hlen := HH.out.2.1.1
      exact ⟨hn.1, by rw [← hlen]; exact hn.2.1, hn.2.2⟩
    have HN : Hid (∀ V, Below w.heap.size w V → Blk V w.heap.size (shC s0) 23 → Calls Tryz.prog 11 #[.agg #[.int .i64 s0.z, .int .i64 s0.zb, .int .i64 s0.b, .int .i64 s0.r]] V fun e w' => (Below w.heap.size w w' ∧ Blk w' w.heap.size (shC s0) 23) ∧ ((¬ RightS s0 ∧ e = .returned (.pointer none)) ∨ (RightS s0 ∧ ∃ D k, e = .returned (.pointer (some ⟨k.ps, 0, none⟩)) ∧ StV D w' k (st0 s0) 0 ∧ Below V.heap.size V w' ∧ ∀ x, StO D k x → V.heap.size ≤ x))) := fun V hb hs => by
      refine (snew_of s0 V (by have := HH.out.2.2.1; exact this.1)).mono ?_
      rintro e w' ⟨hb', hh⟩
      refine ⟨⟨hb.trans (hb'.mono hb.size), hs.below hb' hs.lt⟩, ?_⟩
      rcases hh with h | ⟨hr, D, k, rfl, h1, h2⟩
      · exact .inl h
      · exact .inr ⟨hr, D, k, rfl, h1, hb', h2⟩
    have HDN : Hid (∀ V, Below w.heap.size w V → Blk V w.heap.size (shC s0) 23 → Calls Tryz.prog 12 #[.agg #[.int .i64 s0.z, .int .i64 s0.zb, .int .i64 s0.b, .int .i64 s0.r]] V fun e w' => (Below w.heap.size w w' ∧ Blk w' w.heap.size (shC s0) 23) ∧ ((¬ RightS s0 ∧ e = .returned (.pointer none)) ∨ (RightS s0 ∧ ∃ D M k, e = .returned (.pointer (some ⟨k.ps, 0, none⟩)) ∧ SdV D M w' k (st0 s0) ∧ Below V.heap.size V w' ∧ ∀ x, SdO D M k x → V.heap.size ≤ x))) := fun V hb hs => by
      refine (dsnew_of s0 V (by have := HH.out.2.2.1; exact this.1)).mono ?_
      rintro e w' ⟨hb', hh⟩
      refine ⟨⟨hb.trans (hb'.mono hb.size), hs.below hb' hs.lt⟩, ?_⟩
      rcases hh with h | ⟨hr, D, M, k, rfl, h1, h2⟩
      · exact .inl h
      · exact .inr ⟨hr, D, M, k, rfl, h1, hb', h2⟩
    by_cases hr : RightS s0
    · have HN2 : Hid (∀ V, Below w.heap.size w V → Blk V w.heap.size (shC s0) 23 → Calls Tryz.prog 11 #[.agg #[.int .i64 s0.z, .int .i64 s0.zb, .int .i64 s0.b, .int .i64 s0.r]] V fun e w' => ∃ ps, e = .returned (.pointer (some ⟨ps, 0, none⟩)) ∧ Blk w' w.heap.size (shC s0) 23 ∧ Calls Tryz.prog 12 #[.agg #[.int .i64 s0.z, .int .i64 s0.zb, .int .i64 s0.b, .int .i64 s0.r]] w' fun e w2 => ∃ rs, e = .returned (.pointer (some ⟨rs, 0, none⟩)) ∧ Bo w.heap.size w ps rs (st0 s0) 0 w2) := fun V hb hs => by
        refine (HN.out V hb hs).mono ?_
        rintro e w' ⟨⟨hb', hs'⟩, ⟨hn, _⟩ | ⟨_, D, k, rfl, h1, b1, g1⟩⟩
        · exact (hn hr).elim
        · refine ⟨k.ps, rfl, hs', (HDN.out w' hb' hs').mono ?_⟩
          rintro e w2 ⟨_, ⟨hn, _⟩ | ⟨_, D2, M2, k2, rfl, h2, b2, g2⟩⟩
          · exact (hn hr).elim
          · exact ⟨k2.ps, rfl, bo_new hb h1 b1 g1 h2 b2 g2⟩
      have HR : Hid (RightS s0) := hr
      clear hr HN HDN
      go_enter Tryz.func3, Tryz.ntmps3
      go_wp2_with (first
        | (go_at_call 9; refine HHv.out.mono ?_; rintro e W1 ⟨rfl, hb1, bs1⟩)
        | (go_at_call 10; refine (HKn.out _ hb1 bs1).mono ?_; rintro e W2 ⟨rfl, hb2, bs2⟩; have sh0 : W2.cell? ⟨w.heap.size, 0, none⟩ = some (.int .i64 s0.z) := bs2.cell 0; have sh1 : W2.cell? ⟨w.heap.size, 1, none⟩ = some (.int .i64 s0.zb) := bs2.cell 1; have sh2 : W2.cell? ⟨w.heap.size, 2, none⟩ = some (.int .i64 s0.b) := bs2.cell 2; have sh3 : W2.cell? ⟨w.heap.size, 3, none⟩ = some (.int .i64 s0.r) := bs2.cell 3)
        | (go_at_call 11; refine (HN2.out _ hb2 bs2).mono ?_; rintro e W3 ⟨ps, rfl, bs3, hn3⟩; clear sh0 sh1 sh2 sh3; have sh0 : W3.cell? ⟨w.heap.size, 0, none⟩ = some (.int .i64 s0.z) := bs3.cell 0; have sh1 : W3.cell? ⟨w.heap.size, 1, none⟩ = some (.int .i64 s0.zb) := bs3.cell 1; have sh2 : W3.cell? ⟨w.heap.size, 2, none⟩ = some (.int .i64 s0.b) := bs3.cell 2; have sh3 : W3.cell? ⟨w.heap.size, 3, none⟩ = some (.int .i64 s0.r) := bs3.cell 3)
        | (go_at_call 12; refine hn3.mono ?_; rintro e W4 ⟨rs, rfl, hbo4⟩))
      have H4 : Hid (Bo w.heap.size w ps rs (st0 s0) 0 W4) := hbo4
      clear sh0 sh1 sh2 sh3 bs3 bs2 bs1 hb1 hb2 hbo4 HN2 HHv HKn
      go_loopw [7] (fun x wr => ∃ (i : Nat) (st : St), x = .int .i64 i ∧ i ≤ n1 ∧ Bo w.heap.size w ps rs st (i * 30) wr ∧ Inv2 st ∧ st.s = s0) (fun x _ => n1 - (intOf x).toNat)
      case atStart => exact ⟨0, st0 s0, rfl, Nat.zero_le _, H4.out, st0_inv2 HR.out, rfl⟩
      case round =>
        obtain ⟨i, st, rfl, hi, hbo, hin, hss⟩ := hrel
        have hn40 : n1 ≤ 40 := HL.out.2.1
        rcases Nat.lt_or_ge i n1 with hlt | hge
        · have hi' : (i : Int) < n1 := by omega
          have hwi : IntKind.i64.wrap ((i : Int) + 1) = (i : Int) + 1 := by rw [IntKind.wrap_i64]; omega
          obtain ⟨o, b0, off, ho, rfl, A, N, C, hcl, hpts, hNC, _⟩ := HH.out.2.1.at hlt
          have hol := HL.out.2.2 o (List.mem_of_getElem? ho)
          have hNl : o.l.length = N := hpts.1
          have hN30 : N ≤ 30 := by rw [← hNl]; exact hol.1
          have hptw : PtsIn (fun x => x < w.heap.size) w A N o.l := hpts.pts (by omega) (fun p hp => by have := hol.2 p hp; omega)
          have HCl : Hid (∀ V, Below w.heap.size w V → V.cell? ⟨b0, off + i * 3, none⟩ = some (.int .u8 o.k) ∧ V.cell? ⟨b0, off + i * 3 + 1, none⟩ = some (.slice A N C) ∧ V.cell? ⟨b0, off + i * 3 + 2, none⟩ = some (.int .i64 o.z)) := fun V hb => ⟨(hb.cell (old_block (hcl 0 _ rfl))).trans (hcl 0 _ rfl), (hb.cell (old_block (hcl 1 _ rfl))).trans (hcl 1 _ rfl), (hb.cell (old_block (hcl 2 _ rfl))).trans (hcl 2 _ rfl)⟩
          obtain ⟨u0, u1, u2⟩ := HCl.out wr hbo.bel
          have HDo : Hid (Calls Tryz.prog 13 #[.pointer (some ⟨ps, 0, none⟩), .pointer (some ⟨rs, 0, none⟩), .agg #[.int .u8 o.k, .slice A N C, .int .i64 o.z]] wr fun e w' => e = .returned (.int .i64 1) ∧ Bo w.heap.size w ps rs (doM st o) ((i + 1) * 30) w') := by
            refine (Does_of hbo hin.o (by rw [hss]; exact HR.out) o A N C (hptw.out (below_out' (O := fun j => w.heap.size ≤ j) hbo.bel (fun j h _ => h)) (fun x hx => by omega)) (HO.out o (List.mem_of_getElem? ho)).1 (by omega)).mono ?_
            rintro e w' ⟨rfl, h2⟩
            exact ⟨rfl, h2.mono (by omega)⟩
          have HI2 : Hid (Inv2 (doM st o) ∧ (doM st o).s = s0) := ⟨do_inv2 hin o hptw.fits, by rw [do_sh]; exact hss⟩
          have HP : Hid (PtsIn (fun x => x < w.heap.size) w A N o.l) := hptw
          generalize doM st o = st2 at HDo HI2
          clear hbo hin hss hptw hpts hcl ho hol hNl
          go_wp2_with (first
            | (go_at_call 13; refine HDo.out.mono ?_; rintro e V1 ⟨rfl, hb1⟩; have HSa := Same_of hb1 (by omega); clear u0 u1 u2 HDo hb1)
            | (go_at_call 14; refine HSa.mono ?_; rintro e V2 ⟨rfl, hb2⟩; have HB2 : Hid (Bo w.heap.size w ps rs st2 ((i + 1) * 30) V2) := hb2; clear HSa hb2))
          go_loopw [10] (fun x wr => ∃ kk : Nat, x = .int .i64 kk ∧ kk ≤ N ∧ Bo w.heap.size w ps rs st2 ((i + 1) * 30) wr) (fun x _ => N - (intOf x).toNat)
          case atStart => exact ⟨0, rfl, Nat.zero_le _, HB2.out⟩
          case round =>
            obtain ⟨kk, rfl, hkk, hbo⟩ := hrel
            obtain ⟨_, u1, _⟩ := HCl.out _ hbo.bel
            rcases Nat.lt_or_ge kk N with hlt2 | hge2
            · have hk' : (kk : Int) < N := by omega
              have hwk : IntKind.i64.wrap ((kk : Int) + 1) = (kk : Int) + 1 := by rw [IntKind.wrap_i64]; omega
              obtain ⟨p, bb, o2, hp, rfl, hbx, A1, L1, C1, hcl2, _, _, _, _, hfit⟩ := HP.out.at _ hlt2
              have HC2 : Hid (∀ V st3 m3, Bo w.heap.size w ps rs st3 m3 V → V.cell? ⟨b0, off + i * 3 + 1, none⟩ = some (.slice (some ⟨bb, o2, none⟩) N C) ∧ V.cell? ⟨bb, o2 + kk * 4, none⟩ = some (.int .u32 p.t) ∧ V.cell? ⟨bb, o2 + kk * 4 + 1, none⟩ = some (.int .u64 p.b)) := fun V st3 m3 hb => ⟨(HCl.out V hb.bel).2.1, (hb.bel.cell (old_block (hcl2 0 _ rfl))).trans (hcl2 0 _ rfl), (hb.bel.cell (old_block (hcl2 1 _ rfl))).trans (hcl2 1 _ rfl)⟩
              obtain ⟨_, y0, y1⟩ := HC2.out _ _ _ hbo
              have hplc := HI2.out.1.inv.plc
              have HG1 : Hid (Calls Tryz.prog 15 #[.pointer (some ⟨ps, 0, none⟩), .int .u32 p.t, .int .u64 p.b] wr.drew fun e X => ∃ a l c, e = .returned (.tuple #[.slice a l c, .bool (memT st2 (p.t, p.b)).isSome]) ∧ (Bo w.heap.size w ps rs st2 ((i + 1) * 30) X ∧ BIn X a l ((memT st2 (p.t, p.b)).getD [])) ∧ X.cell? ⟨b0, off + i * 3 + 1, none⟩ = some (.slice (some ⟨bb, o2, none⟩) N C) ∧ X.cell? ⟨bb, o2 + kk * 4, none⟩ = some (.int .u32 p.t) ∧ X.cell? ⟨bb, o2 + kk * 4 + 1, none⟩ = some (.int .u64 p.b)) := by
                refine (get_bo (p.t, p.b) ⟨hfit.1, hfit.2.1⟩ (hbo.under (Below.refl _ _).drew) (by omega) hplc).mono ?_
                rintro e X ⟨a, l, c, rfl, h2, h3⟩
                exact ⟨a, l, c, rfl, ⟨h2, h3⟩, HC2.out _ _ _ h2⟩
              have HG2 : Hid (∀ Y a l, (Bo w.heap.size w ps rs st2 ((i + 1) * 30) Y ∧ BIn Y a l ((memT st2 (p.t, p.b)).getD [])) → Calls Tryz.prog 16 #[.pointer (some ⟨rs, 0, none⟩), .int .u32 p.t, .int .u64 p.b] Y.drew fun e X => ∃ b l2 c, e = .returned (.tuple #[.slice b l2 c, .bool (memT st2 (p.t, p.b)).isSome]) ∧ (Bo w.heap.size w ps rs st2 ((i + 1) * 30) X ∧ BIn X a l ((memT st2 (p.t, p.b)).getD []) ∧ BIn X b l2 ((memT st2 (p.t, p.b)).getD [])) ∧ X.cell? ⟨b0, off + i * 3 + 1, none⟩ = some (.slice (some ⟨bb, o2, none⟩) N C) ∧ X.cell? ⟨bb, o2 + kk * 4, none⟩ = some (.int .u32 p.t) ∧ X.cell? ⟨bb, o2 + kk * 4 + 1, none⟩ = some (.int .u64 p.b)) := fun Y a l hh => by
                refine (dget_bo (p.t, p.b) (hh.1.under (Below.refl _ _).drew) (by omega) hplc a l (hh.2.below (Below.refl _ _).drew)).mono ?_
                rintro e X ⟨b, l2, c, rfl, h2, h3, h4⟩
                exact ⟨b, l2, c, rfl, ⟨h2, h3, h4⟩, HC2.out _ _ _ h2⟩
              generalize (memT st2 (p.t, p.b)).isSome = is at HG1 HG2
              generalize (memT st2 (p.t, p.b)).getD [] = xs at HG1 HG2
              clear hcl2 hfit hp hbx hplc hbo
              go_wp2_with fail
              go_region_held3 (fun Y => Y.cell? ⟨b0, off + i * 3 + 1, none⟩ = some (.slice (some ⟨bb, o2, none⟩) N C) ∧ Y.cell? ⟨bb, o2 + kk * 4, none⟩ = some (.int .u32 p.t) ∧ Y.cell? ⟨bb, o2 + kk * 4 + 1, none⟩ = some (.int .u64 p.b)) (first | exact ⟨u1, y0, y1⟩ | exact d1)
                (first | (go_simp; go_at_call 15; refine HG1.out.mono ?_; rintro e Y1 ⟨ga, gl, gc, rfl, b1, d1⟩))
              obtain ⟨v0, v1, v2⟩ := d1
              have HG3 := HG2.out Y1 ga gl b1
              clear b1 u1 y0 y1 HG1 HG2
              go_wp2_with fail
              go_region_held3 (fun Y => Y.cell? ⟨b0, off + i * 3 + 1, none⟩ = some (.slice (some ⟨bb, o2, none⟩) N C) ∧ Y.cell? ⟨bb, o2 + kk * 4, none⟩ = some (.int .u32 p.t) ∧ Y.cell? ⟨bb, o2 + kk * 4 + 1, none⟩ = some (.int .u64 p.b)) (first | exact ⟨v0, v1, v2⟩ | exact d2)
                (first | (go_simp; go_at_call 16; refine HG3.mono ?_; rintro e Y2 ⟨gb, gl2, gc2, rfl, b2, d2⟩))
              have HSb := sameBytes_of ga gl gc xs gb gl2 gc2 Y2 b2.2.1 b2.2.2
              have HB3 : Hid (Bo w.heap.size w ps rs st2 ((i + 1) * 30) Y2) := b2.1
              clear b2 d2 v0 v1 v2 HG3
              go_wp2_with (go_at_call 17; refine HSb.mono ?_; rintro e Y3 ⟨rfl, rfl⟩)
              exact ⟨⟨kk + 1, by simp, by omega, HB3.out⟩, by simp [intOf]; omega⟩
            · have hge' : ¬ (kk : Int) < N := by omega
              have HB3 : Hid (Bo w.heap.size w ps rs st2 ((i + 1) * 30) wr) := hbo
              clear hbo
              go_wp2
              go_roundw
              case rel => exact ⟨i + 1, st2, by simp, by omega, HB3.out, HI2.out.1, HI2.out.2⟩
              case measure => simp [intOf]; omega
        · have hge' : ¬ (i : Int) < n1 := by omega
          have hb := hbo.bel
          clear hbo hin hss
          go_wp2
          go_ret
          exact ⟨rfl, hb⟩
    · have HN2 : Hid (∀ V, Below w.heap.size w V → Blk V w.heap.size (shC s0) 23 → Calls Tryz.prog 11 #[.agg #[.int .i64 s0.z, .int .i64 s0.zb, .int .i64 s0.b, .int .i64 s0.r]] V fun e w' => e = .returned (.pointer none) ∧ Blk w' w.heap.size (shC s0) 23 ∧ Calls Tryz.prog 12 #[.agg #[.int .i64 s0.z, .int .i64 s0.zb, .int .i64 s0.b, .int .i64 s0.r]] w' fun e w2 => e = .returned (.pointer none) ∧ Below w.heap.size w w2) := fun V hb hs => by
        refine (HN.out V hb hs).mono ?_
        rintro e w' ⟨⟨hb', hs'⟩, ⟨_, rfl⟩ | ⟨hh, _⟩⟩
        · refine ⟨rfl, hs', (HDN.out w' hb' hs').mono ?_⟩
          rintro e w2 ⟨⟨hb2, _⟩, ⟨_, rfl⟩ | ⟨hh, _⟩⟩
          · exact ⟨rfl, hb2⟩
          · exact (hr hh).elim
        · exact (hr hh).elim
      clear hr HN HDN
      go_enter Tryz.func3, Tryz.ntmps3
      go_wp2_with (first
        | (go_at_call 9; refine HHv.out.mono ?_; rintro e W1 ⟨rfl, hb1, bs1⟩)
        | (go_at_call 10; refine (HKn.out _ hb1 bs1).mono ?_; rintro e W2 ⟨rfl, hb2, bs2⟩; have sh0 : W2.cell? ⟨w.heap.size, 0, none⟩ = some (.int .i64 s0.z) := bs2.cell 0; have sh1 : W2.cell? ⟨w.heap.size, 1, none⟩ = some (.int .i64 s0.zb) := bs2.cell 1; have sh2 : W2.cell? ⟨w.heap.size, 2, none⟩ = some (.int .i64 s0.b) := bs2.cell 2; have sh3 : W2.cell? ⟨w.heap.size, 3, none⟩ = some (.int .i64 s0.r) := bs2.cell 3)
        | (go_at_call 11; refine (HN2.out _ hb2 bs2).mono ?_; rintro e W3 ⟨rfl, bs3, hn3⟩; clear sh0 sh1 sh2 sh3; have sh0 : W3.cell? ⟨w.heap.size, 0, none⟩ = some (.int .i64 s0.z) := bs3.cell 0; have sh1 : W3.cell? ⟨w.heap.size, 1, none⟩ = some (.int .i64 s0.zb) := bs3.cell 1; have sh2 : W3.cell? ⟨w.heap.size, 2, none⟩ = some (.int .i64 s0.b) := bs3.cell 2; have sh3 : W3.cell? ⟨w.heap.size, 3, none⟩ = some (.int .i64 s0.r) := bs3.cell 3)
        | (go_at_call 12; refine hn3.mono ?_; rintro e W4 ⟨rfl, hb4⟩))
      go_ret
      exact ⟨rfl, hb4⟩

set_option maxRecDepth 100000 in
theorem lifted (os : Os) (started : os.Started) (H : Type) (enc : TypeId × Value → H) :
    ReturnsInHanded {} Tryz.checked os 3 .any (Rows.storeDoesSpec.pre6 enc Tryz.prog Tryz.f3 Rows.storeDoesRow.domain false) (Rows.storeDoesSpec.post enc Tryz.prog Tryz.f3 false true false false) := by
  refine returnsInHanded_of_change (C := Tryz.checked) own started (by kernel_rfl) Tryz.func3
    (ChangeSpec.witness6 (enc := enc) (C := Tryz.checked) false ⟨#[], #[.agg #[.int .i64 0, .int .i64 0, .int .i64 0, .int .i64 0], .slice none 0 0], []⟩ 8 (by kernel_rfl) (by kernel_rfl) (by kernel_rfl) (by kernel_rfl)) ?_
  intro W base args ds gs before hval0 hW hcnd _
  have hval : ∀ (j : Nat) t v, Tryz.f3.params[j]? = some t → args[j]? = some v → Value.okWide Tryz.prog W .any base t v := hval0
  have hW' := hW
  obtain ⟨p, q, hA0, hV, rfl, hfz, hnd⟩ := hW
  have hA : DataW.TrodAll enc Tryz.prog W 0 (fun _ => true) true Tryz.f3.params.toList args.toList ds p := hA0
  rw [Tryz.params3] at hA hval
  obtain ⟨v0, vs0, d0, ds0, p0, q0, hargs, rfl, rfl, h0, r0⟩ := trodAll_cons hA
  obtain ⟨v1, vs1, d1, ds1, p1, q1, rfl, rfl, rfl, h1, r1⟩ := trodAll_cons r0
  obtain ⟨rfl, rfl, rfl⟩ := trodAll_nil r1
  obtain rfl : args = #[v0, v1] := by cases args; simp_all
  obtain ⟨rfl, rfl⟩ := trodVars_none hV
  have k0 := h0
  have lt0 : ∀ x ∈ p0, x.block < W.heap.size := by obtain ⟨m, hm⟩ := k0; exact DataW.trod_lt m _ _ _ hm
  obtain ⟨s0, rfl, w0⟩ := open_shape (hval 0 23 v0 rfl rfl) h0
  obtain ⟨a1, n1, c1, rfl⟩ := okWide_slice Tryz.underlying24 (hval 1 24 v1 rfl rfl)
  have k1 := h1
  have lt1 : ∀ x ∈ p1, x.block < W.heap.size := by obtain ⟨m, hm⟩ := k1; exact DataW.trod_lt m _ _ _ hm
  obtain ⟨x1, w1⟩ := open_sops h1
  clear hA0 hval0
  refine (walk s0 a1 n1 c1 x1 W w0 w1).mono fun e W' ⟨he, bel⟩ => ?_
  subst he
  exact ⟨_, rfl, _, _, _, [], _, [], hW', trodAll_mk1 (shut_bool Tryz.underlying4 _), (trodAll_cons_mk (Below.trod laidOut (by kernel_rfl) (of_decide_eq_true (by kernel_rfl)) k0 bel lt0) (trodAll_cons_mk (Below.trod laidOut (by kernel_rfl) (of_decide_eq_true (by kernel_rfl)) k1 bel lt1) trodAll_mk0)), rfl, bel.frame _, fun h => by cases h⟩

theorem over : Rows.storeDoesRow.holds Tryz.pinned (OpenSpec.ofChange Rows.storeDoesSpec) :=
  OpenClaim.holds_of_wide 3 Tryz.f3 rfl rfl rfl rfl rfl rfl rfl ⟨rfl, rfl, rfl, rfl, rfl⟩ rfl rfl rfl rfl rfl (by kernel_rfl) Tryz.func3 (by kernel_rfl)
    (of_decide_eq_true (by kernel_rfl)) (by unfold Func.isWrapper; first | (rw [if_pos (by decide +kernel)]; kernel_rfl) | (rw [if_neg (by decide +kernel)]; exact ⟨rfl, rfl⟩))
    (fun os started H enc _ => lifted os started H enc)

end Go.Proofs.YtfcbcpjcmihooaaGreat.storeDoes
namespace Go.Proofs.YtfcbcpjcmihooaaGreat
/-- The statement. -/
theorem storeDoes_holds : Rows.StoreDoesSaid := storeDoes.over
#print axioms storeDoes_holds
end Go.Proofs.YtfcbcpjcmihooaaGreat
