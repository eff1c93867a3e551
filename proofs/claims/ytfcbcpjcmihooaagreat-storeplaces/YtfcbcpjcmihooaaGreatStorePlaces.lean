/- For every shape and every list of calls the statement StorePlaces returns true: behind each Put each place of the map lies in a zone that is open or full, behind its record, among the zone's blocks; a zone of the log is free just where it has no block and no record; at most one zone is open. -/
import Derived.Test.YtfcbcpjcmihooaaGreatRows
import Derived.Test.YtfcbcpjcmihooaaGreatL1
import Derived.Test.YtfcbcpjcmihooaaGreatK21
import Derived.BigQuiet
import Derived.Lib.QuietBelow
import Derived.Deep.RegionHeld3
import Derived.WalkKit
import Derived.ProofKit
import Derived.OpenShut
import Derived.ShutString
import Derived.ChangeOld
import Derived.Below
namespace Go.Proofs.YtfcbcpjcmihooaaGreat.storePlaces
open Go.ChangeShapes Go.WideShapes Go.ChangeAt Go.RowKit
open Go.ChangeMaps (open_string shut_string)
set_option linter.unusedVariables false

theorem own : ownKnob Tryz.prog.godebug = none := by kernel_rfl
theorem laidOut : laidOutB Tryz.prog = true := by kernel_rfl

set_option maxRecDepth 20000 in
set_option maxHeartbeats 8000000 in
theorem walk (s0 : Sh) (a1 : Option Addr) (n1 c1 : Nat) (x1 : List Od) (w : World) (w0 : ShF s0) (w1 : OdsR w a1 n1 x1 ∧ n1 ≤ c1 ∧ (a1 = none → n1 = 0 ∧ c1 = 0) ∧ ∀ o ∈ x1, Fits8 o.k ∧ F64 o.z) :
    Calls Tryz.prog 5 #[.agg (shL s0).toArray, .slice a1 n1 c1] w fun e w' => e = .returned (.bool true) ∧ Below w.heap.size w w' := by
  obtain ⟨hpr, hnc, hnil, hof⟩ := w1
  have hb0 : Below w.heap.size w (w.alloc (.cells #[.int .i64 s0.z, .int .i64 s0.zb, .int .i64 s0.b, .int .i64 s0.r] 23)) := (Below.refl _ _).alloc (Nat.le_refl _) _
  have bs0 : Blk (w.alloc (.cells #[.int .i64 s0.z, .int .i64 s0.zb, .int .i64 s0.b, .int .i64 s0.r] 23)) w.heap.size (shC s0) 23 := Blk.new' rfl rfl
  obtain ⟨hv, hHv⟩ : ∃ b, b = @decide (HvO s0 x1) (Classical.propDecidable _) := ⟨_, rfl⟩
  have HHv : Hid (Calls Tryz.prog 9 #[.agg #[.int .i64 s0.z, .int .i64 s0.zb, .int .i64 s0.b, .int .i64 s0.r], .slice a1 n1 c1] (w.alloc (.cells #[.int .i64 s0.z, .int .i64 s0.zb, .int .i64 s0.b, .int .i64 s0.r] 23)) fun e w' => e = .returned (.int .i64 (trB hv)) ∧ Below w.heap.size w w' ∧ Blk w' w.heap.size (shC s0) 23) := by
    rw [hHv]
    refine (Heavy_of s0 a1 n1 c1 x1 _ (hpr.below hb0)).mono ?_
    rintro e w' ⟨rfl, hb⟩
    exact ⟨rfl, hb0.trans (hb.mono hb0.size), bs0.below hb bs0.lt⟩
  have HH : Hid (hv = @decide (HvO s0 x1) (Classical.propDecidable _) ∧ OdsR w a1 n1 x1 ∧ ShF s0) := ⟨hHv, hpr, w0⟩
  have HKn : Hid (∀ V, Below w.heap.size w V → Blk V w.heap.size (shC s0) 23 → Calls Tryz.prog 10 #[] V fun e w' => e = .returned (.bool true) ∧ Below w.heap.size w w' ∧ Blk w' w.heap.size (shC s0) 23) := fun V hb hs => by
    refine (sknown_any V).mono ?_
    rintro e w' ⟨rfl, hb'⟩
    exact ⟨rfl, hb.trans (hb'.mono hb.size), hs.below hb' hs.lt⟩
  have hn1 := hpr.2.1
  clear hHv hpr hb0 bs0 w0 hof
  unfold shL
  cases hv with
  | true =>
    rw [show trB true = 1 from rfl] at HHv
    go_enter Tryz.func5, Tryz.ntmps5
    go_wp2_with (first
      | (go_at_call 9; refine HHv.out.mono ?_; rintro e W1 ⟨rfl, hb1, bs1⟩)
      | (go_at_call 10; refine (HKn.out _ hb1 bs1).mono ?_; rintro e W2 ⟨rfl, hb2, _⟩))
    go_ret
    exact ⟨rfl, hb2⟩
  | false =>
    rw [show trB false = 0 from rfl] at HHv
    have HL : Hid (SmallS s0 ∧ n1 ≤ 40 ∧ (∀ o ∈ x1, o.l.length ≤ 30 ∧ ∀ p ∈ o.l, p.d.length ≤ 200)) := by
      have hn := light_ops (fun h => by have e := HH.out.1; rw [@decide_eq_true _ (Classical.propDecidable _) h] at e; cases e)
      have hlen := HH.out.2.1.1
      exact ⟨hn.1, by rw [← hlen]; exact hn.2.1, hn.2.2⟩
    by_cases hr : RightS s0
    · have HN : Hid (∀ V, Below w.heap.size w V → Blk V w.heap.size (shC s0) 23 → Calls Tryz.prog 11 #[.agg #[.int .i64 s0.z, .int .i64 s0.zb, .int .i64 s0.b, .int .i64 s0.r]] V fun e w' => ∃ D k, e = .returned (.pointer (some ⟨k.ps, 0, none⟩)) ∧ Sq w w' s0 D k (st0 s0) 0 0) := fun V hb hs => by
        refine (snew_of s0 V (by have := HH.out.2.2.1; exact this.1)).mono ?_
        rintro e w' ⟨hb', ⟨hn, _⟩ | ⟨_, D, k, rfl, h1, h2⟩⟩
        · exact (hn hr).elim
        · exact ⟨D, k, rfl, h1, hb.trans (hb'.mono hb.size), hs.below hb' hs.lt, fun x hx => by have := h2 x hx; have := hs.lt; omega, st0_inv hr, rfl, ⟨by show (0 : Int) ≤ 0; omega, by show (0 : Int) ≤ _; omega⟩, by omega⟩
      obtain ⟨S, hS⟩ : ∃ S : Nat, s0.b = S := ⟨s0.b.toNat, by have := (pow_bounds (show s0.b ∈ PowR from hr.2.2.2.2.1)).1; omega⟩
      have HS : Hid (s0.b = S ∧ S ≤ 128 ∧ 64 ≤ S ∧ RightS s0) := ⟨hS, by have := HL.out.1.2.2; omega, by have := (pow_bounds (show s0.b ∈ PowR from hr.2.2.2.2.1)).1; omega, hr⟩
      clear hr hS
      go_enter Tryz.func5, Tryz.ntmps5
      go_wp2_with (first
        | (go_at_call 9; refine HHv.out.mono ?_; rintro e W1 ⟨rfl, hb1, bs1⟩)
        | (go_at_call 10; refine (HKn.out _ hb1 bs1).mono ?_; rintro e W2 ⟨rfl, hb2, bs2⟩; have sh0 : W2.cell? ⟨w.heap.size, 0, none⟩ = some (.int .i64 s0.z) := bs2.cell 0; have sh1 : W2.cell? ⟨w.heap.size, 1, none⟩ = some (.int .i64 s0.zb) := bs2.cell 1; have sh2 : W2.cell? ⟨w.heap.size, 2, none⟩ = some (.int .i64 s0.b) := bs2.cell 2; have sh3 : W2.cell? ⟨w.heap.size, 3, none⟩ = some (.int .i64 s0.r) := bs2.cell 3)
        | (go_at_call 11; refine (HN.out _ hb2 bs2).mono ?_; rintro e W3 ⟨D, k, rfl, hv3⟩))
      have H3 : Hid (Sq w W3 s0 D k (st0 s0) 0 0) := hv3
      clear sh0 sh1 sh2 sh3 bs2 bs1 hb1 hb2 hv3 HN HHv HKn
      go_loopw [6] (fun x wr => ∃ (i : Nat) (D' : Nat → Prop) (st : St) (c : Nat), x = .int .i64 i ∧ i ≤ n1 ∧ Sq w wr s0 D' k st c i ∧ Inv3 st) (fun x _ => n1 - (intOf x).toNat)
      case atStart => exact ⟨0, D, st0 s0, 0, rfl, Nat.zero_le _, H3.out, st0_inv3 HS.out.2.2.2⟩
      case round =>
        obtain ⟨i, D', st, c, rfl, hi, sq, hin⟩ := hrel
        have hn40 : n1 ≤ 40 := HL.out.2.1
        rcases Nat.lt_or_ge i n1 with hlt | hge
        · have hi' : (i : Int) < n1 := by omega
          have hwi : IntKind.i64.wrap ((i : Int) + 1) = (i : Int) + 1 := by rw [IntKind.wrap_i64]; omega
          obtain ⟨o, b0, off, ho, rfl, A, N, C, hcl, hpts, hNC, _⟩ := HH.out.2.1.at hlt
          have hol := HL.out.2.2 o (List.mem_of_getElem? ho)
          have hNl : o.l.length = N := hpts.1
          have hN30 : N ≤ 30 := by rw [← hNl]; exact hol.1
          have hptw : PtsIn (fun x => x < w.heap.size) w A N o.l := hpts.pts (by omega) (fun p hp => by have := hol.2 p hp; omega)
          have hlc : ∀ V, Below w.heap.size w V → V.cell? ⟨b0, off + i * 3 + 1, none⟩ = some (.slice A N C) := fun V hb => (hb.cell (old_block (hcl 1 _ rfl))).trans (hcl 1 _ rfl)
          obtain ⟨l', hl'⟩ : ∃ l', l' = o.l.map (blkP S) := ⟨_, rfl⟩
          have hl'n : l'.length = N := by rw [hl', List.length_map]; exact hNl
          have xl : wr.cell? ⟨b0, off + i * 3 + 1, none⟩ = some (.slice A N C) := hlc wr sq.bel
          have xs : wr.cell? ⟨w.heap.size, 2, none⟩ = some (.int .i64 s0.b) := sq.sh.cell 2
          have HBl : Hid (Calls Tryz.prog 21 #[.int .i64 s0.b, .slice A N C] wr.drew fun e w' => ∃ A' C', e = .returned (.slice A' N C') ∧ Rd w w' s0 D' k st c A' N C' l' ∧ w'.cell? ⟨w.heap.size, 2, none⟩ = some (.int .i64 s0.b) ∧ w'.cell? ⟨b0, off + i * 3 + 1, none⟩ = some (.slice A N C)) := by
            rw [HS.out.1]
            refine ((sq.below (Below.refl _ _).drew).blocks (C := C) hptw (by have := HS.out.2.1; omega)).mono ?_
            rintro e w' ⟨A', C', rfl, rd⟩
            rw [← hl'] at rd
            exact ⟨A', C', rfl, rd, by rw [← HS.out.1]; exact rd.sh.cell 2, hlc w' rd.bel⟩
          have HFn : Hid (∀ V4 D4 A' C', Rd w V4 s0 D4 k (putM st l').2 (c + N) A' N C' l' → Sq w V4 s0 D4 k (putM st l').2 (c + N) (i + 1) ∧ Inv3 (putM st l').2) := by
            intro V4 D4 A' C' rd
            have h3 : Inv3 (putM st l').2 ∧ 0 ≤ (putM st l').2.q ∧ (putM st l').2.q ≤ st.q + N ∧ (putM st l').2.s = st.s := by
              have hq := sq.qb
              unfold putM
              split
              · rename_i hk
                obtain ⟨r1, r2, r3⟩ := put_inv3 l'.length st l' hin hk (by rw [hl']; exact map_fits hptw.fits) (Nat.le_refl _) hq.1 (by omega)
                exact ⟨r1, r2, by omega, put_sh _ _ _⟩
              · exact ⟨hin, hq.1, by show st.q ≤ _; omega, rfl⟩
            have hq := sq.qb
            have hc := sq.cb
            exact ⟨⟨rd.st, rd.bel, rd.sh, rd.low, h3.1.i2.inv, h3.2.2.2.trans sq.ss, ⟨h3.2.1, by have := h3.2.2.1; omega⟩, by omega⟩, h3.1⟩
          have HPu0 : Hid (∀ V A' C', Rd w V s0 D' k st c A' N C' l' → Calls Tryz.prog 20 #[.pointer (some ⟨k.ps, 0, none⟩), .slice A' N C'] V fun e w' => (∃ v, e = .returned v) ∧ (∃ D4, Sq w w' s0 D4 k (putM st l').2 (c + N) (i + 1) ∧ Inv3 (putM st l').2) ∧ w'.cell? ⟨w.heap.size, 2, none⟩ = some (.int .i64 s0.b) ∧ w'.cell? ⟨b0, off + i * 3 + 1, none⟩ = some (.slice A N C)) := fun V A' C' rd => by
            refine (rd.put2 (by have := sq.cb; omega)).mono ?_
            rintro e w' ⟨rfl, ⟨D4, rd4⟩, _⟩
            exact ⟨⟨_, rfl⟩, ⟨D4, HFn.out _ _ _ _ rd4⟩, rd4.sh.cell 2, hlc w' rd4.bel⟩
          have HSq : Hid (Sq w wr s0 D' k st c i) := sq
          have HN2 : Hid (l'.length = N) := hl'n
          generalize putM st l' = pm at HFn HPu0
          clear sq hl' hl'n hlc hptw hpts hcl ho hol hNl hin
          have HPu : Hid (∀ V A' C', Rd w V s0 D' k st c A' N C' l' → Calls Tryz.prog 20 #[.pointer (some ⟨k.ps, 0, none⟩), .slice A' N C'] V fun e w' => (∃ v, e = .returned v) ∧ (∃ D4, Sq w w' s0 D4 k pm.2 (c + N) (i + 1) ∧ Inv3 pm.2) ∧ w'.cell? ⟨w.heap.size, 2, none⟩ = some (.int .i64 s0.b) ∧ w'.cell? ⟨b0, off + i * 3 + 1, none⟩ = some (.slice A N C)) := HPu0
          clear HPu0
          go_wp2_with fail
          go_region_held3 (fun Y => Y.cell? ⟨w.heap.size, 2, none⟩ = some (.int .i64 s0.b) ∧ Y.cell? ⟨b0, off + i * 3 + 1, none⟩ = some (.slice A N C)) (first | exact ⟨xs, xl⟩ | exact ⟨ys, yl⟩ | exact z12)
            (first
            | (go_simp; go_at_call 21; refine HBl.out.mono ?_; rintro e V2 ⟨A', C', rfl, rd2, ys, yl⟩)
            | (go_simp; go_at_call 20; refine (HPu.out _ A' C' (by exact rd2)).mono ?_; rintro e V3 ⟨⟨v3, rfl⟩, h3, z12⟩))
          obtain ⟨D4, sq3, hin3⟩ := h3
          obtain ⟨sP, hsP⟩ : ∃ sP, sP = pm.2 := ⟨_, rfl⟩
          rw [← hsP] at sq3 hin3
          have H3' : Hid (Sq w V3 s0 D4 k sP (c + N) (i + 1) ∧ Inv3 sP) := ⟨sq3, hin3⟩
          have hcb := sq3.cb
          have hmp := smap_of sq3.sv
          have HAl : Hid (Calls Tryz.prog 23 #[.pointer (some ⟨k.pm, 0, none⟩)] V3 fun e X => ∃ a n cc, e = .returned (.slice a n cc) ∧ PlIn X a n sP.S ∧ Below V3.heap.size V3 X) := by
            refine (mAll_of k.pm k.b1 k.b2 sP.S (c + N) V3 sq3.sv.mp (by omega)).mono ?_
            rintro e X ⟨a, n, cc, rfl, ow, hX⟩
            exact ⟨a, n, cc, rfl, own_pl ow, hX⟩
          clear sq3 hin3 hsP xs xl ys yl z12 rd2 HBl HPu HFn
          go_wp2_with (first
            | (go_at_call 22; refine hmp.mono ?_; rintro e w3 ⟨rfl, rfl⟩)
            | (go_at_call 23; refine HAl.out.mono ?_; rintro e V4 ⟨a4, n4, cc4, rfl, pl4, b4⟩))
          have HV4 : Hid (PlIn V4 a4 n4 sP.S ∧ Below w3.heap.size w3 V4) := ⟨pl4, b4⟩
          have H4 : Hid (∀ V, Below V4.heap.size V4 V → Sq w V s0 D4 k sP (c + N) (i + 1)) := fun V hb => (H3'.out.1.below b4).below hb
          obtain ⟨Zn, hZn⟩ : ∃ Zn : Nat, s0.z = Zn := ⟨s0.z.toNat, by have := HS.out.2.2.2.1; omega⟩
          have HZ : Hid (s0.z = Zn ∧ sP.L.length = Zn ∧ sP.zs.length = Zn ∧ 6 ≤ Zn ∧ Zn ≤ 256) := by
            have h1 := H3'.out.2.i2.inv.len
            have h2 := H3'.out.2.i2.inv.wf.len
            have h3 := H3'.out.1.ss
            have h5 := HS.out.2.2.2.1
            have h6 := HS.out.2.2.2.2.1
            rw [h3] at h2
            exact ⟨hZn, by omega, by omega, by omega, by omega⟩
          clear pl4 b4 hmp HAl hZn
          have HSg : Hid (∀ V, Below V4.heap.size V4 V → Calls Tryz.prog 24 #[.pointer (some ⟨k.ps, 0, none⟩)] V fun e w' => e = .returned (.pointer (some ⟨k.pg, 0, none⟩)) ∧ w' = V) := fun V hb => sseg_of (H4.out V hb).sv
          have HDv : Hid (∀ V, Below V4.heap.size V4 V → Calls Tryz.prog 26 #[.pointer (some ⟨k.ps, 0, none⟩)] V fun e w' => e = .returned (.pointer (some ⟨k.pd, 0, none⟩)) ∧ w' = V) := fun V hb => sdev_of (H4.out V hb).sv
          have HSt : Hid (∀ (m : Nat) V, Below V4.heap.size V4 V → Calls Tryz.prog 25 #[.pointer (some ⟨k.pg, 0, none⟩), .int .i64 (m : Nat)] V fun e w' => e = .returned (.int .u8 (sP.L.getD m 0)) ∧ w' = V) := fun m V hb => by
            have := gState_of k.pg k.gg s0.r sP.L (m : Nat) V (by have := (H4.out V hb).sv.sg; rw [H3'.out.1.ss] at this; exact this)
            rw [stZ_nat] at this
            exact this
          have HAt : Hid (∀ (m : Nat) V, Below V4.heap.size V4 V → Calls Tryz.prog 27 #[.pointer (some ⟨k.pd, 0, none⟩), .int .i64 (m : Nat)] V fun e w' => (∃ u, e = .returned (.tuple #[.int .i64 ((atZ sP.zs (m : Nat)).1.length : Nat), .int .i64 u])) ∧ Below V.heap.size V w' ∧ Below V4.heap.size V4 w') := fun m V hb => (at_of (m : Nat) (H4.out V hb).sv.dv).mono (fun e w' hh => ⟨⟨_, hh.1⟩, hh.2, hb.trans (hh.2.mono hb.size)⟩)
          have HLa : Hid (∀ (m : Nat) V, Below V4.heap.size V4 V → Calls Tryz.prog 28 #[.pointer (some ⟨k.ps, 0, none⟩), .int .i64 (m : Nat)] V fun e w' => e = .returned (.int .u64 (lastI sP.la (m : Nat))) ∧ Below V4.heap.size V4 w') := fun m V hb => (slast_of (m : Nat) (H4.out V hb).sv).mono (fun e w' hh => ⟨hh.1, hb.trans (hh.2.mono hb.size)⟩)
          go_loopw [8] (fun x wr => ∃ kk : Nat, x = .int .i64 kk ∧ kk ≤ n4 ∧ Below V4.heap.size V4 wr) (fun x _ => n4 - (intOf x).toNat)
          case atStart => exact ⟨0, rfl, Nat.zero_le _, Below.refl _ _⟩
          case round =>
            obtain ⟨kk, rfl, hkk, bk⟩ := hrel
            rcases Nat.lt_or_ge kk n4 with hlt2 | hge2
            · have hk' : (kk : Int) < n4 := by omega
              have hn4 : n4 ≤ 100000 := by
                have h1 := HV4.out.1.1
                have h2 := H3'.out.2.i2.inv
                have h3 := size_S h2 (by rw [H3'.out.1.ss]; exact ⟨HL.out.1.1, HL.out.1.2.1⟩)
                omega
              have hwk : IntKind.i64.wrap ((kk : Int) + 1) = (kk : Int) + 1 := by rw [IntKind.wrap_i64]; omega
              obtain ⟨x, g, hx, rfl, y0, y1, y2, y3⟩ := (HV4.out.1.below bk).at hlt2
              obtain ⟨m, j, e1, e2, hS, hj1, hj2, hla⟩ := place_ok H3'.out.2 (List.mem_of_getElem? hx)
              rw [e1] at y2
              rw [e2] at y3
              clear y0 y1 hx e1 e2
              have HSt2 := HSt.out m
              have HAt2 := HAt.out m
              have HLa2 := HLa.out m
              generalize lastI sP.la (m : Nat) = LA at hla HLa2
              generalize (atZ sP.zs (m : Nat)).1.length = NA at hj2 HAt2
              have hla' : (LA == 0) = false := by simpa using hla
              have hj1' : ¬ (j : Int) < 1 := by omega
              have hj2' : ¬ (NA : Int) ≤ (j : Int) := by omega
              have HBk : Hid (Below V4.heap.size V4 wr) := bk
              have HSx : Hid (∃ Sx, sP.L.getD m 0 = Sx ∧ (Sx = 2 ∨ Sx = 3)) := ⟨_, rfl, hS⟩
              obtain ⟨Sx, hSx, hS2⟩ := HSx.out
              rw [hSx] at HSt2
              have HS3 : Hid (∀ V, Below V4.heap.size V4 V → Calls Tryz.prog 25 #[.pointer (some ⟨k.pg, 0, none⟩), .int .i64 (m : Nat)] V fun e w' => e = .returned (.int .u8 Sx) ∧ w' = V) := HSt2
              have HA3 : Hid (∀ V, Below V4.heap.size V4 V → Calls Tryz.prog 27 #[.pointer (some ⟨k.pd, 0, none⟩), .int .i64 (m : Nat)] V fun e w' => (∃ u, e = .returned (.tuple #[.int .i64 (NA : Nat), .int .i64 u])) ∧ Below V.heap.size V w' ∧ Below V4.heap.size V4 w') := HAt2
              have HL3 : Hid (∀ V, Below V4.heap.size V4 V → Calls Tryz.prog 28 #[.pointer (some ⟨k.ps, 0, none⟩), .int .i64 (m : Nat)] V fun e w' => e = .returned (.int .u64 LA) ∧ Below V4.heap.size V4 w') := HLa2
              clear bk hS hSx HSx HSt2 HAt2 HLa2 hla hj1 hj2
              go_wp2_with fail
              have HX : Hid (Below V4.heap.size V4 (wr.alloc (.cells #[.int .i64 (m : Nat), .int .i64 (j : Nat)] 60)) ∧ Blk (wr.alloc (.cells #[.int .i64 (m : Nat), .int .i64 (j : Nat)] 60)) wr.heap.size [.int .i64 (m : Nat), .int .i64 (j : Nat)] 60) := ⟨HBk.out.alloc HBk.out.size _, Blk.new' rfl rfl⟩
              clear HBk y2 y3
              generalize World.alloc wr _ = X0 at HX ⊢
              generalize wr.heap.size = ga at HX ⊢
              have c0 : X0.cell? ⟨ga, 0, none⟩ = some (.int .i64 (m : Nat)) := HX.out.2.cell 0
              have HX1 : Hid (Below V4.heap.size V4 X0.drew ∧ Blk X0.drew ga [.int .i64 (m : Nat), .int .i64 (j : Nat)] 60) := ⟨HX.out.1.drew, HX.out.2.drew⟩
              clear HX
              go_region_held3 (fun Y => Y.cell? ⟨ga, 0, none⟩ = some (.int .i64 (m : Nat))) (first | exact c0 | exact HX1.out.2.cell 0)
                (first
                | (go_simp; go_at_call 24; refine (HSg.out _ HX1.out.1).mono ?_; rintro e X1 ⟨rfl, rfl⟩)
                | (go_simp; go_at_call 25; refine (HS3.out _ HX1.out.1).mono ?_; rintro e X2 ⟨rfl, rfl⟩))
              have HX2 : Hid (Below V4.heap.size V4 X0.drew.drew ∧ Blk X0.drew.drew ga [.int .i64 (m : Nat), .int .i64 (j : Nat)] 60) := ⟨HX1.out.1.drew, HX1.out.2.drew⟩
              have c1 : X0.drew.cell? ⟨ga, 0, none⟩ = some (.int .i64 (m : Nat)) := HX1.out.2.cell 0
              clear c0
              go_wp2_with fail
              go_region_held3 (fun Y => Y.cell? ⟨ga, 0, none⟩ = some (.int .i64 (m : Nat))) (first | exact c1 | exact k3.cell 0)
                (first
                | (go_simp; go_at_call 26; refine (HDv.out _ HX2.out.1).mono ?_; rintro e X1 ⟨rfl, rfl⟩)
                | (go_simp; go_at_call 27; refine (HA3.out _ HX2.out.1).mono ?_; rintro e X3 ⟨⟨u, rfl⟩, b3, b4⟩; have k3 := HX2.out.2.below b3 HX2.out.2.lt))
              have HX3 : Hid (Below V4.heap.size V4 X3 ∧ Blk X3 ga [.int .i64 (m : Nat), .int .i64 (j : Nat)] 60) := ⟨b4, k3⟩
              have c2 : X3.cell? ⟨ga, 0, none⟩ = some (.int .i64 (m : Nat)) := HX3.out.2.cell 0
              have c3 : X3.cell? ⟨ga, 1, none⟩ = some (.int .i64 (j : Nat)) := HX3.out.2.cell 1
              clear b3 b4 k3 c1
              rcases hS2 with rfl | rfl
              all_goals (
                go_wp2_with (go_at_call 28; refine (HL3.out _ HX3.out.1).mono ?_; rintro e X4 ⟨rfl, b4⟩)
                exact ⟨⟨kk + 1, by simp, by omega, b4⟩, by simp [intOf]; omega⟩)
            · obtain rfl : kk = n4 := by omega
              have HBk : Hid (Below V4.heap.size V4 wr) := bk
              clear bk
              go_wp2_with fail
              go_loopw [13] (fun x wr => ∃ zz : Nat, x = .int .i64 zz ∧ 2 ≤ zz ∧ zz ≤ Zn ∧ Below V4.heap.size V4 wr) (fun x _ => Zn - (intOf x).toNat)
              case atStart => exact ⟨2, rfl, by omega, by have := HZ.out.2.2.2.1; omega, HBk.out⟩
              case round =>
                obtain ⟨zz, rfl, hz2, hzz, bk⟩ := hrel
                have sh0 : wr.cell? ⟨w.heap.size, 0, none⟩ = some (.int .i64 s0.z) := (H4.out wr bk).sh.cell 0
                rw [HZ.out.1] at sh0
                rcases Nat.lt_or_ge zz Zn with hlt3 | hge3
                · have hz' : (zz : Int) < Zn := by omega
                  have hZ256 : Zn ≤ 256 := HZ.out.2.2.2.2
                  have hwz : IntKind.i64.wrap ((zz : Int) + 1) = (zz : Int) + 1 := by rw [IntKind.wrap_i64]; omega
                  have hfr := H3'.out.2.fr zz hz2 (by rw [HZ.out.2.1]; exact hlt3)
                  have hlI : lastI sP.la (zz : Nat) = sP.la.getD zz 0 := by unfold lastI; rw [if_pos (by omega), Int.toNat_natCast]
                  have HBk2 : Hid (Below V4.heap.size V4 wr) := bk
                  rcases hfr with ⟨f1, f2, f3⟩ | ⟨f1, f2, f3⟩
                  · have HS3 : Hid (∀ V, Below V4.heap.size V4 V → Calls Tryz.prog 25 #[.pointer (some ⟨k.pg, 0, none⟩), .int .i64 (zz : Nat)] V fun e w' => e = .returned (.int .u8 1) ∧ w' = V) := fun V hb => by have := HSt.out zz V hb; rw [f1] at this; exact this
                    have HA3 : Hid (∀ V, Below V4.heap.size V4 V → Calls Tryz.prog 27 #[.pointer (some ⟨k.pd, 0, none⟩), .int .i64 (zz : Nat)] V fun e w' => (∃ u, e = .returned (.tuple #[.int .i64 0, .int .i64 u])) ∧ Below V4.heap.size V4 w') := fun V hb => by have := HAt.out zz V hb; rw [f2] at this; exact this.mono (fun e w' hh => ⟨hh.1, hh.2.2⟩)
                    have HL3 : Hid (∀ V, Below V4.heap.size V4 V → Calls Tryz.prog 28 #[.pointer (some ⟨k.ps, 0, none⟩), .int .i64 (zz : Nat)] V fun e w' => e = .returned (.int .u64 0) ∧ Below V4.heap.size V4 w') := fun V hb => by have := HLa.out zz V hb; rw [hlI, f3] at this; exact this
                    clear bk f1 f2 f3 hlI
                    go_wp2_with (first
                      | (go_at_call 26; refine (HDv.out _ HBk2.out).mono ?_; rintro e X1 ⟨rfl, rfl⟩)
                      | (go_at_call 27; refine (HA3.out _ HBk2.out).mono ?_; rintro e X3 ⟨⟨u, rfl⟩, b4⟩)
                      | (go_at_call 24; refine (HSg.out _ b4).mono ?_; rintro e X1 ⟨rfl, rfl⟩)
                      | (go_at_call 25; refine (HS3.out _ b4).mono ?_; rintro e X2 ⟨rfl, rfl⟩)
                      | (go_at_call 28; refine (HL3.out _ b4).mono ?_; rintro e X4 ⟨rfl, b5⟩))
                    exact ⟨⟨zz + 1, by simp, by omega, by omega, b5⟩, by simp [intOf]; omega⟩
                  · obtain ⟨Sx, hSx⟩ : ∃ Sx, Sx = sP.L.getD zz 0 := ⟨_, rfl⟩
                    obtain ⟨NA, hNA⟩ : ∃ NA, NA = (atZ sP.zs (zz : Nat)).1.length := ⟨_, rfl⟩
                    rw [← hSx] at f1
                    have hS1 : (Sx == 1) = false := by rcases f1 with h | h <;> rw [h] <;> rfl
                    have hN0 : ((NA : Int) == 0) = false := by
                      have : NA ≠ 0 := fun e => f2 (List.length_eq_zero_iff.1 (by rw [← hNA]; exact e))
                      simpa using this
                    have hN0' : (NA == 0) = false := by
                      have : NA ≠ 0 := fun e => f2 (List.length_eq_zero_iff.1 (by rw [← hNA]; exact e))
                      simpa using this
                    have HS3 : Hid (∀ V, Below V4.heap.size V4 V → Calls Tryz.prog 25 #[.pointer (some ⟨k.pg, 0, none⟩), .int .i64 (zz : Nat)] V fun e w' => e = .returned (.int .u8 Sx) ∧ w' = V) := fun V hb => by rw [hSx]; exact HSt.out zz V hb
                    have HA3 : Hid (∀ V, Below V4.heap.size V4 V → Calls Tryz.prog 27 #[.pointer (some ⟨k.pd, 0, none⟩), .int .i64 (zz : Nat)] V fun e w' => (∃ u, e = .returned (.tuple #[.int .i64 (NA : Nat), .int .i64 u])) ∧ Below V4.heap.size V4 w') := fun V hb => by rw [hNA]; exact (HAt.out zz V hb).mono (fun e w' hh => ⟨hh.1, hh.2.2⟩)
                    clear bk f1 f2 f3 hlI hSx hNA
                    go_wp2_with (first
                      | (go_at_call 26; refine (HDv.out _ HBk2.out).mono ?_; rintro e X1 ⟨rfl, rfl⟩)
                      | (go_at_call 27; refine (HA3.out _ HBk2.out).mono ?_; rintro e X3 ⟨⟨u, rfl⟩, b4⟩)
                      | (go_at_call 24; refine (HSg.out _ b4).mono ?_; rintro e X1 ⟨rfl, rfl⟩)
                      | (go_at_call 25; refine (HS3.out _ b4).mono ?_; rintro e X2 ⟨rfl, rfl⟩))
                    exact ⟨⟨zz + 1, by simp, by omega, by omega, b4⟩, by simp [intOf]; omega⟩
                · obtain rfl : zz = Zn := by omega
                  have HLi : Hid (∀ V, Below V4.heap.size V4 V → Calls Tryz.prog 29 #[.pointer (some ⟨k.pg, 0, none⟩), .int .u8 2] V fun e w' => ∃ A C cc, e = .returned (.slice A C cc) ∧ ¬ (1 : Int) < (C : Nat) ∧ Below V4.heap.size V4 w') := fun V hb => by
                    have hsg := (H4.out V hb).sv.sg
                    refine (gList_of k.pg k.gg _ sP.L 2 V hsg).mono ?_
                    rintro e w' ⟨A, cc, rfl, _, h3⟩
                    have := H3'.out.2.one
                    unfold cntZ at this
                    exact ⟨A, _, cc, rfl, by omega, hb.trans (h3.mono hb.size)⟩
                  have HBk2 : Hid (Below V4.heap.size V4 wr) := bk
                  clear bk
                  go_wp2_with (first
                    | (go_at_call 24; refine (HSg.out _ HBk2.out).mono ?_; rintro e X1 ⟨rfl, rfl⟩)
                    | (go_at_call 29; refine (HLi.out _ HBk2.out).mono ?_; rintro e X2 ⟨A9, C9, cc9, rfl, hC9, b9⟩))
                  have HE : Hid (Sq w X2 s0 D4 k sP (c + N) (i + 1) ∧ Inv3 sP) := ⟨H4.out _ b9, H3'.out.2⟩
                  clear b9
                  go_roundw
                  case rel => exact ⟨i + 1, D4, sP, c + N, by simp, by omega, HE.out.1, HE.out.2⟩
                  case measure => simp [intOf]; omega
        · obtain rfl : i = n1 := by omega
          have HB5 : Hid (Below w.heap.size w wr) := sq.bel
          clear sq
          go_wp2
          go_ret
          exact ⟨rfl, HB5.out⟩
    · have HN : Hid (∀ V, Below w.heap.size w V → Calls Tryz.prog 11 #[.agg #[.int .i64 s0.z, .int .i64 s0.zb, .int .i64 s0.b, .int .i64 s0.r]] V fun e w' => e = .returned (.pointer none) ∧ Below w.heap.size w w') := fun V hb => by
        refine (snew_of s0 V (by have := HH.out.2.2.1; exact this.1)).mono ?_
        rintro e w' ⟨hb', ⟨_, rfl⟩ | ⟨hh, _⟩⟩
        · exact ⟨rfl, hb.trans (hb'.mono hb.size)⟩
        · exact (hr hh).elim
      go_enter Tryz.func5, Tryz.ntmps5
      go_wp2_with (first
        | (go_at_call 9; refine HHv.out.mono ?_; rintro e W1 ⟨rfl, hb1, bs1⟩)
        | (go_at_call 10; refine (HKn.out _ hb1 bs1).mono ?_; rintro e W2 ⟨rfl, hb2, bs2⟩; have sh0 : W2.cell? ⟨w.heap.size, 0, none⟩ = some (.int .i64 s0.z) := bs2.cell 0; have sh1 : W2.cell? ⟨w.heap.size, 1, none⟩ = some (.int .i64 s0.zb) := bs2.cell 1; have sh2 : W2.cell? ⟨w.heap.size, 2, none⟩ = some (.int .i64 s0.b) := bs2.cell 2; have sh3 : W2.cell? ⟨w.heap.size, 3, none⟩ = some (.int .i64 s0.r) := bs2.cell 3)
        | (go_at_call 11; refine (HN.out _ hb2).mono ?_; rintro e W3 ⟨rfl, hb3⟩))
      go_ret
      exact ⟨rfl, hb3⟩

set_option maxRecDepth 100000 in
theorem lifted (os : Os) (started : os.Started) (H : Type) (enc : TypeId × Value → H) :
    ReturnsInHanded {} Tryz.checked os 5 .any (Rows.storePlacesSpec.pre6 enc Tryz.prog Tryz.f5 Rows.storePlacesRow.domain false) (Rows.storePlacesSpec.post enc Tryz.prog Tryz.f5 false true false false) := by
  refine returnsInHanded_of_change (C := Tryz.checked) own started (by kernel_rfl) Tryz.func5
    (ChangeSpec.witness6 (enc := enc) (C := Tryz.checked) false ⟨#[], #[.agg #[.int .i64 0, .int .i64 0, .int .i64 0, .int .i64 0], .slice none 0 0], []⟩ 8 (by kernel_rfl) (by kernel_rfl) (by kernel_rfl) (by kernel_rfl)) ?_
  intro W base args ds gs before hval0 hW hcnd _
  have hval : ∀ (j : Nat) t v, Tryz.f5.params[j]? = some t → args[j]? = some v → Value.okWide Tryz.prog W .any base t v := hval0
  have hW' := hW
  obtain ⟨p, q, hA0, hV, rfl, hfz, hnd⟩ := hW
  have hA : DataW.TrodAll enc Tryz.prog W 0 (fun _ => true) true Tryz.f5.params.toList args.toList ds p := hA0
  rw [Tryz.params5] at hA hval
  obtain ⟨v0, vs0, d0, ds0, p0, q0, hargs, rfl, rfl, h0, r0⟩ := trodAll_cons hA
  obtain ⟨v1, vs1, d1, ds1, p1, q1, rfl, rfl, rfl, h1, r1⟩ := trodAll_cons r0
  obtain ⟨rfl, rfl, rfl⟩ := trodAll_nil r1
  obtain rfl : args = #[v0, v1] := by cases args; simp_all
  obtain ⟨rfl, rfl⟩ := trodVars_none hV
  have k0 := h0
  have lt0 : ∀ x ∈ p0, x.block < W.heap.size := by obtain ⟨m, hm⟩ := k0; exact DataW.trod_lt m _ _ _ hm
  obtain ⟨s0, rfl, w0⟩ := open_shape (hval 0 23 v0 rfl rfl) h0
  obtain ⟨a1, n1, c1, rfl⟩ := okWide_slice Tryz.underlying24 (hval 1 24 v1 rfl rfl)
  have k1 := h1
  have lt1 : ∀ x ∈ p1, x.block < W.heap.size := by obtain ⟨m, hm⟩ := k1; exact DataW.trod_lt m _ _ _ hm
  obtain ⟨x1, w1⟩ := open_sops h1
  clear hA0 hval0
  refine (walk s0 a1 n1 c1 x1 W w0 w1).mono fun e W' ⟨he, bel⟩ => ?_
  subst he
  exact ⟨_, rfl, _, _, _, [], _, [], hW', trodAll_mk1 (shut_bool Tryz.underlying4 _), (trodAll_cons_mk (Below.trod laidOut (by kernel_rfl) (of_decide_eq_true (by kernel_rfl)) k0 bel lt0) (trodAll_cons_mk (Below.trod laidOut (by kernel_rfl) (of_decide_eq_true (by kernel_rfl)) k1 bel lt1) trodAll_mk0)), rfl, bel.frame _, fun h => by cases h⟩

theorem over : Rows.storePlacesRow.holds Tryz.pinned (OpenSpec.ofChange Rows.storePlacesSpec) :=
  OpenClaim.holds_of_wide 5 Tryz.f5 rfl rfl rfl rfl rfl rfl rfl ⟨rfl, rfl, rfl, rfl, rfl⟩ rfl rfl rfl rfl rfl (by kernel_rfl) Tryz.func5 (by kernel_rfl)
    (of_decide_eq_true (by kernel_rfl)) (by unfold Func.isWrapper; first | (rw [if_pos (by decide +kernel)]; kernel_rfl) | (rw [if_neg (by decide +kernel)]; exact ⟨rfl, rfl⟩))
    (fun os started H enc _ => lifted os started H enc)

end Go.Proofs.YtfcbcpjcmihooaaGreat.storePlaces
namespace Go.Proofs.YtfcbcpjcmihooaaGreat
/-- The statement. -/
theorem storePlaces_holds : Rows.StorePlacesSaid := storePlaces.over
#print axioms storePlaces_holds
end Go.Proofs.YtfcbcpjcmihooaaGreat
