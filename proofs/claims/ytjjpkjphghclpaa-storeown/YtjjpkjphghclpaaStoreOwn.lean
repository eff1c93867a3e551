/- For every shape and every list of blocks: what a store holds is its own: data that are written over behind a Put, or data that Get handed out, change nothing that it tells. -/
import Derived.Test.YtjjpkjphghclpaaRows
import Derived.Test.YtjjpkjphghclpaaJ28
import Derived.BigQuiet
import Derived.Lib.QuietBelow
import Derived.WalkKit
import Derived.ProofKit
import Derived.OpenShut
import Derived.ShutString
import Derived.ChangeOld
import Derived.Below
namespace Go.Proofs.Ytjjpkjphghclpaa.storeOwn
open Go.ChangeShapes Go.WideShapes Go.ChangeAt Go.RowKit
open Go.ChangeMaps (open_string shut_string)
set_option linter.unusedVariables false

theorem own : ownKnob Try.prog.godebug = none := by kernel_rfl
theorem laidOut : laidOutB Try.prog = true := by kernel_rfl

set_option maxRecDepth 20000 in
set_option maxHeartbeats 8000000 in
theorem walk (s0 : Sh) (a1 : Option Addr) (n1 c1 : Nat) (x1 : List Pt) (w : World) (w0 : ShF s0) (w1 : PtsR w a1 n1 x1 ∧ n1 ≤ c1 ∧ (a1 = none → n1 = 0 ∧ c1 = 0)) :
    Calls Try.prog 6 #[.agg (shL s0).toArray, .slice a1 n1 c1] w fun e w' => e = .returned (.bool true) ∧ Below w.heap.size w w' := by
  obtain ⟨hpr, hnc, hnil⟩ := w1
  have hb0 : Below w.heap.size w ((w.alloc (.cells #[.int .i64 s0.z, .int .i64 s0.zb, .int .i64 s0.b, .int .i64 s0.r] 23)).alloc (.cells #[.int .u8 0, .slice a1 n1 c1, .int .i64 0] 27)) := ((Below.refl _ _).alloc (Nat.le_refl _) _).alloc (by simp) _
  have bs0 : Blk ((w.alloc (.cells #[.int .i64 s0.z, .int .i64 s0.zb, .int .i64 s0.b, .int .i64 s0.r] 23)).alloc (.cells #[.int .u8 0, .slice a1 n1 c1, .int .i64 0] 27)) w.heap.size [.int .i64 s0.z, .int .i64 s0.zb, .int .i64 s0.b, .int .i64 s0.r] 23 := (Blk.new' rfl rfl).alloc _
  obtain ⟨hv, hHv⟩ : ∃ b, b = @decide (HvO s0 [⟨0, x1, 0⟩]) (Classical.propDecidable _) := ⟨_, rfl⟩
  have HHv : Hid (Calls Try.prog 7 #[.agg #[.int .i64 s0.z, .int .i64 s0.zb, .int .i64 s0.b, .int .i64 s0.r], .slice (some ⟨w.heap.size + 1, 0, none⟩) 1 1] ((w.alloc (.cells #[.int .i64 s0.z, .int .i64 s0.zb, .int .i64 s0.b, .int .i64 s0.r] 23)).alloc (.cells #[.int .u8 0, .slice a1 n1 c1, .int .i64 0] 27)) fun e w' => e = .returned (.int .i64 (trB hv)) ∧ Below w.heap.size w w' ∧ Blk w' w.heap.size [.int .i64 s0.z, .int .i64 s0.zb, .int .i64 s0.b, .int .i64 s0.r] 23) := by
    rw [hHv]
    refine (Heavy_one s0 a1 n1 c1 x1 hpr hnc hnil hb0 (Blk.new' (by simp) rfl)).mono ?_
    rintro e w' ⟨rfl, hb⟩
    exact ⟨rfl, hb0.trans (hb.mono hb0.size), bs0.below hb bs0.lt⟩
  have HH : Hid (hv = @decide (HvO s0 [⟨0, x1, 0⟩]) (Classical.propDecidable _) ∧ PtsR w a1 n1 x1 ∧ ShF s0) := ⟨hHv, hpr, w0⟩
  have HKn : Hid (∀ V, Below w.heap.size w V → Blk V w.heap.size [.int .i64 s0.z, .int .i64 s0.zb, .int .i64 s0.b, .int .i64 s0.r] 23 → Calls Try.prog 8 #[] V fun e w' => e = .returned (.bool true) ∧ Below w.heap.size w w' ∧ Blk w' w.heap.size [.int .i64 s0.z, .int .i64 s0.zb, .int .i64 s0.b, .int .i64 s0.r] 23) := fun V hb hs => by
    refine (sknown_any V).mono ?_
    rintro e w' ⟨rfl, hb'⟩
    exact ⟨rfl, hb.trans (hb'.mono hb.size), hs.below hb' hs.lt⟩
  clear hHv hpr hb0 bs0 w0
  unfold shL
  cases hv with
  | true =>
    rw [show trB true = 1 from rfl] at HHv
    go_enter Try.func6, Try.ntmps6
    go_wp2_with (first
      | (go_at_call 7; refine HHv.out.mono ?_; rintro e W1 ⟨rfl, hb1, bs1⟩)
      | (go_at_call 8; refine (HKn.out _ hb1 bs1).mono ?_; rintro e W2 ⟨rfl, hb2, _⟩))
    go_ret
    exact ⟨rfl, hb2⟩
  | false =>
    rw [show trB false = 0 from rfl] at HHv
    have HL : Hid (SmallS s0 ∧ n1 ≤ 30 ∧ (∀ p ∈ x1, p.d.length ≤ 200) ∧ PtsIn (fun x => x < w.heap.size) w a1 n1 x1 ∧ x1.length = n1) := by
      have hn := light_one (fun h => by have e := HH.out.1; rw [@decide_eq_true _ (Classical.propDecidable _) h] at e; cases e)
      have hlen := HH.out.2.1.1
      exact ⟨hn.1, by rw [← hlen]; exact hn.2.1, hn.2.2, HH.out.2.1.pts (by rw [← hlen]; have := hn.2.1; omega) (fun p hp => by have := hn.2.2 p hp; omega), hlen⟩
    by_cases hr : RightS s0
    · have HN : Hid (∀ V, Below w.heap.size w V → Blk V w.heap.size [.int .i64 s0.z, .int .i64 s0.zb, .int .i64 s0.b, .int .i64 s0.r] 23 → Calls Try.prog 9 #[.agg #[.int .i64 s0.z, .int .i64 s0.zb, .int .i64 s0.b, .int .i64 s0.r]] V fun e w' => ∃ D k, e = .returned (.pointer (some ⟨k.ps, 0, none⟩)) ∧ (Below w.heap.size w w' ∧ StV D w' k (st0 s0) 0 ∧ ∀ x, StO D k x → V.heap.size ≤ x) ∧ Below V.heap.size V w' ∧ Blk w' w.heap.size [.int .i64 s0.z, .int .i64 s0.zb, .int .i64 s0.b, .int .i64 s0.r] 23) := fun V hb hs => by
        refine (snew_of s0 V (by have := HH.out.2.2.1; exact this.1)).mono ?_
        rintro e w' ⟨hb', ⟨hn, _⟩ | ⟨_, D, k, rfl, h1, h2⟩⟩
        · exact (hn hr).elim
        · exact ⟨D, k, rfl, ⟨hb.trans (hb'.mono hb.size), h1, h2⟩, hb', hs.below hb' hs.lt⟩
      obtain ⟨S, hS⟩ : ∃ S : Nat, s0.b = S := ⟨s0.b.toNat, by have := (pow_bounds (show s0.b ∈ PowR from hr.2.2.2.2.1)).1; omega⟩
      have HS : Hid (s0.b = S ∧ S ≤ 128 ∧ 64 ≤ S ∧ RightS s0) := ⟨hS, by have := HL.out.1.2.2; omega, by have := (pow_bounds (show s0.b ∈ PowR from hr.2.2.2.2.1)).1; omega, hr⟩
      clear hr hS
      go_enter Try.func6, Try.ntmps6
      go_wp2_with (first
        | (go_at_call 7; refine HHv.out.mono ?_; rintro e W1 ⟨rfl, hb1, bs1⟩)
        | (go_at_call 8; refine (HKn.out _ hb1 bs1).mono ?_; rintro e W2 ⟨rfl, hb2, bs2⟩; have sh0 : W2.cell? ⟨w.heap.size, 0, none⟩ = some (.int .i64 s0.z) := bs2.cell 0; have sh1 : W2.cell? ⟨w.heap.size, 1, none⟩ = some (.int .i64 s0.zb) := bs2.cell 1; have sh2 : W2.cell? ⟨w.heap.size, 2, none⟩ = some (.int .i64 s0.b) := bs2.cell 2; have sh3 : W2.cell? ⟨w.heap.size, 3, none⟩ = some (.int .i64 s0.r) := bs2.cell 3)
        | (go_at_call 9; refine (HN.out _ hb2 bs2).mono ?_; rintro e W3 ⟨D, k, rfl, hv3, hb23, bs3⟩; have sh4 : W3.cell? ⟨w.heap.size, 2, none⟩ = some (.int .i64 s0.b) := bs3.cell 2))
      have hwV : w.heap.size < W2.heap.size := bs2.lt
      have HBl : Hid (Calls Try.prog 10 #[.int .i64 s0.b, .slice a1 n1 c1] W3 fun e w' => ∃ A C, e = .returned (.slice A n1 C) ∧ Rd w w' s0 D k (st0 s0) 0 A n1 C (x1.map (blkP S))) := by
        rw [HS.out.1]
        exact rd_blocks hwV hv3.1 bs3 hv3.2.1 hv3.2.2 HL.out.2.2.2.1 (by have := HS.out.2.1; omega)
      clear hwV sh0 sh1 sh2 sh3 bs2 bs1 hb1 hb2 hv3 hb23 bs3 HN HHv HKn
      obtain ⟨l', hl'⟩ : ∃ l', l' = x1.map (blkP S) := ⟨_, rfl⟩
      rw [← hl'] at HBl
      have HLl : Hid (l' = x1.map (blkP S) ∧ l'.length = n1 ∧ (∀ p ∈ l', p.Fits)) := ⟨hl', by rw [hl', List.length_map]; exact HL.out.2.2.2.2, by rw [hl']; exact map_fits HL.out.2.2.2.1.fits⟩
      clear hl'
      go_wp2_with (first
        | (go_at_call 10; refine HBl.out.mono ?_; rintro e W4 ⟨A, C, rfl, rd4⟩))
      have HR : Hid (RdB w W4 s0 D k (st0 s0) 0 A n1 C l' W4.heap.size) := rd4.b
      have hn30 : n1 ≤ 30 := HL.out.2.1
      clear rd4 HBl sh4
      go_loopw [6, 7] (fun v x wr => ∃ (j : Nat) (Ao : Option Addr) (Co : Nat) (vs : List Value), v = .slice Ao j Co ∧ x = .int .i64 j ∧ j ≤ n1 ∧ RdB w wr s0 D k (st0 s0) 0 A n1 C l' W4.heap.size ∧ OwA W4.heap.size W4 wr Ao j Co (l'.take j) vs) (fun _ x _ => n1 - (intOf x).toNat)
      case atStart => exact ⟨0, none, 0, [], rfl, rfl, Nat.zero_le _, HR.out, OwA.start W4⟩
      case round =>
        obtain ⟨j, Ao, Co, vs, rfl, rfl, hj, rb, ow⟩ := hrel
        clear HR
        rcases Nat.lt_or_ge j n1 with hlt | hge
        · have hj' : (j : Int) < n1 := by omega
          have hwj : IntKind.i64.wrap ((j : Int) + 1) = (j : Int) + 1 := by rw [IntKind.wrap_i64]; omega
          obtain ⟨p, b, off, A1, L1, C1, hp, rfl, hbB, x0, x1', x2, x3, hbin, hnil1, hL1, hfit, hA1⟩ := rb.at hlt
          have hle := own_lent (p := p) rb ow hbin hnil1 hL1 hfit (by omega)
          rw [← take_snoc hp] at hle
          have HLe : Hid (Calls Try.prog 20 #[.slice A1 L1 C1] (wr.alloc (.cells #[.int .u32 p.t, .int .u64 p.b, .bool p.x, .slice A1 L1 C1] 37)) fun e w2 => ∃ a2 c2, e = .returned (.slice a2 L1 c2) ∧ Blk w2 wr.heap.size [.int .u32 p.t, .int .u64 p.b, .bool p.x, .slice A1 L1 C1] 37 ∧
            ∃ a9 c9 w9, (Builtin.append_ #[24, 24] 24 #[.slice Ao j Co, .slice (some ⟨(w2.setCell ⟨wr.heap.size, 3, none⟩ (.slice a2 L1 c2)).heap.size, 0, none⟩) 1 1]).run Try.prog ((w2.setCell ⟨wr.heap.size, 3, none⟩ (.slice a2 L1 c2)).alloc (.cells #[.int .u32 p.t, .int .u64 p.b, .bool p.x, .slice a2 L1 c2] 37)) = .ok (.slice a9 (j + 1) c9) w9 ∧
            RdB w w9 s0 D k (st0 s0) 0 (some ⟨b, off, none⟩) n1 C l' W4.heap.size ∧ ∃ vs', OwA W4.heap.size W4 w9 a9 (j + 1) c9 (l'.take (j + 1)) vs') := hle
          clear hle rb ow hbin hnil1 hL1 hfit hA1 hp hbB
          go_upto_region 13 with (first
            | (go_at_call 20; refine HLe.out.mono ?_; rintro e w2 ⟨a2, c2, rfl, bg, a9, c9, w9, e9, r9, vs9, o9⟩; have y3 := bg.cell 3; have f3 := bg.frozen 3))
          have bs3 := bg.set 3 (.slice a2 L1 c2)
          obtain ⟨g, hg⟩ : ∃ g, g = wr.heap.size := ⟨_, rfl⟩
          rw [← hg] at bs3 e9 ⊢
          clear y3 f3 bg hg HLe
          generalize World.setCell w2 _ _ = W3 at bs3 e9 ⊢
          have z0 : W3.cell? ⟨g, 0, none⟩ = some (.int .u32 p.t) := bs3.cell 0
          have z1 : W3.cell? ⟨g, 1, none⟩ = some (.int .u64 p.b) := bs3.cell 1
          have z2 : W3.cell? ⟨g, 2, none⟩ = some (.bool p.x) := bs3.cell 2
          have z3 : W3.cell? ⟨g, 3, none⟩ = some (.slice a2 L1 c2) := bs3.cell 3
          have H9 : Hid (RdB w w9 s0 D k (st0 s0) 0 (some ⟨b, off, none⟩) n1 C l' W4.heap.size ∧ OwA W4.heap.size W4 w9 a9 (j + 1) c9 (l'.take (j + 1)) vs9) := ⟨r9, o9⟩
          clear r9 o9 bs3
          go_wp2_with (first
            | (at_builtin; refine wpList_append_run rfl _ _ 24 24 rfl _ _ rfl rfl _ _ e9 ?_))
          clear e9 z0 z1 z2 z3
          go_wp2
          go_roundw
          case rel => exact ⟨j + 1, a9, c9, vs9, rfl, by simp, by omega, H9.out.1, H9.out.2⟩
          case measure => simp [intOf]; omega
        · obtain rfl : j = n1 := by omega
          rw [List.take_of_length_le (by rw [HLl.out.2.1]; exact Nat.le_refl _)] at ow
          obtain ⟨eP, heP⟩ : ∃ eP, eP = (putM (st0 s0) l').1 := ⟨_, rfl⟩
          obtain ⟨sP, hsP⟩ : ∃ sP, sP = (putM (st0 s0) l').2 := ⟨_, rfl⟩
          have HI : Hid (Inv sP ∧ ∀ n d, memT sP n = some d → ∃ q ∈ l', q.n = n ∧ q.d = d) := by
            rw [hsP]
            exact put_told HS.out.2.2.2 HLl.out.2.2
          obtain ⟨q1, hq1⟩ : ∃ q1, q1 = W4.heap.size := ⟨_, rfl⟩
          obtain ⟨q2, hq2⟩ : ∃ q2, q2 = wr.heap.size := ⟨_, rfl⟩
          have HPu : Hid (Calls Try.prog 11 #[.pointer (some ⟨k.ps, 0, none⟩), .slice Ao j Co] wr fun e w' => e = .returned (.int .u16 eP) ∧ ∃ D', RdZ w w' s0 D' k sP (0 + j) A j C l' (fun x => q1 ≤ x ∧ x < q2) ∧ ∀ b off, Ao = some ⟨b, off, none⟩ → off = 0 ∧ Ow (fun x => q1 ≤ x ∧ x < q2) w' b vs) := by
            rw [heP, hsP, hq1, hq2]
            exact own_put rb ow HLl.out.2.1 (by omega) (by omega)
          have HA : Hid ((0 < j → ∃ b off, Ao = some ⟨b, off, none⟩) ∧ vs.length = j ∧ j ≤ Co) := ⟨fun h0 => by
            obtain ⟨p, b, off, _, e, _⟩ := (ow.pts HLl.out.2.1 (by omega)).at _ h0
            exact ⟨b, off, e⟩, by rw [ow.ln]; exact HLl.out.2.1, ow.cap⟩
          clear rb ow heP hsP hq1 hq2
          go_wp2_with (first
            | (go_at_call 11; refine HPu.out.mono ?_; rintro e w5 ⟨rfl, D5, rz5, ow5⟩))
          have H5 : Hid (RdZ w w5 s0 D5 k sP (0 + j) A j C l' (fun x => q1 ≤ x ∧ x < q2) ∧ ∀ b off, Ao = some ⟨b, off, none⟩ → off = 0 ∧ Ow (fun x => q1 ≤ x ∧ x < q2) w5 b vs) := ⟨rz5, ow5⟩
          clear rz5 ow5 HPu
          have hn30' : j ≤ 30 := hn30
          go_loopw [9] (fun x wr => ∃ i : Nat, x = .int .i64 i ∧ i ≤ j ∧ RdZ w wr s0 D5 k sP (0 + j) A j C l' (fun x => q1 ≤ x ∧ x < q2) ∧ ∀ b off, Ao = some ⟨b, off, none⟩ → off = 0 ∧ Ow (fun x => q1 ≤ x ∧ x < q2) wr b vs) (fun x _ => j - (intOf x).toNat)
          case atStart => exact ⟨0, rfl, Nat.zero_le _, H5.out.1, H5.out.2⟩
          case round =>
            obtain ⟨i, rfl, hi, rz, ow⟩ := hrel
            clear H5
            rcases Nat.lt_or_ge i j with hlt | hge2
            · have hi' : (i : Int) < j := by omega
              have hwi : IntKind.i64.wrap ((i : Int) + 1) = (i : Int) + 1 := by rw [IntKind.wrap_i64]; omega
              obtain ⟨b, off, rfl⟩ := HA.out.1 (by omega)
              obtain ⟨h0, owi⟩ := ow b off rfl
              obtain ⟨v, hv⟩ : ∃ v, vs[i]? = some v := ⟨vs[i]'(by rw [HA.out.2.1]; exact hlt), by simp⟩
              obtain ⟨A1, L1, C1, rfl, hL, hdat⟩ := owi.dat i v hv
              have HX : Hid (∀ V, Ow (fun x => q1 ≤ x ∧ x < q2) V b vs → V.cell? ⟨b, off + i * 4 + 3, none⟩ = some (.slice A1 L1 C1)) := fun V h => by rw [h0, Nat.zero_add]; exact h.at hv
              have HV : Hid (off = 0 ∧ vs[i]? = some (.slice A1 L1 C1) ∧ RdZ w wr s0 D5 k sP (0 + j) A j C l' (fun x => q1 ≤ x ∧ x < q2) ∧ Ow (fun x => q1 ≤ x ∧ x < q2) wr b vs) := ⟨h0, hv, rz, owi⟩
              clear h0 hv hdat owi ow rz
              go_wp2_with fail
              go_loopw [10] (fun x wr => ∃ m : Nat, x = .int .i64 m ∧ m ≤ L1 ∧ RdZ w wr s0 D5 k sP (0 + j) A j C l' (fun x => q1 ≤ x ∧ x < q2) ∧ Ow (fun x => q1 ≤ x ∧ x < q2) wr b vs) (fun x _ => L1 - (intOf x).toNat)
              case atStart => exact ⟨0, rfl, Nat.zero_le _, HV.out.2.2.1, HV.out.2.2.2⟩
              case round =>
                obtain ⟨m, rfl, hm, rz, owm⟩ := hrel
                have x3 := HX.out _ owm
                rcases Nat.lt_or_ge m L1 with hlt2 | hge3
                · have hm' : (m : Int) < L1 := by omega
                  have hwm : IntKind.i64.wrap ((m : Int) + 1) = (m : Int) + 1 := by rw [IntKind.wrap_i64]; omega
                  obtain ⟨A2, L2, C2, e2, _, hdat⟩ := owm.dat i _ HV.out.2.1
                  cases e2
                  obtain ⟨g, rfl, hz, hby⟩ := hdat (by omega)
                  obtain ⟨x, cx, fx, zx⟩ := hby.at hlt2
                  have HZ : Hid (RdZ w wr s0 D5 k sP (0 + j) A j C l' (fun x => q1 ≤ x ∧ x < q2) ∧ Ow (fun x => q1 ≤ x ∧ x < q2) wr b vs ∧ (q1 ≤ g ∧ g < q2) ∧ ByBlk wr g L1 ∧ Fits8 x) := ⟨rz, owm, hz, hby, fx⟩
                  clear rz owm hz hby fx HX HV
                  go_wp2_with fail
                  go_region
                  have H6 : Hid (RdZ w (wr.setCell ⟨g, m, none⟩ (.int .u8 (bits .xor .u8 x 255))).drew s0 D5 k sP (0 + j) A j C l' (fun x => q1 ≤ x ∧ x < q2) ∧ Ow (fun x => q1 ≤ x ∧ x < q2) (wr.setCell ⟨g, m, none⟩ (.int .u8 (bits .xor .u8 x 255))).drew b vs) :=
                    HZ.out.1.byte HZ.out.2.1 HZ.out.2.2.1 HZ.out.2.2.2.1 m (xor8_fits HZ.out.2.2.2.2 (by unfold Fits8; omega))
                  clear HZ cx zx x3
                  go_wp2
                  go_roundw
                  case rel => exact ⟨m + 1, by simp, by omega, H6.out.1, H6.out.2⟩
                  case measure => simp [intOf]; omega
                · obtain rfl : m = L1 := by omega
                  have H6 : Hid (RdZ w wr s0 D5 k sP (0 + j) A j C l' (fun x => q1 ≤ x ∧ x < q2) ∧ Ow (fun x => q1 ≤ x ∧ x < q2) wr b vs) := ⟨rz, owm⟩
                  clear rz owm
                  go_wp2
                  go_roundw
                  case rel => exact ⟨i + 1, by simp, by omega, H6.out.1, fun b' off' e => by cases e; exact ⟨HV.out.1, H6.out.2⟩⟩
                  case measure => simp [intOf]; omega
            · obtain rfl : i = j := by omega
              have HR : Hid (Rd w wr s0 D5 k sP (0 + i) A i C l') := rz.rd
              clear rz ow HA
              go_wp2_with fail
              go_loopw [11] (fun x wr => ∃ t : Nat, x = .int .i64 t ∧ t ≤ i ∧ Rd w wr s0 D5 k sP (0 + i) A i C l') (fun x _ => i - (intOf x).toNat)
              case atStart => exact ⟨0, rfl, Nat.zero_le _, HR.out⟩
              case round =>
                obtain ⟨t, rfl, ht, rd⟩ := hrel
                clear HR
                rcases Nat.lt_or_ge t i with hlt | hge3
                · have ht' : (t : Int) < i := by omega
                  have hwt : IntKind.i64.wrap ((t : Int) + 1) = (t : Int) + 1 := by rw [IntKind.wrap_i64]; omega
                  obtain ⟨p, b, off, A1, L1, C1, hp, rfl, x0, x1', x2, x3, _, _, _, hfit⟩ := rd.at hlt
                  have hpc : ∀ V, Rd w V s0 D5 k sP (0 + i) (some ⟨b, off, none⟩) i C l' → V.cell? ⟨b, off + t * 4, none⟩ = some (.int .u32 p.t) ∧ V.cell? ⟨b, off + t * 4 + 1, none⟩ = some (.int .u64 p.b) := fun V rv => by
                    obtain ⟨p', b', off', _, _, _, hp', e', y0, y1, _⟩ := rv.at hlt
                    cases e'
                    rw [hp] at hp'
                    cases hp'
                    exact ⟨y0, y1⟩
                  obtain ⟨B, hB⟩ : ∃ B, B = (memT sP p.n).isSome := ⟨_, rfl⟩
                  obtain ⟨E, hE⟩ : ∃ E, E = (memT sP p.n).getD [] := ⟨_, rfl⟩
                  have HG : Hid (∀ V, Rd w V s0 D5 k sP (0 + i) (some ⟨b, off, none⟩) i C l' → Calls Try.prog 13 #[.pointer (some ⟨k.ps, 0, none⟩), .int .u32 p.t, .int .u64 p.b] V fun e w' => ∃ Ax Cx, e = .returned (.tuple #[.slice Ax E.length Cx, .bool B]) ∧ (BkAt (fun x => V.heap.size ≤ x) w' (.slice Ax E.length Cx) E ∧ Below V.heap.size V w' ∧ Rd w w' s0 D5 k sP (0 + i) (some ⟨b, off, none⟩) i C l') ∧ w'.cell? ⟨b, off + t * 4, none⟩ = some (.int .u32 p.t) ∧ w'.cell? ⟨b, off + t * 4 + 1, none⟩ = some (.int .u64 p.b)) := fun V rv => by
                    refine (sget_of rv.st p.n ⟨hfit.1, hfit.2.1⟩ HI.out.1.plc).mono ?_
                    rintro e w' ⟨v, rfl, bk, hb⟩
                    rw [← hB]
                    rw [← hE] at bk
                    obtain ⟨Ax, Cx, e9⟩ := own_slice bk.1
                    subst e9
                    exact ⟨Ax, Cx, rfl, ⟨bk, hb, rv.below hb⟩, hpc w' (rv.below hb)⟩
                  have HP : Hid (l'[t]? = some p ∧ B = (memT sP p.n).isSome ∧ E = (memT sP p.n).getD [] ∧ ∀ V, Rd w V s0 D5 k sP (0 + i) (some ⟨b, off, none⟩) i C l' → V.cell? ⟨b, off + t * 4, none⟩ = some (.int .u32 p.t) ∧ V.cell? ⟨b, off + t * 4 + 1, none⟩ = some (.int .u64 p.b)) := ⟨hp, hB, hE, hpc⟩
                  obtain ⟨y0, y1⟩ := hpc wr rd
                  have HR : Hid (Rd w wr s0 D5 k sP (0 + i) (some ⟨b, off, none⟩) i C l') := rd
                  clear hp hB hE hpc rd hfit x0 x1' x2 x3
                  go_wp2_with fail
                  go_region_held3 (fun Y => Y.cell? ⟨b, off + t * 4, none⟩ = some (.int .u32 p.t) ∧ Y.cell? ⟨b, off + t * 4 + 1, none⟩ = some (.int .u64 p.b)) (first | exact ⟨y0, y1⟩ | exact ⟨z0, z1⟩)
                    (first | (go_simp; go_at_call 13; refine (HG.out _ (HR.out.below (Below.refl _ _).drew)).mono ?_; rintro e V2 ⟨Ax, Cx, rfl, gx, z0, z1⟩))
                  obtain ⟨q3, hq3⟩ : ∃ q3, q3 = wr.heap.size := ⟨_, rfl⟩
                  have H2 : Hid (RdB w V2 s0 D5 k sP (0 + i) (some ⟨b, off, none⟩) i C l' q3 ∧ BkAt (fun x => q3 ≤ x) V2 (.slice Ax E.length Cx) E) := by
                    rw [hq3]
                    exact ⟨(HR.out.b.below (Below.refl _ _).drew).below gx.2.1, gx.1⟩
                  have hLe := lentBytes_of Ax E.length Cx E V2 gx.1.bin.1 gx.1.bin.2.1 gx.1.2.2.2
                  have HLe : Hid (Calls Try.prog 20 #[.slice Ax E.length Cx] V2 (LentE V2 E)) := hLe
                  clear gx hLe hq3 HR y0 y1 z0 z1
                  go_upto_region 27 with (first
                    | (go_at_call 20; refine HLe.out.mono ?_; rintro e V3 ⟨v3, rfl, bk3, b3⟩; obtain ⟨Aw, Cw, e3⟩ := own_slice bk3.1; subst e3))
                  have H3 : Hid (RdB w V3 s0 D5 k sP (0 + i) (some ⟨b, off, none⟩) i C l' q3 ∧ BIn V3 Aw E.length E ∧ (E.length ≠ 0 → ∃ g, Ax = some ⟨g, 0, none⟩ ∧ q3 ≤ g ∧ ByBlk V3 g E.length ∧ ∀ y, Aw.map (·.block) = some y → y ≠ g) ∧ E.length ≤ 1000000) := by
                    refine ⟨H2.out.1.below b3, bk3.bin.1, fun hn => ?_, bk3.2.2.2⟩
                    obtain ⟨a', c', e', hg'⟩ := H2.out.2.blk
                    cases e'
                    obtain ⟨g, r1, r2, r3, r4⟩ := hg' hn
                    obtain ⟨a'', c'', e'', hg''⟩ := bk3.blk
                    cases e''
                    obtain ⟨g2, u1, u2, u3, u4⟩ := hg'' hn
                    refine ⟨g, r1, r2, r4.out (below_out Non b3) (fun e => e), fun y hy e => ?_⟩
                    rw [u1] at hy
                    simp only [Option.map_some, Option.some.injEq] at hy
                    omega
                  clear bk3 b3 H2 HLe
                  go_wp2_with fail
                  go_loopw [15] (fun x wr => ∃ m : Nat, x = .int .i64 m ∧ m ≤ E.length ∧ RdB w wr s0 D5 k sP (0 + i) (some ⟨b, off, none⟩) i C l' q3 ∧ BIn wr Aw E.length E ∧ (E.length ≠ 0 → ∃ g, Ax = some ⟨g, 0, none⟩ ∧ q3 ≤ g ∧ ByBlk wr g E.length ∧ ∀ y, Aw.map (·.block) = some y → y ≠ g)) (fun x _ => E.length - (intOf x).toNat)
                  case atStart => exact ⟨0, rfl, Nat.zero_le _, H3.out.1, H3.out.2.1, H3.out.2.2.1⟩
                  case round =>
                    obtain ⟨m, rfl, hm, rb, hw, hdat⟩ := hrel
                    have hmil : E.length ≤ 1000000 := H3.out.2.2.2
                    clear H3
                    rcases Nat.lt_or_ge m E.length with hlt2 | hge4
                    · have hm' : (m : Int) < E.length := by omega
                      have hwm : IntKind.i64.wrap ((m : Int) + 1) = (m : Int) + 1 := by rw [IntKind.wrap_i64]; omega
                      obtain ⟨g, rfl, hgq, hby, hne⟩ := hdat (by omega)
                      obtain ⟨x, cx, fx, zx⟩ := hby.at hlt2
                      have H6 : Hid (∃ m' : Nat, Value.int .i64 ((m : Int) + 1) = .int .i64 m' ∧ m' ≤ E.length ∧ RdB w (wr.setCell ⟨g, m, none⟩ (.int .u8 (bits .xor .u8 x 85))) s0 D5 k sP (0 + i) (some ⟨b, off, none⟩) i C l' q3 ∧ BIn (wr.setCell ⟨g, m, none⟩ (.int .u8 (bits .xor .u8 x 85))) Aw E.length E ∧ (E.length ≠ 0 → ∃ g', (some ⟨g, 0, none⟩ : Option Addr) = some ⟨g', 0, none⟩ ∧ q3 ≤ g' ∧ ByBlk (wr.setCell ⟨g, m, none⟩ (.int .u8 (bits .xor .u8 x 85))) g' E.length ∧ ∀ y, Aw.map (·.block) = some y → y ≠ g')) := by
                        have hy : Fits8 (bits .xor .u8 x 85) := xor8_fits fx (by unfold Fits8; omega)
                        exact ⟨m + 1, by simp, by omega, rb.poke hgq m _, hw.out (out_one wr g m _) (fun _ y hy' e => hne y hy' e), fun _ => ⟨g, rfl, hgq, hby.set g m hy, hne⟩⟩
                      clear rb hw hdat hby hne fx
                      go_wp2
                      go_roundw
                      case rel => exact H6.out
                      case measure => simp [intOf]; omega
                    · obtain rfl : m = E.length := by omega
                      obtain ⟨y0, y1⟩ := HP.out.2.2.2 wr rb.rd
                      have HR : Hid (Rd w wr s0 D5 k sP (0 + i) (some ⟨b, off, none⟩) i C l' ∧ BIn wr Aw E.length E) := ⟨rb.rd, hw⟩
                      clear rb hw hdat
                      go_wp2_with fail
                      go_region_held3 (fun Y => Y.cell? ⟨b, off + t * 4, none⟩ = some (.int .u32 p.t) ∧ Y.cell? ⟨b, off + t * 4 + 1, none⟩ = some (.int .u64 p.b)) (first | exact ⟨y0, y1⟩ | exact ⟨z0, z1⟩)
                        (first | (go_simp; go_at_call 13; refine (HG.out _ (HR.out.1.below (Below.refl _ _).drew)).mono ?_; rintro e V4 ⟨Ay, Cy, rfl, gy, z0, z1⟩))
                      have H4 : Hid (Rd w V4 s0 D5 k sP (0 + i) (some ⟨b, off, none⟩) i C l' ∧ BIn V4 Ay E.length E) := ⟨gy.2.2, gy.1.bin.1⟩
                      have HS4 : Hid (Calls Try.prog 14 #[.slice Ay E.length Cy, .slice Aw E.length Cw] V4 fun e w' => e = .returned (.bool true) ∧ w' = V4) := sameBytes_of Ay E.length Cy E Aw E.length Cw V4 gy.1.bin.1 ((HR.out.2.below (Below.refl _ _).drew).below gy.2.1)
                      have hBB : (B != B) = false := by simp
                      clear gy y0 y1 z0 z1 HR
                      go_upto_region 34 with (first
                        | (go_at_call 14; refine HS4.out.mono ?_; rintro e V5 ⟨rfl, rfl⟩))
                      clear HS4 hBB
                      go_wp2_with fail
                      go_loopw [18, 19] (fun v x wr => ∃ (m : Nat) (sg : Bool), v = .bool sg ∧ x = .int .i64 m ∧ m ≤ i ∧ Rd w wr s0 D5 k sP (0 + i) (some ⟨b, off, none⟩) i C l' ∧ BIn wr Ay E.length E ∧ (B = false → sg = true) ∧ ∀ u q, u < m → l'[u]? = some q → q.n = p.n → q.d = E → sg = true) (fun _ x _ => i - (intOf x).toNat)
                      case atStart => exact ⟨0, !B, rfl, rfl, Nat.zero_le _, H4.out.1, H4.out.2, fun h => by simp [h], fun u q h => by omega⟩
                      case round =>
                        obtain ⟨m, sg, rfl, rfl, hm, rd, hb4, hs1, hs2⟩ := hrel
                        clear H4
                        rcases Nat.lt_or_ge m i with hlt2 | hge4
                        · have hm' : (m : Int) < i := by omega
                          have hwm : IntKind.i64.wrap ((m : Int) + 1) = (m : Int) + 1 := by rw [IntKind.wrap_i64]; omega
                          obtain ⟨p2, b2, off2, A2, L2, C2, hp2, e2, u0, u1, _, u3, hbin2, _⟩ := rd.at hlt2
                          cases e2
                          obtain ⟨y0, y1⟩ := HP.out.2.2.2 wr rd
                          have H7 : Hid (∀ V7 sg', Below wr.heap.size wr V7 → (sg = true → sg' = true) → (p2.n = p.n → p2.d = E → sg' = true) → ∃ (m' : Nat) (sg : Bool), Value.bool sg' = .bool sg ∧ Value.int .i64 ((m : Int) + 1) = .int .i64 m' ∧ m' ≤ i ∧ Rd w V7 s0 D5 k sP (0 + i) (some ⟨b, off, none⟩) i C l' ∧ BIn V7 Ay E.length E ∧ (B = false → sg = true) ∧ ∀ u q, u < m' → l'[u]? = some q → q.n = p.n → q.d = E → sg = true) := fun V7 sg' hb7 h1 h2 => ⟨m + 1, sg', rfl, by simp, by omega, rd.below hb7, hb4.below hb7, fun h => h1 (hs1 h), fun u q hu hq hn hd => by
                            rcases Nat.lt_or_ge u m with h | h
                            · exact h1 (hs2 u q h hq hn hd)
                            · obtain rfl : u = m := by omega
                              rw [hp2] at hq
                              cases hq
                              exact h2 hn hd⟩
                          have HB2 : Hid (BIn wr A2 L2 p2.d ∧ BIn wr Ay E.length E) := ⟨hbin2, hb4⟩
                          clear rd hb4 hs1 hs2 hbin2 hp2
                          cases sg with
                          | true =>
                            go_wp2_with fail
                            go_quiet (fail)
                            go_wp2
                            go_roundw
                            case rel => exact H7.out _ true (below_drewN _ _) (fun _ => rfl) (fun _ _ => rfl)
                            case measure => simp [intOf]; omega
                          | false =>
                            by_cases ht2 : p2.t = p.t
                            · by_cases hb2 : p2.b = p.b
                              · rw [ht2] at u0
                                rw [hb2] at u1
                                go_wp2_with fail
                                have cS := fun d os => Calls.regrown_of ((same_dec Ay E.length Cy E p2.d A2 L2 C2 (Go.Sort.grow (redrawn wr d) os) (HB2.out.2.below (below_regrown wr d os)) (HB2.out.1.below (below_regrown wr d os))).mono (fun e w' h => ⟨h.1, by rw [h.2]; exact Below.refl _ _⟩))
                                have ur0 : ∀ d os, (Go.Sort.grow (redrawn wr d) os).cell? ⟨b, off + m * 4, none⟩ = some (.int .u32 p.t) := fun d os => ((below_regrown wr d os).cell (old_block u0)).trans u0
                                have ur1 : ∀ d os, (Go.Sort.grow (redrawn wr d) os).cell? ⟨b, off + m * 4 + 1, none⟩ = some (.int .u64 p.b) := fun d os => ((below_regrown wr d os).cell (old_block u1)).trans u1
                                have ur3 : ∀ d os, (Go.Sort.grow (redrawn wr d) os).cell? ⟨b, off + m * 4 + 3, none⟩ = some (.slice A2 L2 C2) := fun d os => ((below_regrown wr d os).cell (old_block u3)).trans u3
                                have yr0 : ∀ d os, (Go.Sort.grow (redrawn wr d) os).cell? ⟨b, off + t * 4, none⟩ = some (.int .u32 p.t) := fun d os => ((below_regrown wr d os).cell (old_block y0)).trans y0
                                have yr1 : ∀ d os, (Go.Sort.grow (redrawn wr d) os).cell? ⟨b, off + t * 4 + 1, none⟩ = some (.int .u64 p.b) := fun d os => ((below_regrown wr d os).cell (old_block y1)).trans y1
                                refine wp_region_quiet_below (by kernel_rfl) (by kernel_rfl) ?_
                                iterate 33 (quiet_step (fail))
                                quiet_step (exact cS _ _)
                                iterate 3 (quiet_step (fail))
                                refine wpQuiet_nil ?_
                                intro _ hw'
                                obtain ⟨⟨dq, osq⟩, hw''⟩ := hw'
                                subst hw''
                                go_wp2
                                go_roundw
                                case rel => exact H7.out _ _ (below_regrown wr dq osq) (fun h => by cases h) (fun _ hd => by simp [hd])
                                case measure => simp [intOf]; omega
                              · have hne : (p2.b == p.b) = false := by simp [hb2]
                                rw [ht2] at u0
                                go_wp2_with fail
                                go_quiet (fail)
                                go_wp2
                                go_roundw
                                case rel => exact H7.out _ false (below_drewN _ _) (fun h => h) (fun h _ => absurd (congrArg Prod.snd h) hb2)
                                case measure => simp [intOf]; omega
                            · have hne : (p2.t == p.t) = false := by simp [ht2]
                              go_wp2_with fail
                              go_quiet (fail)
                              go_wp2
                              go_roundw
                              case rel => exact H7.out _ false (below_drewN _ _) (fun h => h) (fun h _ => absurd (congrArg Prod.fst h) ht2)
                              case measure => simp [intOf]; omega
                        · obtain rfl : m = i := by omega
                          have hsg : sg = true := by
                            cases hBv : B with
                            | false => exact hs1 hBv
                            | true =>
                              have hsome := HP.out.2.1
                              rw [hBv] at hsome
                              obtain ⟨d, hd⟩ := Option.isSome_iff_exists.1 hsome.symm
                              have hEd := HP.out.2.2.1
                              rw [hd] at hEd
                              obtain ⟨q, hq1, hq2, hq3⟩ := HI.out.2 _ d hd
                              obtain ⟨u, hu⟩ := List.getElem?_of_mem hq1
                              exact hs2 u q (by have := (List.getElem?_eq_some_iff.1 hu).1; rw [HLl.out.2.1] at this; exact this) hu hq2 (by rw [hq3, hEd]; rfl)
                          subst hsg
                          have HR : Hid (Rd w wr s0 D5 k sP (0 + m) (some ⟨b, off, none⟩) m C l') := rd
                          clear rd hb4 hs1 hs2
                          go_wp2
                          go_roundw
                          case rel => exact ⟨t + 1, by simp, by omega, HR.out⟩
                          case measure => simp [intOf]; omega
                · have HB : Hid (Below w.heap.size w wr) := rd.bel
                  obtain rfl : t = i := by omega
                  clear rd
                  go_wp2
                  go_ret
                  exact ⟨rfl, HB.out⟩
    · have HN : Hid (∀ V, Below w.heap.size w V → Calls Try.prog 9 #[.agg #[.int .i64 s0.z, .int .i64 s0.zb, .int .i64 s0.b, .int .i64 s0.r]] V fun e w' => e = .returned (.pointer none) ∧ Below w.heap.size w w' ∧ ∀ b L t, Blk V b L t → Blk w' b L t) := fun V hb => by
        refine (snew_of s0 V (by have := HH.out.2.2.1; exact this.1)).mono ?_
        rintro e w' ⟨hb', ⟨_, rfl⟩ | ⟨hh, _⟩⟩
        · exact ⟨rfl, hb.trans (hb'.mono hb.size), fun b L t h => h.below hb' h.lt⟩
        · exact (hr hh).elim
      go_enter Try.func6, Try.ntmps6
      go_wp2_with (first
        | (go_at_call 7; refine HHv.out.mono ?_; rintro e W1 ⟨rfl, hb1, bs1⟩)
        | (go_at_call 8; refine (HKn.out _ hb1 bs1).mono ?_; rintro e W2 ⟨rfl, hb2, bs2⟩; have sh0 : W2.cell? ⟨w.heap.size, 0, none⟩ = some (.int .i64 s0.z) := bs2.cell 0; have sh1 : W2.cell? ⟨w.heap.size, 1, none⟩ = some (.int .i64 s0.zb) := bs2.cell 1; have sh2 : W2.cell? ⟨w.heap.size, 2, none⟩ = some (.int .i64 s0.b) := bs2.cell 2; have sh3 : W2.cell? ⟨w.heap.size, 3, none⟩ = some (.int .i64 s0.r) := bs2.cell 3)
        | (go_at_call 9; refine (HN.out _ hb2).mono ?_; rintro e W3 ⟨rfl, hb3, _⟩))
      go_ret
      exact ⟨rfl, hb3⟩

set_option maxRecDepth 100000 in
theorem lifted (os : Os) (started : os.Started) (H : Type) (enc : TypeId × Value → H) :
    ReturnsInHanded {} Try.checked os 6 .any (Rows.storeOwnSpec.pre6 enc Try.prog Try.f6 Rows.storeOwnRow.domain false) (Rows.storeOwnSpec.post enc Try.prog Try.f6 false true false false) := by
  refine returnsInHanded_of_change (C := Try.checked) own started (by kernel_rfl) Try.func6
    (ChangeSpec.witness6 (enc := enc) (C := Try.checked) false ⟨#[], #[.agg #[.int .i64 0, .int .i64 0, .int .i64 0, .int .i64 0], .slice none 0 0], []⟩ 8 (by kernel_rfl) (by kernel_rfl) (by kernel_rfl) (by kernel_rfl)) ?_
  intro W base args ds gs before hval0 hW hcnd _
  have hval : ∀ (j : Nat) t v, Try.f6.params[j]? = some t → args[j]? = some v → Value.okWide Try.prog W .any base t v := hval0
  have hW' := hW
  obtain ⟨p, q, hA0, hV, rfl, hfz, hnd⟩ := hW
  have hA : DataW.TrodAll enc Try.prog W 0 (fun _ => true) true Try.f6.params.toList args.toList ds p := hA0
  rw [Try.params6] at hA hval
  obtain ⟨v0, vs0, d0, ds0, p0, q0, hargs, rfl, rfl, h0, r0⟩ := trodAll_cons hA
  obtain ⟨v1, vs1, d1, ds1, p1, q1, rfl, rfl, rfl, h1, r1⟩ := trodAll_cons r0
  obtain ⟨rfl, rfl, rfl⟩ := trodAll_nil r1
  obtain rfl : args = #[v0, v1] := by cases args; simp_all
  obtain ⟨rfl, rfl⟩ := trodVars_none hV
  have k0 := h0
  have lt0 : ∀ x ∈ p0, x.block < W.heap.size := by obtain ⟨m, hm⟩ := k0; exact DataW.trod_lt m _ _ _ hm
  obtain ⟨s0, rfl, w0⟩ := open_shape (hval 0 23 v0 rfl rfl) h0
  obtain ⟨a1, n1, c1, rfl⟩ := okWide_slice Try.underlying24 (hval 1 24 v1 rfl rfl)
  have k1 := h1
  have lt1 : ∀ x ∈ p1, x.block < W.heap.size := by obtain ⟨m, hm⟩ := k1; exact DataW.trod_lt m _ _ _ hm
  obtain ⟨x1, w1⟩ := open_puts h1
  clear hA0 hval0
  refine (walk s0 a1 n1 c1 x1 W w0 w1).mono fun e W' ⟨he, bel⟩ => ?_
  subst he
  exact ⟨_, rfl, _, _, _, [], _, [], hW', trodAll_mk1 (shut_bool Try.underlying4 _), (trodAll_cons_mk (Below.trod laidOut (by kernel_rfl) (of_decide_eq_true (by kernel_rfl)) k0 bel lt0) (trodAll_cons_mk (Below.trod laidOut (by kernel_rfl) (of_decide_eq_true (by kernel_rfl)) k1 bel lt1) trodAll_mk0)), rfl, bel.frame _, fun h => by cases h⟩

theorem over : Rows.storeOwnRow.holds Try.pinned (OpenSpec.ofChange Rows.storeOwnSpec) :=
  OpenClaim.holds_of_wide 6 Try.f6 rfl rfl rfl rfl rfl rfl rfl ⟨rfl, rfl, rfl, rfl, rfl⟩ rfl rfl rfl rfl rfl (by kernel_rfl) Try.func6 (by kernel_rfl)
    (of_decide_eq_true (by kernel_rfl)) (by unfold Func.isWrapper; first | (rw [if_pos (by decide +kernel)]; kernel_rfl) | (rw [if_neg (by decide +kernel)]; exact ⟨rfl, rfl⟩))
    (fun os started H enc _ => lifted os started H enc)

end Go.Proofs.Ytjjpkjphghclpaa.storeOwn
namespace Go.Proofs.Ytjjpkjphghclpaa
/-- The statement. -/
theorem storeOwn_holds : Rows.StoreOwnSaid := storeOwn.over
#print axioms storeOwn_holds
end Go.Proofs.Ytjjpkjphghclpaa
