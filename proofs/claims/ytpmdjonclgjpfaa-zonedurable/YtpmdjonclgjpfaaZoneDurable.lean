/- What is durable stays. -/
import Derived.Test.YtpmdjonclgjpfaaRows
import Derived.Test.YtpmdjonclgjpfaaZDur
import Derived.Test.YtpmdjonclgjpfaaZIn
import Derived.Test.YtpmdjonclgjpfaaZZn
import Derived.Test.YtpmdjonclgjpfaaZRZn
import Derived.WalkKit
import Derived.ProofKit
import Derived.OpenShut
import Derived.ShutString
import Derived.ChangeOld
import Derived.Below
namespace Go.Proofs.Ytpmdjonclgjpfaa.zoneDurable
open Go.ChangeShapes Go.WideShapes Go.ChangeAt Go.RowKit
open Go.ChangeMaps (open_string shut_string)
set_option linter.unusedVariables false

theorem own : ownKnob Try.prog.godebug = none := by kernel_rfl
theorem laidOut : laidOutB Try.prog = true := by kernel_rfl

set_option maxHeartbeats 8000000 in
set_option maxRecDepth 20000 in
theorem walk (s0 : Sh) (a1 : Option Addr) (n1 c1 : Nat) (x1 : List Opn) (a2 : Option Addr) (n2 c2 : Nat) (x2 : List (Int × Int)) (w : World) (w0 : ShF s0) (w1 : OpsIn w a1 n1 x1 ∧ OpsF x1) (w2 : LsIn w a2 n2 x2) :
    Calls Try.prog 6 #[.agg (shL s0).toArray, .slice a1 n1 c1, .slice a2 n2 c2] w fun e w' => e = .returned (.bool true) ∧ Below w.heap.size w w' := by
  have hz : -9223372036854775808 ≤ s0.z := w0.1.1
  obtain ⟨q, hq⟩ : ∃ q, q = w.heap.size := ⟨_, rfl⟩
  have hb : Blk (w.alloc (.cells #[.int .i64 s0.z, .int .i64 s0.zb, .int .i64 s0.b, .int .i64 s0.r] 23)) q (shL s0) 23 := Blk.new' hq.symm rfl
  have hbel : Below w.heap.size w (w.alloc (.cells #[.int .i64 s0.z, .int .i64 s0.zb, .int .i64 s0.b, .int .i64 s0.r] 23)) := (Below.refl _ _).alloc (Nat.le_refl _) _
  simp only [shL]
  go_enter Try.func6, Try.ntmps6
  go_upto_region 1 with fail
  rw [← hq]
  generalize hW1 : World.alloc _ _ = W1 at *
  clear hW1 hq
  have cells : ∀ {V : World}, Below W1.heap.size W1 V → V.cell? ⟨q, 0, none⟩ = some (.int .i64 s0.z) ∧ V.cell? ⟨q, 1, none⟩ = some (.int .i64 s0.zb) ∧ V.cell? ⟨q, 2, none⟩ = some (.int .i64 s0.b) ∧ V.cell? ⟨q, 3, none⟩ = some (.int .i64 s0.r) := by
    intro V hV
    have h := (below_out Non hV).blk hb id
    exact ⟨h.cell 0, h.cell 1, h.cell 2, h.cell 3⟩
  obtain ⟨e0, e1, e2, e3⟩ := cells (Below.refl _ _)
  have HC : Hid (∀ {V : World}, Below W1.heap.size W1 V → V.cell? ⟨q, 0, none⟩ = some (.int .i64 s0.z) ∧ V.cell? ⟨q, 1, none⟩ = some (.int .i64 s0.zb) ∧ V.cell? ⟨q, 2, none⟩ = some (.int .i64 s0.b) ∧ V.cell? ⟨q, 3, none⟩ = some (.int .i64 s0.r)) := cells
  have HB : Hid (Below w.heap.size w W1 ∧ -9223372036854775808 ≤ s0.z ∧ OpsIn w a1 n1 x1 ∧ LsIn w a2 n2 x2) := ⟨hbel, hz, w1.1, w2⟩
  clear cells hb hbel hz w0 w1 w2
  by_cases hg : decide (SmallS s0) = true ∧ heavyB x1 = false ∧ n2 ≤ 20
  · have HG : Hid (decide (SmallS s0) = true ∧ heavyB x1 = false) := ⟨hg.1, hg.2.1⟩
    have hn2 : (n2 : Int) ≤ 20 := by have := hg.2.2; omega
    clear hg
    go_upto_region 4 with (first
      | (go_at_call 9; refine (small_of s0 _).mono ?_; rintro e W2 ⟨rfl, b2⟩; rw [HG.out.1])
      | (go_at_call 10; refine (heavy_of a1 n1 c1 x1 _ (HB.out.2.2.1.below (HB.out.1.trans (b2.mono HB.out.1.size)))).mono ?_; rintro e W3 ⟨rfl, rfl⟩; rw [HG.out.2])
      | (go_at_call 11; refine (known_any _).mono ?_; rintro e W4 ⟨rfl, b4⟩; have b24 := b2.trans (b4.mono b2.size)))
    obtain ⟨g0, g1, g2, g3⟩ := HC.out b24
    have HX : Hid (OpsIn W4 a1 n1 x1 ∧ Below w.heap.size w W4 ∧ (∀ o ∈ x1, o.f.length ≤ 200) ∧ n1 ≤ 60 ∧ LsIn W4 a2 n2 x2) := by
      have hno := heavy_no HG.out.2
      have hl := HB.out.2.2.1.1
      have hbb := HB.out.1.trans (b24.mono HB.out.1.size)
      exact ⟨HB.out.2.2.1.below hbb, hbb, fun o ho => (hno.2 o ho).1, by omega, HB.out.2.2.2.below hbb⟩
    have HC4 : Hid (∀ {V : World}, Below W4.heap.size W4 V → V.cell? ⟨q, 0, none⟩ = some (.int .i64 s0.z) ∧ V.cell? ⟨q, 1, none⟩ = some (.int .i64 s0.zb) ∧ V.cell? ⟨q, 2, none⟩ = some (.int .i64 s0.b) ∧ V.cell? ⟨q, 3, none⟩ = some (.int .i64 s0.r)) := fun h => HC.out (b24.trans (h.mono b24.size))
    clear e0 e1 e2 e3 b2 b4 b24 HC
    by_cases hr : RightS s0
    · have HR : Hid (RightS s0) := hr
      clear hr
      go_upto_region 8 with (first
        | (go_at_call 12; refine (new_of s0 _ HB.out.2.1).mono ?_; rintro e W5 ⟨b5, (⟨hno, _⟩ | ⟨_, p, rfl, dv5⟩)⟩; (exact (hno HR.out).elim); obtain ⟨n0, m1, m2, m3⟩ := HC4.out b5)
        | (go_at_call 13; refine (rNew_of s0 _ HB.out.2.1).mono ?_; rintro e W6 ⟨b6, (⟨hno, _⟩ | ⟨_, r, rfl, dv6⟩)⟩; (exact (hno HR.out).elim)))
      have HT : Hid (Two W4 W6 p r s0 (emptyZ s0.z.toNat) (emptyZ s0.z.toNat) ∧ Wf s0 (emptyZ s0.z.toNat)) := ⟨two_new b5 b6 dv5 dv6, empty_wf HR.out⟩
      clear b5 b6 dv5 dv6 n0 m1 m2 m3 g0 g1 g2 g3
      go_wp2
      go_loopw [10] (fun x wr => ∃ i : Nat, x = .int .i64 i ∧ i ≤ n1 ∧ Two W4 wr p r s0 (goZ s0 (emptyZ s0.z.toNat) x1 i) (goZ s0 (emptyZ s0.z.toNat) x1 i)) (fun x wr => n1 - (intOf x).toNat)
      case atStart => exact ⟨0, rfl, Nat.zero_le _, HT.out.1⟩
      case round =>
        obtain ⟨i, rfl, hi, hT⟩ := hrel
        have hwf := HT.out.2.go x1 i
        rcases Nat.lt_or_ge i n1 with hlt | hge
        · obtain ⟨o, ho⟩ : ∃ o, x1[i]? = some o := ⟨x1[i]'(by have := HX.out.1.1; omega), by simp⟩
          obtain ⟨b, off, rfl, hc⟩ := HX.out.1.2.resolve_left (by omega)
          obtain ⟨vs, hop, hcell⟩ := hc i o ho
          obtain ⟨zs, hzs⟩ : ∃ zs, zs = goZ s0 (emptyZ s0.z.toNat) x1 i := ⟨_, rfl⟩
          obtain ⟨Z, hZ⟩ : ∃ Z, Z = doZ s0 zs o := ⟨_, rfl⟩
          have HZ : Hid (goZ s0 (emptyZ s0.z.toNat) x1 (i + 1) = Z) := by show _ = _; rw [goZ_next ho, ← hzs, ← hZ]
          rw [← hzs] at hT hwf
          have hop' := hop
          obtain ⟨A, L, C, B, M, E, rfl, _⟩ := hop
          have HK : Hid (∀ {V : World}, Below W4.heap.size W4 V → OpK s0 q b (off + i * 5) (.int .u8 o.k) (.int .i64 o.z) (.int .i64 o.n) (.slice A L C) (.slice B M E) V) := fun hV => OpK.below ⟨HC4.out (Below.refl _ _), hcell 0 (by decide), hcell 1 (by decide), hcell 2 (by decide), hcell 3 (by decide), hcell 4 (by decide)⟩ hV
          obtain ⟨⟨k0, k1, k2, k3⟩, l0, l1, l2, l3, l4⟩ := HK.out hT.bel
          have HD : Hid (∀ V, Below wr.heap.size wr V → Calls Try.prog 14 #[.pointer (some ⟨p, 0, none⟩), .pointer (some ⟨r, 0, none⟩), .agg (shL s0).toArray, .agg #[.int .u8 o.k, .int .i64 o.z, .int .i64 o.n, .slice A L C, .slice B M E]] V fun e w' => e = .returned (.bool true) ∧ Two W4 w' p r s0 Z Z) := by
            intro V hV; rw [hZ]; exact does_of (hT.under hV) hwf hop' (HX.out.2.2.1 o (List.mem_of_getElem? ho))
          have hlt' : (i : Int) < n1 := by omega
          have hwi : IntKind.i64.wrap ((i : Int) + 1) = (i : Int) + 1 := by have := HX.out.2.2.2.1; rw [IntKind.wrap_i64]; omega
          clear hT hcell hc hop' hwf ho hzs hZ
          go_upto_region 11 with fail
          go_region_held3 (fun V => V.cell? ⟨q, 0, none⟩ = some (.int .i64 s0.z) ∧ V.cell? ⟨q, 1, none⟩ = some (.int .i64 s0.zb) ∧ V.cell? ⟨q, 2, none⟩ = some (.int .i64 s0.b) ∧ V.cell? ⟨q, 3, none⟩ = some (.int .i64 s0.r) ∧ V.cell? ⟨b, off + i * 5, none⟩ = some (.int .u8 o.k) ∧ V.cell? ⟨b, off + i * 5 + 1, none⟩ = some (.int .i64 o.z) ∧ V.cell? ⟨b, off + i * 5 + 2, none⟩ = some (.int .i64 o.n) ∧ V.cell? ⟨b, off + i * 5 + 3, none⟩ = some (.slice A L C) ∧ V.cell? ⟨b, off + i * 5 + 4, none⟩ = some (.slice B M E))
            (first | exact ⟨k0, k1, k2, k3, l0, l1, l2, l3, l4⟩ | exact ⟨m0, m1, m2, m3, j0, j1, j2, j3, j4⟩)
            ((go_at_call 14; refine (HD.out _ (by exact ⟨rfl, rfl, rfl, Nat.le_refl _, fun _ _ => rfl⟩)).mono ?_; rintro e w2 ⟨rfl, O1, O2, T2⟩; obtain ⟨⟨m0, m1, m2, m3⟩, j0, j1, j2, j3, j4⟩ := HK.out T2.bel))
          have HT2 : Hid (Two W4 w2 p r s0 Z Z) := ⟨O1, O2, T2⟩
          clear T2 k0 k1 k2 k3 l0 l1 l2 l3 l4 m0 m1 m2 m3 j0 j1 j2 j3 j4
          go_wp2
          go_roundw
          case rel => exact ⟨i + 1, by simp, by omega, by rw [HZ.out]; exact HT2.out⟩
          case measure => simp [intOf]; omega
        · obtain ⟨zs, hzs⟩ : ∃ zs, zs = goZ s0 (emptyZ s0.z.toNat) x1 i := ⟨_, rfl⟩
          rw [← hzs] at hT hwf
          obtain ⟨O1, O2, T2⟩ := hT
          obtain rfl : i = n1 := by omega
          have HT2 : Hid (TwoO W4 O1 O2 wr p r s0 zs zs ∧ Wf s0 zs) := ⟨T2, hwf⟩
          clear hzs hwf T2
          go_upto_region 15 with (first
            | (go_at_call 26; refine (crash_of a2 n2 c2 x2 T5.d HT2.out.2 (HX.out.2.2.2.2.below T5.bel) (fun hM ad e hO => by have := ls_low HX.out.2.2.2.2 hM ad e; have := (T5.o1 _ hO).1; omega)).mono ?_; rintro e w6 ⟨⟨v6, rfl⟩, st6⟩; have T6 := T5.stepD st6; have z6 := z5.out st6.2 (fun x h1 h2 => by have := (HT2.out.1.o1 x h2).2; omega))
            | (go_at_call 18; refine (zones_of HT2.out.1.d HT2.out.2).mono ?_; rintro e w5 ⟨v5, rfl, z5, b5⟩; obtain ⟨za, zc, rfl⟩ := z5.slice; have T5 := HT2.out.1.under b5)
            | (go_at_call 18; refine (zones_of T6.d (HT2.out.2.crash x2)).mono ?_; rintro e w7 ⟨v7, rfl, z7, b7⟩; obtain ⟨ya, yc, rfl⟩ := z7.slice; have T7 := T6.under b7))
          obtain ⟨N, hN⟩ : ∃ N, N = zs.length := ⟨_, rfl⟩
          have hN' : (crashZ x2 zs).length = N := by rw [hN]; simp [crashZ]
          have HW7 : Hid (Below w.heap.size w w7) := HX.out.2.1.trans (T7.bel.mono HX.out.2.1.size)
          have HI : Hid (ZsIn w7 za N zs ∧ ZsIn w7 ya N (crashZ x2 zs) ∧ N ≤ 256) := by
            have h1 := (z6.zsin HT2.out.2.short).below b7
            have h2 := z7.zsin (HT2.out.2.crash x2).short
            rw [← hN] at h1
            rw [hN'] at h2
            exact ⟨h1, h2, by rw [hN]; exact HT2.out.2.nz⟩
          rw [hN', ← hN]
          clear z5 z6 z7 b5 b7 st6 T5 T6 T7 hN hN'
          go_wp2
          go_loopw [13] (fun x wr => ∃ i d : Nat, x = .int .i64 i ∧ i ≤ N ∧ wr = w7.drewN d) (fun x wr => N - (intOf x).toNat)
          case atStart => exact ⟨0, 0, rfl, Nat.zero_le _, rfl⟩
          case round =>
            obtain ⟨j, dj, rfl, hj, rfl⟩ := hrel
            rcases Nat.lt_or_ge j N with hjl | hjg
            · obtain ⟨z', hz'⟩ : ∃ z', (crashZ x2 zs)[j]? = some z' := ⟨(crashZ x2 zs)[j]'(by have := HI.out.2.1.1; omega), by simp⟩
              obtain ⟨z, hz, hdur⟩ := crash_dur HT2.out.2 x2 hz'
              obtain ⟨b1, o1, rfl, hc1⟩ := HI.out.2.1.2.2.resolve_left (by omega)
              obtain ⟨b2, o2, rfl, hc2⟩ := HI.out.1.2.2.resolve_left (by omega)
              obtain ⟨A1, L1, C1, c1', e1, s1⟩ := hc1 j z' hz'
              obtain ⟨A2, L2, C2, c2', e2, s2⟩ := hc2 j z hz
              obtain ⟨Q, hQ⟩ : ∃ Q, Q = z.2 := ⟨_, rfl⟩
              have hl1 := s1.1
              have hl2 := s2.1
              rw [hdur.2.2.1, hl1] at e1
              rw [← hQ] at e2
              have q1 : Q ≤ L1 := by have := hdur.1; omega
              have q2 : (L1 : Int) ≤ L2 := by have := hdur.2.1; omega
              have hjl' : (j : Int) < N := by omega
              have hd1 : decide ((L1 : Int) < Q) = false := by simp; omega
              have hd2 : decide ((L2 : Int) < (L1 : Int)) = false := by simp; omega
              have hd3 : decide (L2 < L1) = false := by simp; omega
              have hwj : IntKind.i64.wrap ((j : Int) + 1) = (j : Int) + 1 := by have := HI.out.2.2; rw [IntKind.wrap_i64]; omega
              have hwL : IntKind.i64.wrap ((L1 : Int) - 1) = (L1 : Int) - 1 := by have := s1.2.1; rw [IntKind.wrap_i64]; omega
              have HJ : Hid (BsIn w7 A1 L1 z'.1 ∧ BsIn w7 A2 L2 z.1 ∧ DurZ z' z ∧ Q = z.2) := ⟨s1, s2, hdur, hQ⟩
              clear hc1 hc2 s1 s2 hdur hz hz' hQ hl1 hl2
              go_upto_region 18 with fail
              go_region_held3 (fun V => V.cell? ⟨b1, o1 + j * 2, none⟩ = some (.slice A1 L1 C1) ∧ V.cell? ⟨b1, o1 + j * 2 + 1, none⟩ = some (.int .i64 L1) ∧ V.cell? ⟨b2, o2 + j * 2, none⟩ = some (.slice A2 L2 C2) ∧ V.cell? ⟨b2, o2 + j * 2 + 1, none⟩ = some (.int .i64 Q)) (exact ⟨c1', e1, c2', e2⟩) (fail)
              go_wp2
              go_loopw [14] (fun x wr => ∃ k d : Nat, x = .int .i64 k ∧ k ≤ L1 ∧ wr = w7.drewN d) (fun x wr => L1 - (intOf x).toNat)
              case atStart => exact ⟨0, dj + 1, rfl, Nat.zero_le _, rfl⟩
              case round =>
                obtain ⟨k, dk, rfl, hk, rfl⟩ := hrel
                rcases Nat.lt_or_ge k L1 with hkl | hkg
                · obtain ⟨D', hD'⟩ : ∃ D', z'.1[k]? = some D' := ⟨z'.1[k]'(by have := HJ.out.1.1; omega), by simp⟩
                  obtain ⟨D, hD, hdl, hdb⟩ := HJ.out.2.2.1.2.2.2 k D' hD'
                  obtain ⟨b3, o3, rfl, hc3⟩ := HJ.out.1.2.2.resolve_left (by omega)
                  obtain ⟨b4, o4, rfl, hc4⟩ := HJ.out.2.1.2.2.resolve_left (by omega)
                  obtain ⟨_, c3, A3, L3, C3, rfl, h3, h3'⟩ := hc3 k D' hD'
                  obtain ⟨_, c4, A4, L4, C4, rfl, h4, h4'⟩ := hc4 k D hD
                  obtain rfl : L4 = L3 := by rw [← h4.1, ← h3.1, hdl]
                  have HL : Hid (BIn w7 A3 L4 D' ∧ BIn w7 A4 L4 D ∧ (∀ n, D'.getD n 0 ≠ D.getD n 0 → Q ≤ k ∧ (L1 : Int) - 1 ≤ k ∧ ∀ i, n ≤ i → D'.getD i 0 = 0) ∧ L4 ≤ 100000) := by
                    refine ⟨h3, h4, fun n hn => ?_, h3'.2.2⟩
                    obtain ⟨g1, g2⟩ := hdb n hn
                    have := HJ.out.1.1
                    have := HJ.out.2.2.2
                    exact ⟨by omega, by omega, g2⟩
                  have hkl' : (k : Int) < L1 := by omega
                  have hkl2 : (k : Int) < L2 := by omega
                  have hwk : IntKind.i64.wrap ((k : Int) + 1) = (k : Int) + 1 := by have := HJ.out.1.2.1; rw [IntKind.wrap_i64]; omega
                  clear hc3 hc4 h3 h4 h3' h4' hdb hdl hD hD'
                  go_wp2
                  go_loopw [17] (fun x wr => ∃ n d : Nat, x = .int .i64 n ∧ n ≤ L4 ∧ wr = w7.drewN d) (fun x wr => L4 - (intOf x).toNat)
                  case atStart => exact ⟨0, dk, rfl, Nat.zero_le _, rfl⟩
                  case round =>
                    obtain ⟨n, dn, rfl, hn, rfl⟩ := hrel
                    rcases Nat.lt_or_ge n L4 with hnl | hng
                    · obtain ⟨b5, o5, rfl, hc5⟩ := HL.out.1.2.2.2.resolve_left (by omega)
                      obtain ⟨b6, o6, rfl, hc6⟩ := HL.out.2.1.2.2.2.resolve_left (by omega)
                      have c5 := hc5 n hnl
                      have c6 := hc6 n hnl
                      have hn1 : decide (n < L4) = true := by simp [hnl]
                      have hn2' : decide ((n : Int) < (L4 : Int)) = true := by simp; omega
                      have hn3 : (n : Int) < L4 := by omega
                      have hwn : IntKind.i64.wrap ((n : Int) + 1) = (n : Int) + 1 := by have := HL.out.2.2.2; rw [IntKind.wrap_i64]; omega
                      obtain ⟨x5, hx5⟩ : ∃ x5, x5 = D'.getD n 0 := ⟨_, rfl⟩
                      obtain ⟨x6, hx6⟩ : ∃ x6, x6 = D.getD n 0 := ⟨_, rfl⟩
                      rw [← hx5] at c5
                      rw [← hx6] at c6
                      clear hc5 hc6
                      by_cases he : x5 = x6
                      · subst he
                        clear hx5 hx6
                        go_upto_region 26 with fail
                        go_region_held3 (fun V => V.cell? ⟨b5, o5 + n, none⟩ = some (.int .u8 x5) ∧ V.cell? ⟨b6, o6 + n, none⟩ = some (.int .u8 x5)) (exact ⟨c5, c6⟩) (fail)
                        go_wp2
                        go_roundw
                        case rel => exact ⟨n + 1, dn + 1, by simp, by omega, rfl⟩
                        case measure => simp [intOf]; omega
                      · obtain ⟨q3, q4, hz0⟩ := HL.out.2.2.1 n (by rw [← hx5, ← hx6]; exact he)
                        have HZ0 : Hid (∀ i, n ≤ i → D'.getD i 0 = 0) := hz0
                        have hq3 : decide ((k : Int) < Q) = false := by simp; omega
                        have hq4 : decide ((k : Int) < (L1 : Int) - 1) = false := by simp; omega
                        have hx : (x5 == x6) = false := by simp [he]
                        clear hz0 hx5 hx6
                        go_upto_region 26 with fail
                        go_region_held3 (fun V => V.cell? ⟨b5, o5 + n, none⟩ = some (.int .u8 x5) ∧ V.cell? ⟨b6, o6 + n, none⟩ = some (.int .u8 x6)) (exact ⟨c5, c6⟩) (fail)
                        go_wp2
                        go_loopw [18] (fun x wr => ∃ i d : Nat, x = .int .i64 i ∧ n ≤ i ∧ i ≤ L4 ∧ wr = w7.drewN d) (fun x wr => L4 - (intOf x).toNat)
                        case atStart => exact ⟨n, _, rfl, Nat.le_refl _, by omega, rfl⟩
                        case round =>
                          obtain ⟨i2, d2, rfl, hni, hi2, rfl⟩ := hrel
                          rcases Nat.lt_or_ge i2 L4 with hil | hig
                          · obtain ⟨bb, oo, hbo, hcc⟩ := HL.out.1.2.2.2.resolve_left (by omega)
                            cases hbo
                            have ci := hcc i2 hil
                            rw [HZ0.out i2 hni] at ci
                            have hil' : (i2 : Int) < L4 := by omega
                            have hwi : IntKind.i64.wrap ((i2 : Int) + 1) = (i2 : Int) + 1 := by have := HL.out.2.2.2; rw [IntKind.wrap_i64]; omega
                            clear hcc
                            go_wp2
                            go_roundw
                            case rel => exact ⟨i2 + 1, d2, by simp, by omega, by omega, rfl⟩
                            case measure => simp [intOf]; omega
                          · have hig' : (L4 : Int) ≤ i2 := by omega
                            go_wp2
                            go_roundw
                            case rel => exact ⟨k + 1, d2, by simp, by omega, rfl⟩
                            case measure => simp [intOf]; omega
                    · obtain rfl : n = L4 := by omega
                      have HZ0 : Hid (∀ i, n ≤ i → D'.getD i 0 = 0) := by
                        intro i hi
                        have := HL.out.1.1
                        rw [List.getD, List.getElem?_eq_none (by omega)]; rfl
                      go_upto_region 26 with fail
                      go_quiet (fail)
                      go_wp2
                      go_loopw [18] (fun x wr => ∃ i d : Nat, x = .int .i64 i ∧ n ≤ i ∧ i ≤ n ∧ wr = w7.drewN d) (fun x wr => n - (intOf x).toNat)
                      case atStart => exact ⟨n, _, rfl, Nat.le_refl _, by omega, rfl⟩
                      case round =>
                        obtain ⟨i2, d2, rfl, hni, hi2, rfl⟩ := hrel
                        rcases Nat.lt_or_ge i2 n with hil | hig
                        · obtain ⟨bb, oo, hbo, hcc⟩ := HL.out.1.2.2.2.resolve_left (by omega)
                          cases hbo
                          have ci := hcc i2 hil
                          rw [HZ0.out i2 hni] at ci
                          have hil' : (i2 : Int) < n := by omega
                          have hwi : IntKind.i64.wrap ((i2 : Int) + 1) = (i2 : Int) + 1 := by have := HL.out.2.2.2; rw [IntKind.wrap_i64]; omega
                          clear hcc
                          go_wp2
                          go_roundw
                          case rel => exact ⟨i2 + 1, d2, by simp, by omega, by omega, rfl⟩
                          case measure => simp [intOf]; omega
                        · have hig' : (n : Int) ≤ i2 := by omega
                          go_wp2
                          go_roundw
                          case rel => exact ⟨k + 1, d2, by simp, by omega, rfl⟩
                          case measure => simp [intOf]; omega
                · have hkg' : (L1 : Int) ≤ k := by omega
                  go_wp2
                  go_roundw
                  case rel => exact ⟨j + 1, dk, by simp, by omega, rfl⟩
                  case measure => simp [intOf]; omega
            · have hjg' : (N : Int) ≤ j := by omega
              go_wp2
              go_ret
              exact ⟨rfl, HW7.out.trans ((below_drewN _ _).mono HW7.out.size)⟩
    · have HR : Hid (¬ RightS s0) := hr
      clear hr
      go_wp2_with (first
        | (go_at_call 12; refine (new_of s0 _ HB.out.2.1).mono ?_; rintro e W5 ⟨b5, (⟨_, rfl⟩ | ⟨hno, _⟩)⟩; rotate_left; (exact (HR.out hno).elim); obtain ⟨n0, m1, m2, m3⟩ := HC4.out b5)
        | (go_at_call 13; refine (rNew_of s0 _ HB.out.2.1).mono ?_; rintro e W6 ⟨b6, (⟨_, rfl⟩ | ⟨hno, _⟩)⟩; rotate_left; (exact (HR.out hno).elim); have b46 := b5.trans (b6.mono b5.size)))
      go_ret
      exact ⟨rfl, HX.out.2.1.trans (b46.mono HX.out.2.1.size)⟩
  · have HG : Hid (¬ (decide (SmallS s0) = true ∧ heavyB x1 = false ∧ n2 ≤ 20)) := hg
    clear hg
    by_cases hs : SmallS s0
    · have hsd : decide (SmallS s0) = true := by simp [hs]
      by_cases hv : heavyB x1 = true
      · have HS : Hid (decide (SmallS s0) = true ∧ heavyB x1 = true) := ⟨hsd, hv⟩
        clear hs hsd hv
        go_wp2_with (first
          | (go_at_call 9; refine (small_of s0 _).mono ?_; rintro e W2 ⟨rfl, b2⟩; rw [HS.out.1])
          | (go_at_call 10; refine (heavy_of a1 n1 c1 x1 _ (HB.out.2.2.1.below (HB.out.1.trans (b2.mono HB.out.1.size)))).mono ?_; rintro e W3 ⟨rfl, rfl⟩; rw [HS.out.2])
          | (go_at_call 11; refine (known_any _).mono ?_; rintro e W4 ⟨rfl, b4⟩; have b24 := b2.trans (b4.mono b2.size)))
        go_ret
        exact ⟨rfl, HB.out.1.trans (b24.mono HB.out.1.size)⟩
      · have hvf : heavyB x1 = false := by simpa using hv
        have HS : Hid (decide (SmallS s0) = true ∧ heavyB x1 = false) := ⟨hsd, hvf⟩
        have hn2 : (20 : Int) < n2 := by
          rcases Nat.lt_or_ge 20 n2 with h | h
          · omega
          · exact (HG.out ⟨hsd, hvf, h⟩).elim
        clear hs hsd hv hvf
        go_wp2_with (first
          | (go_at_call 9; refine (small_of s0 _).mono ?_; rintro e W2 ⟨rfl, b2⟩; rw [HS.out.1])
          | (go_at_call 10; refine (heavy_of a1 n1 c1 x1 _ (HB.out.2.2.1.below (HB.out.1.trans (b2.mono HB.out.1.size)))).mono ?_; rintro e W3 ⟨rfl, rfl⟩; rw [HS.out.2])
          | (go_at_call 11; refine (known_any _).mono ?_; rintro e W4 ⟨rfl, b4⟩; have b24 := b2.trans (b4.mono b2.size)))
        go_ret
        exact ⟨rfl, HB.out.1.trans (b24.mono HB.out.1.size)⟩
    · have HS : Hid (decide (SmallS s0) = false) := by show _ = _; simp [hs]
      clear hs
      go_wp2_with (first
        | (go_at_call 9; refine (small_of s0 _).mono ?_; rintro e W2 ⟨rfl, b2⟩; rw [HS.out])
        | (go_at_call 11; refine (known_any _).mono ?_; rintro e W4 ⟨rfl, b4⟩; have b24 := b2.trans (b4.mono b2.size)))
      go_ret
      exact ⟨rfl, HB.out.1.trans (b24.mono HB.out.1.size)⟩

set_option maxRecDepth 100000 in
theorem lifted (os : Os) (started : os.Started) (H : Type) (enc : TypeId × Value → H) :
    ReturnsInHanded {} Try.checked os 6 .any (Rows.zoneDurableSpec.pre6 enc Try.prog Try.f6 Rows.zoneDurableRow.domain false) (Rows.zoneDurableSpec.post enc Try.prog Try.f6 false true false false) := by
  refine returnsInHanded_of_change (C := Try.checked) own started (by kernel_rfl) Try.func6
    (ChangeSpec.witness6 (enc := enc) (C := Try.checked) false ⟨#[], #[.agg #[.int .i64 0, .int .i64 0, .int .i64 0, .int .i64 0], .slice none 0 0, .slice none 0 0], []⟩ 8 (by kernel_rfl) (by kernel_rfl) (by kernel_rfl) (by kernel_rfl)) ?_
  intro W base args ds gs before hval0 hW hcnd _
  have hval : ∀ (j : Nat) t v, Try.f6.params[j]? = some t → args[j]? = some v → Value.okWide Try.prog W .any base t v := hval0
  have hW' := hW
  obtain ⟨p, q, hA0, hV, rfl, hfz, hnd⟩ := hW
  have hA : DataW.TrodAll enc Try.prog W 0 (fun _ => true) true Try.f6.params.toList args.toList ds p := hA0
  rw [Try.params6] at hA hval
  obtain ⟨v0, vs0, d0, ds0, p0, q0, hargs, rfl, rfl, h0, r0⟩ := trodAll_cons hA
  obtain ⟨v1, vs1, d1, ds1, p1, q1, rfl, rfl, rfl, h1, r1⟩ := trodAll_cons r0
  obtain ⟨v2, vs2, d2, ds2, p2, q2, rfl, rfl, rfl, h2, r2⟩ := trodAll_cons r1
  obtain ⟨rfl, rfl, rfl⟩ := trodAll_nil r2
  obtain rfl : args = #[v0, v1, v2] := by cases args; simp_all
  obtain ⟨rfl, rfl⟩ := trodVars_none hV
  have k0 := h0
  have lt0 : ∀ x ∈ p0, x.block < W.heap.size := by obtain ⟨m, hm⟩ := k0; exact DataW.trod_lt m _ _ _ hm
  obtain ⟨s0, rfl, w0⟩ := open_shape (hval 0 23 v0 rfl rfl) h0
  obtain ⟨a1, n1, c1, rfl⟩ := okWide_slice Try.underlying24 (hval 1 24 v1 rfl rfl)
  have k1 := h1
  have lt1 : ∀ x ∈ p1, x.block < W.heap.size := by obtain ⟨m, hm⟩ := k1; exact DataW.trod_lt m _ _ _ hm
  obtain ⟨x1, w1⟩ := open_ops h1
  obtain ⟨a2, n2, c2, rfl⟩ := okWide_slice Try.underlying34 (hval 2 34 v2 rfl rfl)
  have k2 := h2
  have lt2 : ∀ x ∈ p2, x.block < W.heap.size := by obtain ⟨m, hm⟩ := k2; exact DataW.trod_lt m _ _ _ hm
  obtain ⟨x2, w2⟩ := open_losses h2
  clear hA0 hval0
  refine (walk s0 a1 n1 c1 x1 a2 n2 c2 x2 W w0 w1 w2).mono fun e W' ⟨he, bel⟩ => ?_
  subst he
  exact ⟨_, rfl, _, _, _, [], _, [], hW', trodAll_mk1 (shut_bool Try.underlying4 _), (trodAll_cons_mk (Below.trod laidOut (by kernel_rfl) (of_decide_eq_true (by kernel_rfl)) k0 bel lt0) (trodAll_cons_mk (Below.trod laidOut (by kernel_rfl) (of_decide_eq_true (by kernel_rfl)) k1 bel lt1) (trodAll_cons_mk (Below.trod laidOut (by kernel_rfl) (of_decide_eq_true (by kernel_rfl)) k2 bel lt2) trodAll_mk0))), rfl, bel.frame _, fun h => by cases h⟩

theorem over : Rows.zoneDurableRow.holds Try.pinned (OpenSpec.ofChange Rows.zoneDurableSpec) :=
  OpenClaim.holds_of_wide 6 Try.f6 rfl rfl rfl rfl rfl rfl rfl ⟨rfl, rfl, rfl, rfl, rfl⟩ rfl rfl rfl rfl rfl (by kernel_rfl) Try.func6 (by kernel_rfl)
    (of_decide_eq_true (by kernel_rfl)) (by unfold Func.isWrapper; first | (rw [if_pos (by decide +kernel)]; kernel_rfl) | (rw [if_neg (by decide +kernel)]; exact ⟨rfl, rfl⟩))
    (fun os started H enc _ => lifted os started H enc)

end Go.Proofs.Ytpmdjonclgjpfaa.zoneDurable
namespace Go.Proofs.Ytpmdjonclgjpfaa
/-- The statement. -/
theorem zoneDurable_holds : Rows.ZoneDurableSaid := zoneDurable.over
#print axioms zoneDurable_holds
end Go.Proofs.Ytpmdjonclgjpfaa
