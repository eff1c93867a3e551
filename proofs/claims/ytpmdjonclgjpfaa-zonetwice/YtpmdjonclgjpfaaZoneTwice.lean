/- A second crash loses nothing; Open of what a device holds is the device. -/
import Derived.Test.YtpmdjonclgjpfaaRows
import Derived.Test.YtpmdjonclgjpfaaZTwice
import Derived.Test.YtpmdjonclgjpfaaZIn
import Derived.Test.YtpmdjonclgjpfaaZZn
import Derived.Test.YtpmdjonclgjpfaaZRZn
import Derived.WalkKit
import Derived.ProofKit
import Derived.OpenShut
import Derived.ShutString
import Derived.ChangeOld
import Derived.Below
namespace Go.Proofs.Ytpmdjonclgjpfaa.zoneTwice
open Go.ChangeShapes Go.WideShapes Go.ChangeAt Go.RowKit
open Go.ChangeMaps (open_string shut_string)
set_option linter.unusedVariables false

theorem own : ownKnob Try.prog.godebug = none := by kernel_rfl
theorem laidOut : laidOutB Try.prog = true := by kernel_rfl

set_option maxHeartbeats 8000000 in
set_option maxRecDepth 20000 in
theorem walk (s0 : Sh) (a1 : Option Addr) (n1 c1 : Nat) (x1 : List Opn) (a2 : Option Addr) (n2 c2 : Nat) (x2 : List (Int × Int)) (a3 : Option Addr) (n3 c3 : Nat) (x3 : List (Int × Int)) (w : World) (w0 : ShF s0) (w1 : OpsIn w a1 n1 x1 ∧ OpsF x1) (w2 : LsIn w a2 n2 x2) (w3 : LsIn w a3 n3 x3) :
    Calls Try.prog 7 #[.agg (shL s0).toArray, .slice a1 n1 c1, .slice a2 n2 c2, .slice a3 n3 c3] w fun e w' => e = .returned (.bool true) ∧ Below w.heap.size w w' := by
  have hz : -9223372036854775808 ≤ s0.z := w0.1.1
  obtain ⟨q, hq⟩ : ∃ q, q = w.heap.size := ⟨_, rfl⟩
  have hb : Blk (w.alloc (.cells #[.int .i64 s0.z, .int .i64 s0.zb, .int .i64 s0.b, .int .i64 s0.r] 23)) q (shL s0) 23 := Blk.new' hq.symm rfl
  have hbel : Below w.heap.size w (w.alloc (.cells #[.int .i64 s0.z, .int .i64 s0.zb, .int .i64 s0.b, .int .i64 s0.r] 23)) := (Below.refl _ _).alloc (Nat.le_refl _) _
  simp only [shL]
  go_enter Try.func7, Try.ntmps7
  go_upto_region 1 with fail
  rw [← hq]
  generalize hW1 : World.alloc _ _ = W1 at *
  clear hW1 hq
  have cells : ∀ {V : World}, Below W1.heap.size W1 V → V.cell? ⟨q, 0, none⟩ = some (.int .i64 s0.z) ∧ V.cell? ⟨q, 1, none⟩ = some (.int .i64 s0.zb) ∧ V.cell? ⟨q, 2, none⟩ = some (.int .i64 s0.b) ∧ V.cell? ⟨q, 3, none⟩ = some (.int .i64 s0.r) := by
    intro V hV
    have h := (below_out Non hV).blk hb id
    exact ⟨h.cell 0, h.cell 1, h.cell 2, h.cell 3⟩
  obtain ⟨e0, e1, e2, e3⟩ := cells (Below.refl _ _)
  have HC : Hid (∀ {V : World}, Below W1.heap.size W1 V → V.cell? ⟨q, 0, none⟩ = some (.int .i64 s0.z) ∧ V.cell? ⟨q, 1, none⟩ = some (.int .i64 s0.zb) ∧ V.cell? ⟨q, 2, none⟩ = some (.int .i64 s0.b) ∧ V.cell? ⟨q, 3, none⟩ = some (.int .i64 s0.r)) := cells
  have HB : Hid (Below w.heap.size w W1 ∧ -9223372036854775808 ≤ s0.z ∧ OpsIn w a1 n1 x1 ∧ LsIn w a2 n2 x2 ∧ LsIn w a3 n3 x3) := ⟨hbel, hz, w1.1, w2, w3⟩
  clear cells hb hbel hz w0 w1 w2 w3
  by_cases hg : decide (SmallS s0) = true ∧ heavyB x1 = false ∧ n2 ≤ 20 ∧ n3 ≤ 20
  · have HG : Hid (decide (SmallS s0) = true ∧ heavyB x1 = false) := ⟨hg.1, hg.2.1⟩
    have hn2 : (n2 : Int) ≤ 20 := by have := hg.2.2.1; omega
    have hn3 : (n3 : Int) ≤ 20 := by have := hg.2.2.2; omega
    have hn2d : decide ((20 : Int) < (n2 : Int)) = false := by simp; omega
    have hn3d : decide ((20 : Int) < (n3 : Int)) = false := by simp; omega
    clear hg
    go_upto_region 4 with (first
      | (go_at_call 9; refine (small_of s0 _).mono ?_; rintro e W2 ⟨rfl, b2⟩; rw [HG.out.1])
      | (go_at_call 10; refine (heavy_of a1 n1 c1 x1 _ (HB.out.2.2.1.below (HB.out.1.trans (b2.mono HB.out.1.size)))).mono ?_; rintro e W3 ⟨rfl, rfl⟩; rw [HG.out.2])
      | (go_at_call 11; refine (known_any _).mono ?_; rintro e W4 ⟨rfl, b4⟩; have b24 := b2.trans (b4.mono b2.size)))
    obtain ⟨g0, g1, g2, g3⟩ := HC.out b24
    have HX : Hid (OpsIn W4 a1 n1 x1 ∧ Below w.heap.size w W4 ∧ (∀ o ∈ x1, o.f.length ≤ 200) ∧ n1 ≤ 60 ∧ LsIn W4 a2 n2 x2 ∧ LsIn W4 a3 n3 x3) := by
      have hno := heavy_no HG.out.2
      have hl := HB.out.2.2.1.1
      have hbb := HB.out.1.trans (b24.mono HB.out.1.size)
      exact ⟨HB.out.2.2.1.below hbb, hbb, fun o ho => (hno.2 o ho).1, by omega, HB.out.2.2.2.1.below hbb, HB.out.2.2.2.2.below hbb⟩
    have HC4 : Hid (∀ {V : World}, Below W4.heap.size W4 V → V.cell? ⟨q, 0, none⟩ = some (.int .i64 s0.z) ∧ V.cell? ⟨q, 1, none⟩ = some (.int .i64 s0.zb) ∧ V.cell? ⟨q, 2, none⟩ = some (.int .i64 s0.b) ∧ V.cell? ⟨q, 3, none⟩ = some (.int .i64 s0.r)) := fun h => HC.out (b24.trans (h.mono b24.size))
    clear e0 e1 e2 e3 b2 b4 b24 HC
    by_cases hr : RightS s0
    · have HR : Hid (RightS s0) := hr
      clear hr
      go_upto_region 8 with (first
        | (go_at_call 12; refine (new_of s0 _ HB.out.2.1).mono ?_; rintro e W5 ⟨b5, (⟨hno, _⟩ | ⟨_, p, rfl, dv5⟩)⟩; (exact (hno HR.out).elim); obtain ⟨n0, m1, m2, m3⟩ := HC4.out b5)
        | (go_at_call 13; refine (rNew_of s0 _ HB.out.2.1).mono ?_; rintro e W6 ⟨b6, (⟨hno, _⟩ | ⟨_, r, rfl, dv6⟩)⟩; (exact (hno HR.out).elim)))
      have HT : Hid (Two W4 W6 p r s0 (emptyZ s0.z.toNat) (emptyZ s0.z.toNat) ∧ Wf s0 (emptyZ s0.z.toNat)) := ⟨two_new b5 b6 dv5 dv6, empty_wf HR.out⟩
      clear b5 b6 dv5 dv6 n0 m1 m2 m3 g0 g1 g2 g3
      go_wp2
      go_loopw [12] (fun x wr => ∃ i : Nat, x = .int .i64 i ∧ i ≤ n1 ∧ Two W4 wr p r s0 (goZ s0 (emptyZ s0.z.toNat) x1 i) (goZ s0 (emptyZ s0.z.toNat) x1 i)) (fun x wr => n1 - (intOf x).toNat)
      case atStart => exact ⟨0, rfl, Nat.zero_le _, HT.out.1⟩
      case round =>
        obtain ⟨i, rfl, hi, hT⟩ := hrel
        have hwf := HT.out.2.go x1 i
        rcases Nat.lt_or_ge i n1 with hlt | hge
        · obtain ⟨o, ho⟩ : ∃ o, x1[i]? = some o := ⟨x1[i]'(by have := HX.out.1.1; omega), by simp⟩
          obtain ⟨b, off, rfl, hc⟩ := HX.out.1.2.resolve_left (by omega)
          obtain ⟨vs, hop, hcell⟩ := hc i o ho
          obtain ⟨zs, hzs⟩ : ∃ zs, zs = goZ s0 (emptyZ s0.z.toNat) x1 i := ⟨_, rfl⟩
          obtain ⟨Z, hZ⟩ : ∃ Z, Z = doZ s0 zs o := ⟨_, rfl⟩
          have HZ : Hid (goZ s0 (emptyZ s0.z.toNat) x1 (i + 1) = Z) := by show _ = _; rw [goZ_next ho, ← hzs, ← hZ]
          rw [← hzs] at hT hwf
          have hop' := hop
          obtain ⟨A, L, C, B, M, E, rfl, _⟩ := hop
          have HK : Hid (∀ {V : World}, Below W4.heap.size W4 V → OpK s0 q b (off + i * 5) (.int .u8 o.k) (.int .i64 o.z) (.int .i64 o.n) (.slice A L C) (.slice B M E) V) := fun hV => OpK.below ⟨HC4.out (Below.refl _ _), hcell 0 (by decide), hcell 1 (by decide), hcell 2 (by decide), hcell 3 (by decide), hcell 4 (by decide)⟩ hV
          obtain ⟨⟨k0, k1, k2, k3⟩, l0, l1, l2, l3, l4⟩ := HK.out hT.bel
          have HD : Hid (∀ V, Below wr.heap.size wr V → Calls Try.prog 14 #[.pointer (some ⟨p, 0, none⟩), .pointer (some ⟨r, 0, none⟩), .agg (shL s0).toArray, .agg #[.int .u8 o.k, .int .i64 o.z, .int .i64 o.n, .slice A L C, .slice B M E]] V fun e w' => e = .returned (.bool true) ∧ Two W4 w' p r s0 Z Z) := by
            intro V hV; rw [hZ]; exact does_of (hT.under hV) hwf hop' (HX.out.2.2.1 o (List.mem_of_getElem? ho))
          have hlt' : (i : Int) < n1 := by omega
          have hwi : IntKind.i64.wrap ((i : Int) + 1) = (i : Int) + 1 := by have := HX.out.2.2.2.1; rw [IntKind.wrap_i64]; omega
          clear hT hcell hc hop' hwf ho hzs hZ
          go_upto_region 11 with fail
          go_region_held3 (fun V => V.cell? ⟨q, 0, none⟩ = some (.int .i64 s0.z) ∧ V.cell? ⟨q, 1, none⟩ = some (.int .i64 s0.zb) ∧ V.cell? ⟨q, 2, none⟩ = some (.int .i64 s0.b) ∧ V.cell? ⟨q, 3, none⟩ = some (.int .i64 s0.r) ∧ V.cell? ⟨b, off + i * 5, none⟩ = some (.int .u8 o.k) ∧ V.cell? ⟨b, off + i * 5 + 1, none⟩ = some (.int .i64 o.z) ∧ V.cell? ⟨b, off + i * 5 + 2, none⟩ = some (.int .i64 o.n) ∧ V.cell? ⟨b, off + i * 5 + 3, none⟩ = some (.slice A L C) ∧ V.cell? ⟨b, off + i * 5 + 4, none⟩ = some (.slice B M E))
            (first | exact ⟨k0, k1, k2, k3, l0, l1, l2, l3, l4⟩ | exact ⟨m0, m1, m2, m3, j0, j1, j2, j3, j4⟩)
            ((go_at_call 14; refine (HD.out _ (by exact ⟨rfl, rfl, rfl, Nat.le_refl _, fun _ _ => rfl⟩)).mono ?_; rintro e w2 ⟨rfl, O1, O2, T2⟩; obtain ⟨⟨m0, m1, m2, m3⟩, j0, j1, j2, j3, j4⟩ := HK.out T2.bel))
          have HT2 : Hid (Two W4 w2 p r s0 Z Z) := ⟨O1, O2, T2⟩
          clear T2 k0 k1 k2 k3 l0 l1 l2 l3 l4 m0 m1 m2 m3 j0 j1 j2 j3 j4
          go_wp2
          go_roundw
          case rel => exact ⟨i + 1, by simp, by omega, by rw [HZ.out]; exact HT2.out⟩
          case measure => simp [intOf]; omega
        · obtain ⟨zs, hzs⟩ : ∃ zs, zs = goZ s0 (emptyZ s0.z.toNat) x1 i := ⟨_, rfl⟩
          rw [← hzs] at hT hwf
          obtain ⟨O1, O2, T2⟩ := hT
          obtain rfl : i = n1 := by omega
          have HT2 : Hid (TwoO W4 O1 O2 wr p r s0 zs zs ∧ Wf s0 zs) := ⟨T2, hwf⟩
          obtain ⟨k0, k1, k2, k3⟩ := HC4.out T2.bel
          have HD1 : Hid (∀ V, Below wr.heap.size wr V → Calls Try.prog 18 #[.pointer (some ⟨p, 0, none⟩)] V fun e w' => ∃ v, e = .returned v ∧ ZsAt (fun x => wr.heap.size ≤ x) w' v zs ∧ Below wr.heap.size wr w') := fun V hV => (zones_of (HT2.out.1.under hV).d HT2.out.2).mono (fun e w' h => by
            obtain ⟨v, h1, h2, h3⟩ := h
            exact ⟨v, h1, h2.mono (fun x hx _ => Nat.le_trans hV.size hx), hV.trans (h3.mono hV.size)⟩)
          clear hzs hwf T2
          go_upto_region 12 with fail
          go_region_held3 (fun V => V.cell? ⟨q, 0, none⟩ = some (.int .i64 s0.z) ∧ V.cell? ⟨q, 1, none⟩ = some (.int .i64 s0.zb) ∧ V.cell? ⟨q, 2, none⟩ = some (.int .i64 s0.b) ∧ V.cell? ⟨q, 3, none⟩ = some (.int .i64 s0.r))
            (first | exact ⟨k0, k1, k2, k3⟩ | exact ⟨j0, j1, j2, j3⟩ | exact ⟨m0, m1, m2, m3⟩)
            ((first
              | (go_at_call 18; refine (HD1.out _ (by exact ⟨rfl, rfl, rfl, Nat.le_refl _, fun _ _ => rfl⟩)).mono ?_; rintro e w5 ⟨v5, rfl, z5, b5⟩; obtain ⟨za, zc, rfl⟩ := z5.slice; have T5 := HT2.out.1.under b5; obtain ⟨m0, m1, m2, m3⟩ := HC4.out T5.bel)
              | (go_at_call 23; refine (open_of s0 _ _ _ zs _ HB.out.2.1 (z5.zsin HT2.out.2.short)).mono ?_; rintro e w6 ⟨b6, (⟨hno, _⟩ | ⟨_, p2, rfl, dv6⟩)⟩; (exact (hno HT2.out.2).elim); have T6 := T5.under b6; obtain ⟨j0, j1, j2, j3⟩ := HC4.out T6.bel)))
          all_goals
            have H6 : Hid (TwoO W4 O1 O2 w6 p r s0 zs zs ∧ Dv 69 (fun x => w5.heap.size ≤ x ∧ x < w6.heap.size) w6 p2 s0 zs ∧ (∀ x, O1 x → x < w5.heap.size) ∧ (∀ x, O2 x → x < w5.heap.size) ∧ w5.heap.size ≤ w6.heap.size ∧ W4.heap.size ≤ w5.heap.size) :=
              ⟨T6, dv_mono dv6 (fun x h hx => ⟨h, hx⟩), fun x hx => (T5.o1 x hx).2, fun x hx => (T5.o2 x hx).2, b6.size, T5.bel.size⟩
            clear k0 k1 k2 k3 j0 j1 j2 j3 m0 m1 m2 m3 z5 b5 b6 T5 T6 dv6 HD1
            go_upto_region 16 with (go_at_call 26; refine (crash_of a2 n2 c2 x2 H6.out.1.d HT2.out.2 (HX.out.2.2.2.2.1.below H6.out.1.bel) (fun hM ad e hO => by have := ls_low HX.out.2.2.2.2.1 hM ad e; have := (H6.out.1.o1 _ hO).1; omega)).mono ?_; rintro e w7 ⟨⟨v7, rfl⟩, st7⟩; have T7 := H6.out.1.stepD st7; have D7 := dv_out H6.out.2.1 st7.2 (fun x h3 h1 => by have := H6.out.2.2.1 x h1; have := h3.1; omega))
            go_upto_region 17 with (go_at_call 26; refine (crash_of a2 n2 c2 x2 D7 HT2.out.2 (HX.out.2.2.2.2.1.below T7.bel) (fun hM ad e hO => by have := ls_low HX.out.2.2.2.2.1 hM ad e; have := H6.out.2.2.2.2.2; have := hO.1; omega)).mono ?_; rintro e w8 ⟨⟨v8, rfl⟩, st8⟩; have T8 := T7.other st8.2 (fun x h1 h3 => by rcases h1.1 with h | h; (have := H6.out.2.2.1 x h; have := h3.1; omega); (have := h3.2; omega)) (fun x h2 h3 => by have := H6.out.2.2.2.1 x h2; have := h3.1; omega) (fun x h3 => by have := h3.1; have := H6.out.2.2.2.2.2; omega); have D8 := dv_mono st8.1 (O' := fun x => ((w5.heap.size ≤ x ∧ x < w6.heap.size) ∨ w7.heap.size ≤ x) ∧ x < w8.heap.size) (fun x h hx => ⟨by rcases h with h | h; (exact .inl h); (exact .inr h.1), hx⟩))
            go_upto_region 18 with (go_at_call 18; refine (zones_of T8.d (HT2.out.2.crash x2)).mono ?_; rintro e w9 ⟨v9, rfl, z9, b9⟩; obtain ⟨ya, yc, rfl⟩ := z9.slice; have T9 := T8.under b9; have D9 := dv_under D8 b9)
            go_upto_region 19 with (go_at_call 26; refine (crash_of a3 n3 c3 x3 T9.d (HT2.out.2.crash x2) (HX.out.2.2.2.2.2.below T9.bel) (fun hM ad e hO => by have := ls_low HX.out.2.2.2.2.2 hM ad e; have := (T9.o1 _ hO).1; omega)).mono ?_; rintro e w10 ⟨⟨v10, rfl⟩, st10⟩; rw [crash_twice] at st10; have T10 := T9.stepD st10; have D10 := dv_out D9 st10.2 (fun x hp h1 => by rcases hp.1 with h | h; (rcases h1.1 with k | k; (have := H6.out.2.2.1 x k; have := h.1; omega); (have := h.2; omega)); (have := h1.2; omega)); have z10 := z9.out st10.2 (fun x h9 h1 => by have := h1.2; have := st8.2.size; omega))
            go_wp2_with (first
              | (go_at_call 17; refine (sameZones_of ta _ tc ya _ yc (crashZ x2 zs) _ (z13.zsin (HT2.out.2.crash x2).short) i13).mono ?_; rintro e w14 ⟨rfl, k4, rfl⟩; have T14 := T13.under (below_drewN _ k4))
              | (go_at_call 18; refine (zones_of D12 (HT2.out.2.crash x2)).mono ?_; rintro e w13 ⟨v13, rfl, z13, b13⟩; obtain ⟨ta, tc, rfl⟩ := z13.slice; have i13 := i12.below b13; have T13 := T12.under b13)
              | (go_at_call 17; refine (sameZones_of xa _ xc ya _ yc (crashZ x2 zs) _ (z11.zsin (HT2.out.2.crash x2).short) i10).mono ?_; rintro e w12 ⟨rfl, kk, rfl⟩; have D12 := dv_under D11 (below_drewN _ kk); have i12 := i10.below (below_drewN _ kk); have T12 := T11.under (below_drewN _ kk))
              | (go_at_call 18; refine (zones_of T10.d (HT2.out.2.crash x2)).mono ?_; rintro e w11 ⟨v11, rfl, z11, b11⟩; obtain ⟨xa, xc, rfl⟩ := z11.slice; have D11 := dv_under D10 b11; have i10 := (z10.zsin (HT2.out.2.crash x2).short).below b11; have T11 := T10.under b11))
            go_ret
            exact ⟨rfl, HX.out.2.1.trans (T14.bel.mono HX.out.2.1.size)⟩
    · have HR : Hid (¬ RightS s0) := hr
      clear hr
      go_wp2_with (first
        | (go_at_call 12; refine (new_of s0 _ HB.out.2.1).mono ?_; rintro e W5 ⟨b5, (⟨_, rfl⟩ | ⟨hno, _⟩)⟩; rotate_left; (exact (HR.out hno).elim); obtain ⟨n0, m1, m2, m3⟩ := HC4.out b5)
        | (go_at_call 13; refine (rNew_of s0 _ HB.out.2.1).mono ?_; rintro e W6 ⟨b6, (⟨_, rfl⟩ | ⟨hno, _⟩)⟩; rotate_left; (exact (HR.out hno).elim); have b46 := b5.trans (b6.mono b5.size)))
      go_ret
      exact ⟨rfl, HX.out.2.1.trans (b46.mono HX.out.2.1.size)⟩
  · have HG : Hid (¬ (decide (SmallS s0) = true ∧ heavyB x1 = false ∧ n2 ≤ 20 ∧ n3 ≤ 20)) := hg
    clear hg
    by_cases hs : SmallS s0
    · have hsd : decide (SmallS s0) = true := by simp [hs]
      by_cases hv : heavyB x1 = true
      · have HS : Hid (decide (SmallS s0) = true ∧ heavyB x1 = true) := ⟨hsd, hv⟩
        clear hs hsd hv
        go_wp2_with (first
          | (go_at_call 9; refine (small_of s0 _).mono ?_; rintro e W2 ⟨rfl, b2⟩; rw [HS.out.1])
          | (go_at_call 10; refine (heavy_of a1 n1 c1 x1 _ (HB.out.2.2.1.below (HB.out.1.trans (b2.mono HB.out.1.size)))).mono ?_; rintro e W3 ⟨rfl, rfl⟩; rw [HS.out.2])
          | (go_at_call 11; refine (known_any _).mono ?_; rintro e W4 ⟨rfl, b4⟩; have b24 := b2.trans (b4.mono b2.size)))
        go_ret
        exact ⟨rfl, HB.out.1.trans (b24.mono HB.out.1.size)⟩
      · have hvf : heavyB x1 = false := by simpa using hv
        have HS : Hid (decide (SmallS s0) = true ∧ heavyB x1 = false) := ⟨hsd, hvf⟩
        by_cases h2 : 20 < n2
        · have hn2 : (20 : Int) < n2 := by omega
          have hn2d : decide ((20 : Int) < (n2 : Int)) = true := by simp; omega
          clear hs hsd hv hvf h2
          go_wp2_with (first
          | (go_at_call 9; refine (small_of s0 _).mono ?_; rintro e W2 ⟨rfl, b2⟩; rw [HS.out.1])
          | (go_at_call 10; refine (heavy_of a1 n1 c1 x1 _ (HB.out.2.2.1.below (HB.out.1.trans (b2.mono HB.out.1.size)))).mono ?_; rintro e W3 ⟨rfl, rfl⟩; rw [HS.out.2])
          | (go_at_call 11; refine (known_any _).mono ?_; rintro e W4 ⟨rfl, b4⟩; have b24 := b2.trans (b4.mono b2.size)))
          go_ret
          exact ⟨rfl, HB.out.1.trans (b24.mono HB.out.1.size)⟩
        · have hn2 : (n2 : Int) ≤ 20 := by omega
          have hn2d : decide ((20 : Int) < (n2 : Int)) = false := by simp; omega
          have hn3' : 20 < n3 := by
            rcases Nat.lt_or_ge 20 n3 with h | h
            · exact h
            · exact (HG.out ⟨hsd, hvf, by omega, h⟩).elim
          have hn3 : (20 : Int) < n3 := by omega
          have hn3d : decide ((20 : Int) < (n3 : Int)) = true := by simp; omega
          clear hs hsd hv hvf h2 hn3'
          go_wp2_with (first
          | (go_at_call 9; refine (small_of s0 _).mono ?_; rintro e W2 ⟨rfl, b2⟩; rw [HS.out.1])
          | (go_at_call 10; refine (heavy_of a1 n1 c1 x1 _ (HB.out.2.2.1.below (HB.out.1.trans (b2.mono HB.out.1.size)))).mono ?_; rintro e W3 ⟨rfl, rfl⟩; rw [HS.out.2])
          | (go_at_call 11; refine (known_any _).mono ?_; rintro e W4 ⟨rfl, b4⟩; have b24 := b2.trans (b4.mono b2.size)))
          go_ret
          exact ⟨rfl, HB.out.1.trans (b24.mono HB.out.1.size)⟩
    · have HS : Hid (decide (SmallS s0) = false) := by show _ = _; simp [hs]
      clear hs
      go_wp2_with (first
        | (go_at_call 9; refine (small_of s0 _).mono ?_; rintro e W2 ⟨rfl, b2⟩; rw [HS.out])
        | (go_at_call 11; refine (known_any _).mono ?_; rintro e W4 ⟨rfl, b4⟩; have b24 := b2.trans (b4.mono b2.size)))
      go_ret
      exact ⟨rfl, HB.out.1.trans (b24.mono HB.out.1.size)⟩

set_option maxRecDepth 100000 in
theorem lifted (os : Os) (started : os.Started) (H : Type) (enc : TypeId × Value → H) :
    ReturnsInHanded {} Try.checked os 7 .any (Rows.zoneTwiceSpec.pre6 enc Try.prog Try.f7 Rows.zoneTwiceRow.domain false) (Rows.zoneTwiceSpec.post enc Try.prog Try.f7 false true false false) := by
  refine returnsInHanded_of_change (C := Try.checked) own started (by kernel_rfl) Try.func7
    (ChangeSpec.witness6 (enc := enc) (C := Try.checked) false ⟨#[], #[.agg #[.int .i64 0, .int .i64 0, .int .i64 0, .int .i64 0], .slice none 0 0, .slice none 0 0, .slice none 0 0], []⟩ 8 (by kernel_rfl) (by kernel_rfl) (by kernel_rfl) (by kernel_rfl)) ?_
  intro W base args ds gs before hval0 hW hcnd _
  have hval : ∀ (j : Nat) t v, Try.f7.params[j]? = some t → args[j]? = some v → Value.okWide Try.prog W .any base t v := hval0
  have hW' := hW
  obtain ⟨p, q, hA0, hV, rfl, hfz, hnd⟩ := hW
  have hA : DataW.TrodAll enc Try.prog W 0 (fun _ => true) true Try.f7.params.toList args.toList ds p := hA0
  rw [Try.params7] at hA hval
  obtain ⟨v0, vs0, d0, ds0, p0, q0, hargs, rfl, rfl, h0, r0⟩ := trodAll_cons hA
  obtain ⟨v1, vs1, d1, ds1, p1, q1, rfl, rfl, rfl, h1, r1⟩ := trodAll_cons r0
  obtain ⟨v2, vs2, d2, ds2, p2, q2, rfl, rfl, rfl, h2, r2⟩ := trodAll_cons r1
  obtain ⟨v3, vs3, d3, ds3, p3, q3, rfl, rfl, rfl, h3, r3⟩ := trodAll_cons r2
  obtain ⟨rfl, rfl, rfl⟩ := trodAll_nil r3
  obtain rfl : args = #[v0, v1, v2, v3] := by cases args; simp_all
  obtain ⟨rfl, rfl⟩ := trodVars_none hV
  have k0 := h0
  have lt0 : ∀ x ∈ p0, x.block < W.heap.size := by obtain ⟨m, hm⟩ := k0; exact DataW.trod_lt m _ _ _ hm
  obtain ⟨s0, rfl, w0⟩ := open_shape (hval 0 23 v0 rfl rfl) h0
  obtain ⟨a1, n1, c1, rfl⟩ := okWide_slice Try.underlying24 (hval 1 24 v1 rfl rfl)
  have k1 := h1
  have lt1 : ∀ x ∈ p1, x.block < W.heap.size := by obtain ⟨m, hm⟩ := k1; exact DataW.trod_lt m _ _ _ hm
  obtain ⟨x1, w1⟩ := open_ops h1
  obtain ⟨a2, n2, c2, rfl⟩ := okWide_slice Try.underlying34 (hval 2 34 v2 rfl rfl)
  have k2 := h2
  have lt2 : ∀ x ∈ p2, x.block < W.heap.size := by obtain ⟨m, hm⟩ := k2; exact DataW.trod_lt m _ _ _ hm
  obtain ⟨x2, w2⟩ := open_losses h2
  obtain ⟨a3, n3, c3, rfl⟩ := okWide_slice Try.underlying34 (hval 3 34 v3 rfl rfl)
  have k3 := h3
  have lt3 : ∀ x ∈ p3, x.block < W.heap.size := by obtain ⟨m, hm⟩ := k3; exact DataW.trod_lt m _ _ _ hm
  obtain ⟨x3, w3⟩ := open_losses h3
  clear hA0 hval0
  refine (walk s0 a1 n1 c1 x1 a2 n2 c2 x2 a3 n3 c3 x3 W w0 w1 w2 w3).mono fun e W' ⟨he, bel⟩ => ?_
  subst he
  exact ⟨_, rfl, _, _, _, [], _, [], hW', trodAll_mk1 (shut_bool Try.underlying4 _), (trodAll_cons_mk (Below.trod laidOut (by kernel_rfl) (of_decide_eq_true (by kernel_rfl)) k0 bel lt0) (trodAll_cons_mk (Below.trod laidOut (by kernel_rfl) (of_decide_eq_true (by kernel_rfl)) k1 bel lt1) (trodAll_cons_mk (Below.trod laidOut (by kernel_rfl) (of_decide_eq_true (by kernel_rfl)) k2 bel lt2) (trodAll_cons_mk (Below.trod laidOut (by kernel_rfl) (of_decide_eq_true (by kernel_rfl)) k3 bel lt3) trodAll_mk0)))), rfl, bel.frame _, fun h => by cases h⟩

theorem over : Rows.zoneTwiceRow.holds Try.pinned (OpenSpec.ofChange Rows.zoneTwiceSpec) :=
  OpenClaim.holds_of_wide 7 Try.f7 rfl rfl rfl rfl rfl rfl rfl ⟨rfl, rfl, rfl, rfl, rfl⟩ rfl rfl rfl rfl rfl (by kernel_rfl) Try.func7 (by kernel_rfl)
    (of_decide_eq_true (by kernel_rfl)) (by unfold Func.isWrapper; first | (rw [if_pos (by decide +kernel)]; kernel_rfl) | (rw [if_neg (by decide +kernel)]; exact ⟨rfl, rfl⟩))
    (fun os started H enc _ => lifted os started H enc)

end Go.Proofs.Ytpmdjonclgjpfaa.zoneTwice
namespace Go.Proofs.Ytpmdjonclgjpfaa
/-- The statement. -/
theorem zoneTwice_holds : Rows.ZoneTwiceSaid := zoneTwice.over
#print axioms zoneTwice_holds
end Go.Proofs.Ytpmdjonclgjpfaa
