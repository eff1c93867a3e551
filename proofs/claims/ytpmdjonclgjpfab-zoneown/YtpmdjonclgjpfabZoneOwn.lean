/- What is told is new memory. -/
import Derived.Test.YtpmdjonclgjpfabRows
import Derived.Test.YtpmdjonclgjpfabZDoesM
import Derived.Test.YtpmdjonclgjpfabZIn
import Derived.Test.YtpmdjonclgjpfabZZn
import Derived.Test.YtpmdjonclgjpfabZRZn
import Derived.WalkKit
import Derived.ProofKit
import Derived.OpenShut
import Derived.ShutString
import Derived.ChangeOld
import Derived.Below
namespace Go.Proofs.Ytpmdjonclgjpfab.zoneOwn
open Go.ChangeShapes Go.WideShapes Go.ChangeAt Go.RowKit
open Go.ChangeMaps (open_string shut_string)
set_option linter.unusedVariables false

theorem own : ownKnob Try.prog.godebug = none := by kernel_rfl
theorem laidOut : laidOutB Try.prog = true := by kernel_rfl

theorem rdB_in {zs : List Zn} {j : Nat} {zz : Zn} {k : Nat} {D : List Int} (hz : zs[j]? = some zz) (hD : zz.1[k]? = some D) : rdB zs j k = D := by
  have hj := (List.getElem?_eq_some_iff.1 hz).1
  have hk := (List.getElem?_eq_some_iff.1 hD).1
  unfold rdB
  rw [if_pos (by unfold zoneIn; omega), if_pos (by unfold blockIn; rw [atZ_in hz]; omega), atZ_in hz]
  simp [List.getD, hD]
set_option maxHeartbeats 8000000 in
set_option maxRecDepth 20000 in
theorem walk (s0 : Sh) (a1 : Option Addr) (n1 c1 : Nat) (x1 : List Opn) (w : World) (w0 : ShF s0) (w1 : OpsIn w a1 n1 x1 ∧ OpsF x1) :
    Calls Try.prog 3 #[.agg (shL s0).toArray, .slice a1 n1 c1] w fun e w' => e = .returned (.bool true) ∧ Below w.heap.size w w' := by
  have hz : -9223372036854775808 ≤ s0.z := w0.1.1
  obtain ⟨q, hq⟩ : ∃ q, q = w.heap.size := ⟨_, rfl⟩
  have hb : Blk (w.alloc (.cells #[.int .i64 s0.z, .int .i64 s0.zb, .int .i64 s0.b, .int .i64 s0.r] 23)) q (shL s0) 23 := Blk.new' hq.symm rfl
  have hbel : Below w.heap.size w (w.alloc (.cells #[.int .i64 s0.z, .int .i64 s0.zb, .int .i64 s0.b, .int .i64 s0.r] 23)) := (Below.refl _ _).alloc (Nat.le_refl _) _
  simp only [shL]
  go_enter Try.func3, Try.ntmps3
  go_upto_region 1 with fail
  rw [← hq]
  generalize hW1 : World.alloc _ _ = W1 at *
  clear hW1 hq
  have cells : ∀ {V : World}, Below W1.heap.size W1 V → V.cell? ⟨q, 0, none⟩ = some (.int .i64 s0.z) ∧ V.cell? ⟨q, 1, none⟩ = some (.int .i64 s0.zb) ∧ V.cell? ⟨q, 2, none⟩ = some (.int .i64 s0.b) ∧ V.cell? ⟨q, 3, none⟩ = some (.int .i64 s0.r) := by
    intro V hV
    have h := (below_out Non hV).blk hb id
    exact ⟨h.cell 0, h.cell 1, h.cell 2, h.cell 3⟩
  obtain ⟨e0, e1, e2, e3⟩ := cells (Below.refl _ _)
  have HC : Hid (∀ {V : World}, Below W1.heap.size W1 V → V.cell? ⟨q, 0, none⟩ = some (.int .i64 s0.z) ∧ V.cell? ⟨q, 1, none⟩ = some (.int .i64 s0.zb) ∧ V.cell? ⟨q, 2, none⟩ = some (.int .i64 s0.b) ∧ V.cell? ⟨q, 3, none⟩ = some (.int .i64 s0.r)) := cells
  have HB : Hid (Below w.heap.size w W1 ∧ -9223372036854775808 ≤ s0.z ∧ OpsIn w a1 n1 x1) := ⟨hbel, hz, w1.1⟩
  clear cells hb hbel hz w0 w1
  by_cases hs : SmallS s0
  · have hsd : decide (SmallS s0) = true := by simp [hs]
    have HS : Hid (decide (SmallS s0) = true) := hsd
    clear hs hsd
    by_cases hv : heavyB x1 = true
    · have HV : Hid (heavyB x1 = true) := hv
      clear hv
      go_wp2_with (first
        | (go_at_call 4; refine (small_of s0 _).mono ?_; rintro e W2 ⟨rfl, b2⟩; rw [HS.out])
        | (go_at_call 5; refine (heavy_of a1 n1 c1 x1 _ (HB.out.2.2.below (HB.out.1.trans (b2.mono HB.out.1.size)))).mono ?_; rintro e W3 ⟨rfl, rfl⟩; rw [HV.out])
        | (go_at_call 6; refine (known_any _).mono ?_; rintro e W4 ⟨rfl, b4⟩; have b24 := b2.trans (b4.mono b2.size)))
      go_ret
      exact ⟨rfl, HB.out.1.trans (b24.mono HB.out.1.size)⟩
    · have hvf : heavyB x1 = false := by simpa using hv
      have HV : Hid (heavyB x1 = false) := hvf
      clear hv hvf
      go_upto_region 4 with (first
        | (go_at_call 4; refine (small_of s0 _).mono ?_; rintro e W2 ⟨rfl, b2⟩; rw [HS.out])
        | (go_at_call 5; refine (heavy_of a1 n1 c1 x1 _ (HB.out.2.2.below (HB.out.1.trans (b2.mono HB.out.1.size)))).mono ?_; rintro e W3 ⟨rfl, rfl⟩; rw [HV.out])
        | (go_at_call 6; refine (known_any _).mono ?_; rintro e W4 ⟨rfl, b4⟩; have b24 := b2.trans (b4.mono b2.size)))
      obtain ⟨g0, g1, g2, g3⟩ := HC.out b24
      have HX : Hid (OpsIn W4 a1 n1 x1 ∧ Below w.heap.size w W4 ∧ (∀ o ∈ x1, o.f.length ≤ 200) ∧ n1 ≤ 60) := by
        have hno := heavy_no HV.out
        have hl := HB.out.2.2.1
        exact ⟨HB.out.2.2.below (HB.out.1.trans (b24.mono HB.out.1.size)), HB.out.1.trans (b24.mono HB.out.1.size), fun o ho => (hno.2 o ho).1, by omega⟩
      have HC4 : Hid (∀ {V : World}, Below W4.heap.size W4 V → V.cell? ⟨q, 0, none⟩ = some (.int .i64 s0.z) ∧ V.cell? ⟨q, 1, none⟩ = some (.int .i64 s0.zb) ∧ V.cell? ⟨q, 2, none⟩ = some (.int .i64 s0.b) ∧ V.cell? ⟨q, 3, none⟩ = some (.int .i64 s0.r)) := fun h => HC.out (b24.trans (h.mono b24.size))
      clear e0 e1 e2 e3 b2 b4 b24 HC
      by_cases hr : RightS s0
      · have HR : Hid (RightS s0) := hr
        clear hr
        go_upto_region 8 with (first
          | (go_at_call 7; refine (new_of s0 _ HB.out.2.1).mono ?_; rintro e W5 ⟨b5, (⟨hno, _⟩ | ⟨_, p, rfl, dv5⟩)⟩; (exact (hno HR.out).elim); obtain ⟨n0, m1, m2, m3⟩ := HC4.out b5)
          | (go_at_call 8; refine (rNew_of s0 _ HB.out.2.1).mono ?_; rintro e W6 ⟨b6, (⟨hno, _⟩ | ⟨_, r, rfl, dv6⟩)⟩; (exact (hno HR.out).elim)))
        have HT : Hid (Two W4 W6 p r s0 (emptyZ s0.z.toNat) (emptyZ s0.z.toNat) ∧ Wf s0 (emptyZ s0.z.toNat)) := ⟨two_new b5 b6 dv5 dv6, empty_wf HR.out⟩
        clear b5 b6 dv5 dv6 n0 m1 m2 m3 g0 g1 g2 g3
        go_wp2
        go_loopw [8] (fun x wr => ∃ i : Nat, x = .int .i64 i ∧ i ≤ n1 ∧ Two W4 wr p r s0 (goZ s0 (emptyZ s0.z.toNat) x1 i) (goZ s0 (emptyZ s0.z.toNat) x1 i)) (fun x wr => n1 - (intOf x).toNat)
        case atStart => exact ⟨0, rfl, Nat.zero_le _, HT.out.1⟩
        case round =>
          obtain ⟨i, rfl, hi, hT⟩ := hrel
          have hwf := HT.out.2.go x1 i
          rcases Nat.lt_or_ge i n1 with hlt | hge
          · obtain ⟨o, ho⟩ : ∃ o, x1[i]? = some o := ⟨x1[i]'(by have := HX.out.1.1; omega), by simp⟩
            obtain ⟨b, off, rfl, hc⟩ := HX.out.1.2.resolve_left (by omega)
            obtain ⟨vs, hop, hcell⟩ := hc i o ho
            obtain ⟨zs, hzs⟩ : ∃ zs, zs = goZ s0 (emptyZ s0.z.toNat) x1 i := ⟨_, rfl⟩
            obtain ⟨Z, hZ⟩ : ∃ Z, Z = doZ s0 zs o := ⟨_, rfl⟩
            have HZ : Hid (goZ s0 (emptyZ s0.z.toNat) x1 (i + 1) = Z) := by show _ = _; rw [goZ_next ho, ← hzs, ← hZ]
            rw [← hzs] at hT hwf
            have hop' := hop
            obtain ⟨A, L, C, B, M, E, rfl, _⟩ := hop
            have HK : Hid (∀ {V : World}, Below W4.heap.size W4 V → OpK s0 q b (off + i * 5) (.int .u8 o.k) (.int .i64 o.z) (.int .i64 o.n) (.slice A L C) (.slice B M E) V) := fun hV => OpK.below ⟨HC4.out (Below.refl _ _), hcell 0 (by decide), hcell 1 (by decide), hcell 2 (by decide), hcell 3 (by decide), hcell 4 (by decide)⟩ hV
            obtain ⟨⟨k0, k1, k2, k3⟩, l0, l1, l2, l3, l4⟩ := HK.out hT.bel
            have HD : Hid (∀ V, Below wr.heap.size wr V → Calls Try.prog 9 #[.pointer (some ⟨p, 0, none⟩), .pointer (some ⟨r, 0, none⟩), .agg (shL s0).toArray, .agg #[.int .u8 o.k, .int .i64 o.z, .int .i64 o.n, .slice A L C, .slice B M E]] V fun e w' => e = .returned (.bool true) ∧ Two W4 w' p r s0 Z Z) := by
              intro V hV; rw [hZ]; exact does_of (hT.under hV) hwf hop' (HX.out.2.2.1 o (List.mem_of_getElem? ho))
            have hlt' : (i : Int) < n1 := by omega
            have hwi : IntKind.i64.wrap ((i : Int) + 1) = (i : Int) + 1 := by have := HX.out.2.2.2; rw [IntKind.wrap_i64]; omega
            clear hT hcell hc hop' hwf ho hzs hZ
            go_upto_region 11 with fail
            go_region_held3 (fun V => V.cell? ⟨q, 0, none⟩ = some (.int .i64 s0.z) ∧ V.cell? ⟨q, 1, none⟩ = some (.int .i64 s0.zb) ∧ V.cell? ⟨q, 2, none⟩ = some (.int .i64 s0.b) ∧ V.cell? ⟨q, 3, none⟩ = some (.int .i64 s0.r) ∧ V.cell? ⟨b, off + i * 5, none⟩ = some (.int .u8 o.k) ∧ V.cell? ⟨b, off + i * 5 + 1, none⟩ = some (.int .i64 o.z) ∧ V.cell? ⟨b, off + i * 5 + 2, none⟩ = some (.int .i64 o.n) ∧ V.cell? ⟨b, off + i * 5 + 3, none⟩ = some (.slice A L C) ∧ V.cell? ⟨b, off + i * 5 + 4, none⟩ = some (.slice B M E))
              (first | exact ⟨k0, k1, k2, k3, l0, l1, l2, l3, l4⟩ | exact ⟨m0, m1, m2, m3, j0, j1, j2, j3, j4⟩)
              ((go_at_call 9; refine (HD.out _ (by exact ⟨rfl, rfl, rfl, Nat.le_refl _, fun _ _ => rfl⟩)).mono ?_; rintro e w2 ⟨rfl, O1, O2, T2⟩; obtain ⟨⟨m0, m1, m2, m3⟩, j0, j1, j2, j3, j4⟩ := HK.out T2.bel))
            have HT2 : Hid (Two W4 w2 p r s0 Z Z) := ⟨O1, O2, T2⟩
            clear T2 k0 k1 k2 k3 l0 l1 l2 l3 l4 m0 m1 m2 m3 j0 j1 j2 j3 j4
            go_wp2
            go_roundw
            case rel => exact ⟨i + 1, by simp, by omega, by rw [HZ.out]; exact HT2.out⟩
            case measure => simp [intOf]; omega
          · obtain ⟨zs, hzs⟩ : ∃ zs, zs = goZ s0 (emptyZ s0.z.toNat) x1 i := ⟨_, rfl⟩
            rw [← hzs] at hT hwf
            obtain rfl : i = n1 := by omega
            have HW : Hid (Two W4 wr p r s0 zs zs ∧ Wf s0 zs) := ⟨hT, hwf⟩
            clear hzs hwf hT
            go_wp2
            go_loopw [9] (fun x wr => ∃ j : Nat, x = .int .i64 j ∧ (j : Int) ≤ s0.z ∧ Two W4 wr p r s0 zs zs) (fun x wr => s0.z.toNat - (intOf x).toNat)
            case atStart => exact ⟨0, rfl, by have := HW.out.2.len; omega, HW.out.1⟩
            case round =>
              obtain ⟨j, rfl, hj, hT⟩ := hrel
              obtain ⟨k0, k1, k2, k3⟩ := HC4.out hT.bel
              by_cases hjl : (j : Int) < s0.z
              · have hwj : IntKind.i64.wrap ((j : Int) + 1) = (j : Int) + 1 := by have := HW.out.2.len; have := HW.out.2.nz; rw [IntKind.wrap_i64]; omega
                obtain ⟨O1, O2, T1⟩ := hT
                have HT1 : Hid (TwoO W4 O1 O2 wr p r s0 zs zs) := T1
                obtain ⟨zz, hzz⟩ : ∃ zz, zs[j]? = some zz := ⟨zs[j]'(by have := HW.out.2.len; omega), by simp⟩
                have HZ : Hid (zs[j]? = some zz) := hzz
                have hM : (atZ zs j).1.length ≤ 100000 := by rw [atZ_in hzz]; have := (HW.out.2.zone zz (List.mem_of_getElem? hzz)).1; have := HW.out.2.right; unfold RightS at this; omega
                clear T1 hzz k1 k2 k3
                go_upto_region 16 with (go_at_call 10; refine (at_of j HT1.out.d).mono ?_; rintro e w3 ⟨rfl, b3⟩; have T3 := HT1.out.under b3)
                have HT3 : Hid (Two W4 w3 p r s0 zs zs) := ⟨O1, O2, T3⟩
                obtain ⟨M, hMe⟩ : ∃ M, M = (atZ zs j).1.length := ⟨_, rfl⟩
                rw [← hMe] at hM ⊢
                have HM : Hid (M = (atZ zs j).1.length) := hMe
                clear T3 b3 hMe k0
                go_wp2
                go_loopw [12] (fun x wr => ∃ k : Nat, x = .int .i64 k ∧ k ≤ M ∧ Two W4 wr p r s0 zs zs) (fun x wr => M - (intOf x).toNat)
                case atStart => exact ⟨0, rfl, Nat.zero_le _, HT3.out⟩
                case round =>
                  obtain ⟨k, rfl, hk, hT⟩ := hrel
                  rcases Nat.lt_or_ge k M with hkl | hkg
                  · have hkl' : (k : Int) < M := by omega
                    have hwk : IntKind.i64.wrap ((k : Int) + 1) = (k : Int) + 1 := by rw [IntKind.wrap_i64]; omega
                    obtain ⟨O3, O4, T4⟩ := hT
                    have HT4 : Hid (TwoO W4 O3 O4 wr p r s0 zs zs) := T4
                    have HP : Hid (0 < (rdB zs j k).length) := by
                      have hz := HZ.out
                      have hm := HM.out
                      rw [atZ_in hz] at hm
                      have hD : zz.1[k]? = some (zz.1[k]'(by omega)) := by simp
                      have := (HW.out.2.zone zz (List.mem_of_getElem? hz)).2.2.2 _ (List.mem_of_getElem? hD)
                      have := power_bounds HW.out.2.right.2.2.2.2.1
                      show 0 < (rdB zs j k).length
                      rw [rdB_in hz hD]
                      omega
                    clear T4
                    go_upto_region 20 with (go_at_call 11; refine (read_of j k HT4.out.d HW.out.2).mono ?_; rintro e w5 ⟨h5, rfl, bk5, b5⟩)
                    obtain ⟨ra, rc, e5⟩ := own_slice bk5.1
                    subst e5
                    obtain ⟨g, y, eg, cg, fg⟩ := own8_of bk5 0 HP.out
                    have hg : wr.heap.size ≤ g := bk5.2.1 g (by rw [eg]; rfl)
                    have HN : Hid (∀ v, Two W4 (w5.setCell ⟨g, 0, none⟩ (.int .u8 v)) p r s0 zs zs) := fun v => ⟨O3, O4, HT4.out.under (b5.setCell (p := ⟨g, 0, none⟩) hg _)⟩
                    obtain ⟨m, hm⟩ : ∃ m, (rdB zs j k).length = m + 1 := ⟨(rdB zs j k).length - 1, by have := HP.out; omega⟩
                    rw [hm]
                    have hm0 : (0 : Int) < (m : Int) + 1 := by omega
                    clear bk5 b5 hg hm
                    subst eg
                    go_wp2
                    go_roundw
                    case rel => exact ⟨k + 1, by simp, by omega, HN.out _⟩
                    case measure => simp [intOf]; omega
                  · have hkg' : (M : Int) ≤ k := by omega
                    have HT4 : Hid (Two W4 wr p r s0 zs zs) := hT
                    clear hT
                    go_wp2
                    go_roundw
                    case rel => exact ⟨j + 1, by simp, by omega, HT4.out⟩
                    case measure => simp [intOf]; omega
              · have hjg : s0.z ≤ (j : Int) := by omega
                obtain ⟨O1, O2, T1⟩ := hT
                have HT4 : Hid (TwoO W4 O1 O2 wr p r s0 zs zs) := T1
                clear T1
                go_wp2_with (first
                  | (go_at_call 13; refine (zones_of HT4.out.d HW.out.2).mono ?_; rintro e w5 ⟨v5, rfl, z5, b5⟩; obtain ⟨za, zc, rfl⟩ := z5.slice; have T5 := HT4.out.under b5)
                  | (go_at_call 14; refine (rZones_of T5.r HW.out.2.short).mono ?_; rintro e w6 ⟨v6, rfl, z6, b6⟩; obtain ⟨ya, yc, rfl⟩ := z6.slice; have T6 := T5.under b6)
                  | (go_at_call 12; refine (sameZones_of za _ zc ya _ yc zs _ ((z5.zsin HW.out.2.short).below b6) (z6.zsin HW.out.2.short)).mono ?_; rintro e w7 ⟨rfl, kk, rfl⟩; have T7 := T6.under (below_drewN _ kk)))
                go_ret
                exact ⟨rfl, HX.out.2.1.trans (T7.bel.mono HX.out.2.1.size)⟩
      · have HR : Hid (¬ RightS s0) := hr
        clear hr
        go_wp2_with (first
          | (go_at_call 7; refine (new_of s0 _ HB.out.2.1).mono ?_; rintro e W5 ⟨b5, (⟨_, rfl⟩ | ⟨hno, _⟩)⟩; rotate_left; (exact (HR.out hno).elim); obtain ⟨n0, m1, m2, m3⟩ := HC4.out b5)
          | (go_at_call 8; refine (rNew_of s0 _ HB.out.2.1).mono ?_; rintro e W6 ⟨b6, (⟨_, rfl⟩ | ⟨hno, _⟩)⟩; rotate_left; (exact (HR.out hno).elim); have b46 := b5.trans (b6.mono b5.size)))
        go_ret
        exact ⟨rfl, HX.out.2.1.trans (b46.mono HX.out.2.1.size)⟩
  · have hsd : decide (SmallS s0) = false := by simp [hs]
    have HS : Hid (decide (SmallS s0) = false) := hsd
    clear hs hsd
    go_wp2_with (first
      | (go_at_call 4; refine (small_of s0 _).mono ?_; rintro e W2 ⟨rfl, b2⟩; rw [HS.out])
      | (go_at_call 6; refine (known_any _).mono ?_; rintro e W4 ⟨rfl, b4⟩; have b24 := b2.trans (b4.mono b2.size)))
    go_ret
    exact ⟨rfl, HB.out.1.trans (b24.mono HB.out.1.size)⟩

set_option maxRecDepth 100000 in
theorem lifted (os : Os) (started : os.Started) (H : Type) (enc : TypeId × Value → H) :
    ReturnsInHanded {} Try.checked os 3 .any (Rows.zoneOwnSpec.pre6 enc Try.prog Try.f3 Rows.zoneOwnRow.domain false) (Rows.zoneOwnSpec.post enc Try.prog Try.f3 false true false false) := by
  refine returnsInHanded_of_change (C := Try.checked) own started (by kernel_rfl) Try.func3
    (ChangeSpec.witness6 (enc := enc) (C := Try.checked) false ⟨#[], #[.agg #[.int .i64 0, .int .i64 0, .int .i64 0, .int .i64 0], .slice none 0 0], []⟩ 8 (by kernel_rfl) (by kernel_rfl) (by kernel_rfl) (by kernel_rfl)) ?_
  intro W base args ds gs before hval0 hW hcnd _
  have hval : ∀ (j : Nat) t v, Try.f3.params[j]? = some t → args[j]? = some v → Value.okWide Try.prog W .any base t v := hval0
  have hW' := hW
  obtain ⟨p, q, hA0, hV, rfl, hfz, hnd⟩ := hW
  have hA : DataW.TrodAll enc Try.prog W 0 (fun _ => true) true Try.f3.params.toList args.toList ds p := hA0
  rw [Try.params3] at hA hval
  obtain ⟨v0, vs0, d0, ds0, p0, q0, hargs, rfl, rfl, h0, r0⟩ := trodAll_cons hA
  obtain ⟨v1, vs1, d1, ds1, p1, q1, rfl, rfl, rfl, h1, r1⟩ := trodAll_cons r0
  obtain ⟨rfl, rfl, rfl⟩ := trodAll_nil r1
  obtain rfl : args = #[v0, v1] := by cases args; simp_all
  obtain ⟨rfl, rfl⟩ := trodVars_none hV
  have k0 := h0
  have lt0 : ∀ x ∈ p0, x.block < W.heap.size := by obtain ⟨m, hm⟩ := k0; exact DataW.trod_lt m _ _ _ hm
  obtain ⟨s0, rfl, w0⟩ := open_shape (hval 0 23 v0 rfl rfl) h0
  obtain ⟨a1, n1, c1, rfl⟩ := okWide_slice Try.underlying24 (hval 1 24 v1 rfl rfl)
  have k1 := h1
  have lt1 : ∀ x ∈ p1, x.block < W.heap.size := by obtain ⟨m, hm⟩ := k1; exact DataW.trod_lt m _ _ _ hm
  obtain ⟨x1, w1⟩ := open_ops h1
  clear hA0 hval0
  refine (walk s0 a1 n1 c1 x1 W w0 w1).mono fun e W' ⟨he, bel⟩ => ?_
  subst he
  exact ⟨_, rfl, _, _, _, [], _, [], hW', trodAll_mk1 (shut_bool Try.underlying4 _), (trodAll_cons_mk (Below.trod laidOut (by kernel_rfl) (of_decide_eq_true (by kernel_rfl)) k0 bel lt0) (trodAll_cons_mk (Below.trod laidOut (by kernel_rfl) (of_decide_eq_true (by kernel_rfl)) k1 bel lt1) trodAll_mk0)), rfl, bel.frame _, fun h => by cases h⟩

theorem over : Rows.zoneOwnRow.holds Try.pinned (OpenSpec.ofChange Rows.zoneOwnSpec) :=
  OpenClaim.holds_of_wide 3 Try.f3 rfl rfl rfl rfl rfl rfl rfl ⟨rfl, rfl, rfl, rfl, rfl⟩ rfl rfl rfl rfl rfl (by kernel_rfl) Try.func3 (by kernel_rfl)
    (of_decide_eq_true (by kernel_rfl)) (by unfold Func.isWrapper; first | (rw [if_pos (by decide +kernel)]; kernel_rfl) | (rw [if_neg (by decide +kernel)]; exact ⟨rfl, rfl⟩))
    (fun os started H enc _ => lifted os started H enc)

end Go.Proofs.Ytpmdjonclgjpfab.zoneOwn
namespace Go.Proofs.Ytpmdjonclgjpfab
/-- The statement. -/
theorem zoneOwn_holds : Rows.ZoneOwnSaid := zoneOwn.over
#print axioms zoneOwn_holds
end Go.Proofs.Ytpmdjonclgjpfab
