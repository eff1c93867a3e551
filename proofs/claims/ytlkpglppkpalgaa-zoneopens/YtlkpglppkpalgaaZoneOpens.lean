/- ZoneOpens holds: Open of zones of a small shape, few blocks, short ones, is what the document's own function says; they are not kept. -/
import Derived.Test.YtlkpglppkpalgaaRows
import Derived.Test.YtlkpglppkpalgaaZOver
import Derived.WalkKit
import Derived.ProofKit
import Derived.OpenShut
import Derived.ShutString
import Derived.ChangeOld
import Derived.Below
namespace Go.Proofs.Ytlkpglppkpalgaa.zoneOpens
open Go.ChangeShapes Go.WideShapes Go.ChangeAt Go.RowKit
open Go.ChangeMaps (open_string shut_string)
set_option linter.unusedVariables false

theorem own : ownKnob Try.prog.godebug = none := by kernel_rfl
theorem laidOut : laidOutB Try.prog = true := by kernel_rfl

set_option maxHeartbeats 4000000 in
set_option maxRecDepth 20000 in
theorem walk (s0 : Sh) (a1 : Option Addr) (n1 c1 : Nat) (x1 : List Zn) (w : World) (w0 : ShF s0) (w1 : ZsRaw w a1 n1 x1 ∧ ZnF x1) :
    Calls Try.prog 5 #[.agg (shL s0).toArray, .slice a1 n1 c1] w fun e w' => e = .returned (.bool true) ∧ Below w.heap.size w w' := by
  have hz : -9223372036854775808 ≤ s0.z := w0.1.1
  obtain ⟨q, hq⟩ : ∃ q, q = w.heap.size := ⟨_, rfl⟩
  have hb : Blk (w.alloc (.cells #[.int .i64 s0.z, .int .i64 s0.zb, .int .i64 s0.b, .int .i64 s0.r] 23)) q (shL s0) 23 := Blk.new' hq.symm rfl
  have hbel : Below w.heap.size w (w.alloc (.cells #[.int .i64 s0.z, .int .i64 s0.zb, .int .i64 s0.b, .int .i64 s0.r] 23)) := (Below.refl _ _).alloc (Nat.le_refl _) _
  simp only [shL]
  go_enter Try.func5, Try.ntmps5
  go_upto_region 1 with fail
  rw [← hq]
  generalize hW1 : World.alloc _ _ = W1 at *
  clear hW1 hq
  have cells : ∀ {V : World}, Below W1.heap.size W1 V → V.cell? ⟨q, 0, none⟩ = some (.int .i64 s0.z) ∧ V.cell? ⟨q, 1, none⟩ = some (.int .i64 s0.zb) ∧ V.cell? ⟨q, 2, none⟩ = some (.int .i64 s0.b) ∧ V.cell? ⟨q, 3, none⟩ = some (.int .i64 s0.r) := by
    intro V hV
    have h := (below_out Non hV).blk hb id
    exact ⟨h.cell 0, h.cell 1, h.cell 2, h.cell 3⟩
  obtain ⟨e0, e1, e2, e3⟩ := cells (Below.refl _ _)
  have HC : Hid (∀ {V : World}, Below W1.heap.size W1 V → V.cell? ⟨q, 0, none⟩ = some (.int .i64 s0.z) ∧ V.cell? ⟨q, 1, none⟩ = some (.int .i64 s0.zb) ∧ V.cell? ⟨q, 2, none⟩ = some (.int .i64 s0.b) ∧ V.cell? ⟨q, 3, none⟩ = some (.int .i64 s0.r)) := cells
  have HB : Hid (Below w.heap.size w W1 ∧ -9223372036854775808 ≤ s0.z ∧ ZsRaw w a1 n1 x1) := ⟨hbel, hz, w1.1⟩
  clear cells hb hbel hz w0 w1
  by_cases hs : SmallS s0
  rotate_left
  · have hsd : decide (SmallS s0) = false := by simp [hs]
    have HS : Hid (decide (SmallS s0) = false) := hsd
    clear hs hsd
    go_wp2_with (first
      | (go_at_call 9; refine (small_of s0 _).mono ?_; rintro e W2 ⟨rfl, b2⟩; rw [HS.out])
      | (go_at_call 11; refine (known_any _).mono ?_; rintro e W4 ⟨rfl, b4⟩; have b24 := b2.trans (b4.mono b2.size)))
    go_ret
    exact ⟨rfl, HB.out.1.trans (b24.mono HB.out.1.size)⟩
  have hsd : decide (SmallS s0) = true := by simp [hs]
  have HS : Hid (decide (SmallS s0) = true) := hsd
  clear hs hsd
  go_upto_region 2 with (go_at_call 9; refine (small_of s0 _).mono ?_; rintro e W2 ⟨rfl, b2⟩; rw [HS.out])
  have H2 : Hid (Below w.heap.size w W2 ∧ Below W1.heap.size W1 W2) := ⟨HB.out.1.trans (b2.mono HB.out.1.size), b2⟩
  clear b2 e0 e1 e2 e3
  go_wp2_with fail
  refine (tooHeavy_of a1 n1 c1 x1 W2 (HB.out.2.2.below H2.out.1)).mono ?_
  rintro e W3 ⟨y, rfl, hw3, hy⟩
  replace hw3 := hw3.symm
  subst hw3
  cases y with
  | true =>
    clear hy
    go_wp2_with (go_at_call 11; refine (known_any _).mono ?_; rintro e W4 ⟨rfl, b4⟩)
    go_ret
    exact ⟨rfl, H2.out.1.trans (b4.mono H2.out.1.size)⟩
  | false =>
    have HL : Hid (LightZ x1) := hy rfl
    clear hy
    go_upto_region 4 with (go_at_call 11; refine (known_any _).mono ?_; rintro e W4 ⟨rfl, b4⟩)
    obtain ⟨g0, g1, g2, g3⟩ := HC.out (H2.out.2.trans (b4.mono H2.out.2.size))
    have hb4 := H2.out.1.trans (b4.mono H2.out.1.size)
    have H4 : Hid (Below w.heap.size w W4 ∧ ZsIn W4 a1 n1 x1 ∧ Below W1.heap.size W1 W4) := ⟨hb4, (HB.out.2.2.below hb4).light HL.out, H2.out.2.trans (b4.mono H2.out.2.size)⟩
    clear b4 hb4
    go_wp2_with fail
    have hro := rOpen_of s0 a1 n1 c1 x1 W4 HB.out.2.1 H4.out.2.1
    simp only [shL] at hro
    refine hro.mono ?_
    clear hro
    rintro e W5 ⟨b5, h5⟩
    obtain ⟨k0, k1, k2, k3⟩ := HC.out (H4.out.2.2.trans (b5.mono H4.out.2.2.size))
    have H5 : Hid (Below w.heap.size w W5 ∧ ZsIn W5 a1 n1 x1) := ⟨H4.out.1.trans (b5.mono H4.out.1.size), H4.out.2.1.below b5⟩
    clear b5 g0 g1 g2 g3
    rcases h5 with ⟨hno, rfl⟩ | ⟨hwf, r, rfl, dr⟩
    · have HN : Hid (¬ Wf s0 x1) := hno
      clear hno
      go_wp2_with fail
      have ho := open_of s0 a1 n1 c1 x1 W5 HB.out.2.1 H5.out.2
      simp only [shL] at ho
      refine ho.mono ?_
      clear ho
      rintro e W6 ⟨b6, (⟨_, rfl⟩ | ⟨hwf, _⟩)⟩
      rotate_left
      · exact (HN.out hwf).elim
      clear k0 k1 k2 k3
      go_wp2
      go_ret
      exact ⟨rfl, H5.out.1.trans (b6.mono H5.out.1.size)⟩
    · have HF : Hid (Wf s0 x1) := hwf
      have HDr : Hid (Dv 71 (fun x => W4.heap.size ≤ x) W5 r s0 x1) := dr
      clear hwf dr
      go_wp2_with fail
      have ho := open_of s0 a1 n1 c1 x1 W5 HB.out.2.1 H5.out.2
      simp only [shL] at ho
      refine ho.mono ?_
      clear ho
      rintro e W6 ⟨b6, (⟨hno, _⟩ | ⟨_, p, rfl, dp⟩)⟩
      · exact (hno HF.out).elim
      have H6 : Hid (Below w.heap.size w W6 ∧ ZsIn W6 a1 n1 x1 ∧ Dv 69 (fun x => W5.heap.size ≤ x) W6 p s0 x1 ∧ Dv 71 (fun x => W4.heap.size ≤ x) W6 r s0 x1) := ⟨H5.out.1.trans (b6.mono H5.out.1.size), H5.out.2.below b6, dp, HDr.out.beneath b6⟩
      clear k0 k1 k2 k3 b6 dp
      go_wp2_with fail
      refine (zones_of H6.out.2.2.1 HF.out).mono ?_
      rintro e W7 ⟨v7, rfl, z7, b7⟩
      obtain ⟨za, zc, hv7⟩ := z7.slice
      have hl1 : x1.length = n1 := H6.out.2.1.1
      rw [hl1] at hv7
      subst hv7
      have hpos : ∀ z ∈ x1, ∀ D ∈ z.1, 0 < D.length := fun z hz D hD => by
        have := (HF.out.zone z hz).2.2.2 D hD
        have := power_bounds HF.out.right.2.2.2.2.1
        omega
      have H7 : Hid (Below W6.heap.size W6 W7 ∧ HZs W6.heap.size W7 (.slice za n1 zc) x1 ∧ ZsIn W7 za n1 x1) := ⟨b7, z7.over hpos, z7.zsin HF.out.short⟩
      have HP : Hid (x1.length = n1 ∧ n1 ≤ 256 ∧ ∀ z ∈ x1, z.1.length ≤ 4096) := ⟨hl1, by have := HF.out.nz; omega, fun z hz => by have := (HF.out.zone z hz).1; have := HF.out.right.2.2.2.1; omega⟩
      clear z7 b7 hl1 hpos
      go_wp2_with fail
      refine (rZones_of (H6.out.2.2.2.beneath H7.out.1) HF.out.short).mono ?_
      rintro e W8 ⟨v8, rfl, z8, b8⟩
      obtain ⟨ya, yc, hv8⟩ := z8.slice
      rw [HP.out.1] at hv8
      subst hv8
      have H8 : Hid (Below W7.heap.size W7 W8 ∧ ZsIn W8 ya n1 x1 ∧ ZsIn W8 za n1 x1 ∧ Below w.heap.size w W8 ∧ ZsIn W8 a1 n1 x1) := by
        have h1 := H6.out.1.trans (H7.out.1.mono H6.out.1.size)
        exact ⟨b8, z8.zsin HF.out.short, H7.out.2.2.below b8, h1.trans (b8.mono h1.size), (H6.out.2.1.below H7.out.1).below b8⟩
      clear z8 b8
      go_wp2_with fail
      refine (sameZones_of za n1 zc ya n1 yc x1 W8 H8.out.2.2.1 H8.out.2.1).mono ?_
      rintro e W9 ⟨rfl, k9, hw9⟩
      have b9 : Below W8.heap.size W8 W9 := by rw [hw9]; exact below_drewN _ _
      clear hw9
      have H9 : Hid (Below W8.heap.size W8 W9) := b9
      clear b9
      go_wp2_with fail
      refine (sameZones_of za n1 zc a1 n1 c1 x1 W9 (H8.out.2.2.1.below H9.out) (H8.out.2.2.2.2.below H9.out)).mono ?_
      rintro e W10 ⟨rfl, k10, hw10⟩
      have b10 : Below W9.heap.size W9 W10 := by rw [hw10]; exact below_drewN _ _
      clear hw10
      have HT : Hid (HZs W6.heap.size W10 (.slice za n1 zc) x1 ∧ Below W6.heap.size W6 W10) := by
        have h2 := H8.out.1.trans (H9.out.mono H8.out.1.size)
        have h3 := h2.trans (b10.mono h2.size)
        exact ⟨H7.out.2.1.under h3, H7.out.1.trans (h3.mono H7.out.1.size)⟩
      clear b10
      go_wp2
      go_loopw [10] (fun x wr => ∃ i : Nat, x = .int .i64 i ∧ i ≤ n1 ∧ HZs W6.heap.size wr (.slice za n1 zc) x1 ∧ Below W6.heap.size W6 wr) (fun x wr => n1 - (intOf x).toNat)
      case atStart => exact ⟨0, rfl, Nat.zero_le _, HT.out⟩
      case round =>
        obtain ⟨i, rfl, hi, hh, hbw⟩ := hrel
        have hn256 := HP.out.2.1
        rcases Nat.lt_or_ge i n1 with hlt | hge
        · have hi' : (i : Int) < n1 := by omega
          have hwi : IntKind.i64.wrap ((i : Int) + 1) = (i : Int) + 1 := by rw [IntKind.wrap_i64]; omega
          obtain ⟨z, hzz⟩ : ∃ z, x1[i]? = some z := ⟨x1[i]'(by have := HP.out.1; omega), by simp⟩
          have HI : Hid (HZs W6.heap.size wr (.slice za n1 zc) x1 ∧ Below W6.heap.size W6 wr ∧ x1[i]? = some z) := ⟨hh, hbw, hzz⟩
          obtain ⟨L, hL⟩ : ∃ L, L = z.1.length := ⟨_, rfl⟩
          have hLb : L ≤ 4096 := by rw [hL]; exact HP.out.2.2 z (List.mem_of_getElem? hzz)
          have HLe : Hid (L = z.1.length) := hL
          clear hh hbw hzz hL
          go_wp2
          go_loopw [11] (fun x wr => ∃ k : Nat, x = .int .i64 k ∧ k ≤ L ∧ HZs W6.heap.size wr (.slice za n1 zc) x1 ∧ Below W6.heap.size W6 wr) (fun x wr => L - (intOf x).toNat)
          case atStart => exact ⟨0, rfl, Nat.zero_le _, HI.out.1, HI.out.2.1⟩
          case round =>
            obtain ⟨k, rfl, hk, hh, hbw⟩ := hrel
            obtain ⟨g, A, C, eg, cz, hrow⟩ := hh.at HI.out.2.2
            subst eg
            rw [← HLe.out] at cz
            rcases Nat.lt_or_ge k L with hkl | hkg
            · have hkl' : (k : Int) < L := by omega
              have hwk : IntKind.i64.wrap ((k : Int) + 1) = (k : Int) + 1 := by rw [IntKind.wrap_i64]; omega
              obtain ⟨D, hD⟩ : ∃ D, z.1[k]? = some D := ⟨z.1[k]'(by have := HLe.out; omega), by simp⟩
              obtain ⟨rr, gb, cb, LL, y, eA, cr, hB, hblk, hLL, cy, fy⟩ := hrow k D hD
              subst eA
              have hpos : 0 < D.length := by
                have := (HF.out.zone z (List.mem_of_getElem? HI.out.2.2)).2.2.2 D (List.mem_of_getElem? hD)
                have := power_bounds HF.out.right.2.2.2.2.1
                omega
              obtain ⟨m, hm⟩ : ∃ m, D.length = m + 1 := ⟨D.length - 1, by omega⟩
              rw [hm] at cr
              have hm0 : (0 : Int) < (m : Int) + 1 := by omega
              have HN : Hid (∀ v, HZs W6.heap.size (wr.setCell ⟨gb, 0, none⟩ (.int .u8 v)).drew (.slice (some ⟨g, 0, none⟩) n1 zc) x1 ∧ Below W6.heap.size W6 (wr.setCell ⟨gb, 0, none⟩ (.int .u8 v)).drew) := fun v => ⟨(hh.set hblk hLL v).under (Below.refl _ _).drew, (hbw.setCell (p := ⟨gb, 0, none⟩) hB _).drew⟩
              clear hh hbw hrow hD hB hblk hLL hpos hm
              go_upto_region 16 with fail
              go_region
              all_goals (
                go_wp2
                go_roundw
                case rel => exact ⟨k + 1, by simp, by omega, HN.out _⟩
                case measure => simp [intOf]; omega)
            · obtain rfl : k = L := by omega
              have HN : Hid (HZs W6.heap.size wr (.slice (some ⟨g, 0, none⟩) n1 zc) x1 ∧ Below W6.heap.size W6 wr) := ⟨hh, hbw⟩
              clear hh hbw hrow
              go_wp2
              go_roundw
              case rel => exact ⟨i + 1, by simp, by omega, HN.out⟩
              case measure => simp [intOf]; omega
        · obtain rfl : i = n1 := by omega
          have HN : Hid (Below W6.heap.size W6 wr ∧ Below w.heap.size w wr) := ⟨hbw, H6.out.1.trans (hbw.mono H6.out.1.size)⟩
          clear hh hbw
          go_wp2_with fail
          refine (zones_of (H6.out.2.2.1.beneath HN.out.1) HF.out).mono ?_
          rintro e W11 ⟨v11, rfl, z11, b11⟩
          obtain ⟨ta, tc, hv11⟩ := z11.slice
          rw [HP.out.1] at hv11
          subst hv11
          have H11 : Hid (Below w.heap.size w W11 ∧ ZsIn W11 ta i x1 ∧ ZsIn W11 a1 i x1) := ⟨HN.out.2.trans (b11.mono HN.out.2.size), z11.zsin HF.out.short, (H6.out.2.1.below HN.out.1).below b11⟩
          clear z11 b11
          go_wp2_with fail
          refine (sameZones_of ta i tc a1 i c1 x1 W11 H11.out.2.1 H11.out.2.2).mono ?_
          rintro e W12 ⟨rfl, k12, hw12⟩
          have b12 : Below W11.heap.size W11 W12 := by rw [hw12]; exact below_drewN _ _
          clear hw12
          have H12 : Hid (Below w.heap.size w W12) := H11.out.1.trans (b12.mono H11.out.1.size)
          clear b12
          go_wp2
          go_ret
          exact ⟨rfl, H12.out⟩

set_option maxRecDepth 100000 in
theorem lifted (os : Os) (started : os.Started) (H : Type) (enc : TypeId × Value → H) :
    ReturnsInHanded {} Try.checked os 5 .any (Rows.zoneOpensSpec.pre6 enc Try.prog Try.f5 Rows.zoneOpensRow.domain false) (Rows.zoneOpensSpec.post enc Try.prog Try.f5 false true false false) := by
  refine returnsInHanded_of_change (C := Try.checked) own started (by kernel_rfl) Try.func5
    (ChangeSpec.witness6 (enc := enc) (C := Try.checked) false ⟨#[], #[.agg #[.int .i64 0, .int .i64 0, .int .i64 0, .int .i64 0], .slice none 0 0], []⟩ 8 (by kernel_rfl) (by kernel_rfl) (by kernel_rfl) (by kernel_rfl)) ?_
  intro W base args ds gs before hval0 hW hcnd _
  have hval : ∀ (j : Nat) t v, Try.f5.params[j]? = some t → args[j]? = some v → Value.okWide Try.prog W .any base t v := hval0
  have hW' := hW
  obtain ⟨p, q, hA0, hV, rfl, hfz, hnd⟩ := hW
  have hA : DataW.TrodAll enc Try.prog W 0 (fun _ => true) true Try.f5.params.toList args.toList ds p := hA0
  rw [Try.params5] at hA hval
  obtain ⟨v0, vs0, d0, ds0, p0, q0, hargs, rfl, rfl, h0, r0⟩ := trodAll_cons hA
  obtain ⟨v1, vs1, d1, ds1, p1, q1, rfl, rfl, rfl, h1, r1⟩ := trodAll_cons r0
  obtain ⟨rfl, rfl, rfl⟩ := trodAll_nil r1
  obtain rfl : args = #[v0, v1] := by cases args; simp_all
  obtain ⟨rfl, rfl⟩ := trodVars_none hV
  have k0 := h0
  have lt0 : ∀ x ∈ p0, x.block < W.heap.size := by obtain ⟨m, hm⟩ := k0; exact DataW.trod_lt m _ _ _ hm
  obtain ⟨s0, rfl, w0⟩ := open_shape (hval 0 23 v0 rfl rfl) h0
  obtain ⟨a1, n1, c1, rfl⟩ := okWide_slice Try.underlying40 (hval 1 40 v1 rfl rfl)
  have k1 := h1
  have lt1 : ∀ x ∈ p1, x.block < W.heap.size := by obtain ⟨m, hm⟩ := k1; exact DataW.trod_lt m _ _ _ hm
  obtain ⟨x1, w1⟩ := open_zones h1
  clear hA0 hval0
  refine (walk s0 a1 n1 c1 x1 W w0 w1).mono fun e W' ⟨he, bel⟩ => ?_
  subst he
  exact ⟨_, rfl, _, _, _, [], _, [], hW', trodAll_mk1 (shut_bool Try.underlying4 _), (trodAll_cons_mk (Below.trod laidOut (by kernel_rfl) (of_decide_eq_true (by kernel_rfl)) k0 bel lt0) (trodAll_cons_mk (Below.trod laidOut (by kernel_rfl) (of_decide_eq_true (by kernel_rfl)) k1 bel lt1) trodAll_mk0)), rfl, bel.frame _, fun h => by cases h⟩

theorem over : Rows.zoneOpensRow.holds Try.pinned (OpenSpec.ofChange Rows.zoneOpensSpec) :=
  OpenClaim.holds_of_wide 5 Try.f5 rfl rfl rfl rfl rfl rfl rfl ⟨rfl, rfl, rfl, rfl, rfl⟩ rfl rfl rfl rfl rfl (by kernel_rfl) Try.func5 (by kernel_rfl)
    (of_decide_eq_true (by kernel_rfl)) (by unfold Func.isWrapper; first | (rw [if_pos (by decide +kernel)]; kernel_rfl) | (rw [if_neg (by decide +kernel)]; exact ⟨rfl, rfl⟩))
    (fun os started H enc _ => lifted os started H enc)

end Go.Proofs.Ytlkpglppkpalgaa.zoneOpens
namespace Go.Proofs.Ytlkpglppkpalgaa
/-- The statement. -/
theorem zoneOpens_holds : Rows.ZoneOpensSaid := zoneOpens.over
#print axioms zoneOpens_holds
end Go.Proofs.Ytlkpglppkpalgaa
