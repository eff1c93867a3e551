/- ZoneReads holds: whatever calls are made on a device of whatever shape, each block that was appended is read as it was, at the place that was told, till its zone is emptied; without conditions. -/
import Derived.Test.YtlkpglppkpalgaaRows
import Derived.Test.YtlkpglppkpalgaaZPl
import Derived.Test.YtlkpglppkpalgaaZIn
import Derived.WalkKit
import Derived.ProofKit
import Derived.OpenShut
import Derived.ShutString
import Derived.ChangeOld
import Derived.Below
namespace Go.Proofs.Ytlkpglppkpalgaa.zoneReads
open Go.ChangeShapes Go.WideShapes Go.ChangeAt Go.RowKit
open Go.ChangeMaps (open_string shut_string)
set_option linter.unusedVariables false

theorem own : ownKnob Try.prog.godebug = none := by kernel_rfl
theorem laidOut : laidOutB Try.prog = true := by kernel_rfl

set_option maxHeartbeats 8000000 in
set_option maxRecDepth 20000 in
theorem walk (s0 : Sh) (a1 : Option Addr) (n1 c1 : Nat) (x1 : List Opn) (w : World) (w0 : ShF s0) (w1 : OpsIn w a1 n1 x1 ∧ OpsF x1) :
    Calls Try.prog 8 #[.agg (shL s0).toArray, .slice a1 n1 c1] w fun e w' => e = .returned (.bool true) ∧ Below w.heap.size w w' := by
  have hz : -9223372036854775808 ≤ s0.z := w0.1.1
  obtain ⟨q, hq⟩ : ∃ q, q = w.heap.size := ⟨_, rfl⟩
  have hb : Blk (w.alloc (.cells #[.int .i64 s0.z, .int .i64 s0.zb, .int .i64 s0.b, .int .i64 s0.r] 23)) q (shL s0) 23 := Blk.new' hq.symm rfl
  have hbel : Below w.heap.size w (w.alloc (.cells #[.int .i64 s0.z, .int .i64 s0.zb, .int .i64 s0.b, .int .i64 s0.r] 23)) := (Below.refl _ _).alloc (Nat.le_refl _) _
  simp only [shL]
  go_enter Try.func8, Try.ntmps8
  go_upto_region 1 with fail
  rw [← hq]
  generalize hW1 : World.alloc _ _ = W1 at *
  clear hW1 hq
  have cells : ∀ {V : World}, Below W1.heap.size W1 V → V.cell? ⟨q, 0, none⟩ = some (.int .i64 s0.z) ∧ V.cell? ⟨q, 1, none⟩ = some (.int .i64 s0.zb) ∧ V.cell? ⟨q, 2, none⟩ = some (.int .i64 s0.b) ∧ V.cell? ⟨q, 3, none⟩ = some (.int .i64 s0.r) := by
    intro V hV
    have h := (below_out Non hV).blk hb id
    exact ⟨h.cell 0, h.cell 1, h.cell 2, h.cell 3⟩
  obtain ⟨e0, e1, e2, e3⟩ := cells (Below.refl _ _)
  have HC : Hid (∀ {V : World}, Below W1.heap.size W1 V → V.cell? ⟨q, 0, none⟩ = some (.int .i64 s0.z) ∧ V.cell? ⟨q, 1, none⟩ = some (.int .i64 s0.zb) ∧ V.cell? ⟨q, 2, none⟩ = some (.int .i64 s0.b) ∧ V.cell? ⟨q, 3, none⟩ = some (.int .i64 s0.r)) := cells
  have HB : Hid (Below w.heap.size w W1 ∧ -9223372036854775808 ≤ s0.z ∧ OpsIn w a1 n1 x1) := ⟨hbel, hz, w1.1⟩
  clear cells hb hbel hz w0 w1
  by_cases hs : SmallS s0
  · have hsd : decide (SmallS s0) = true := by simp [hs]
    have HS : Hid (decide (SmallS s0) = true) := hsd
    clear hs hsd
    by_cases hv : heavyB x1 = true
    · have HV : Hid (heavyB x1 = true) := hv
      clear hv
      go_wp2_with (first
        | (go_at_call 9; refine (small_of s0 _).mono ?_; rintro e W2 ⟨rfl, b2⟩; rw [HS.out])
        | (go_at_call 10; refine (heavy_of a1 n1 c1 x1 _ (HB.out.2.2.below (HB.out.1.trans (b2.mono HB.out.1.size)))).mono ?_; rintro e W3 ⟨rfl, rfl⟩; rw [HV.out])
        | (go_at_call 11; refine (known_any _).mono ?_; rintro e W4 ⟨rfl, b4⟩; have b24 := b2.trans (b4.mono b2.size)))
      go_ret
      exact ⟨rfl, HB.out.1.trans (b24.mono HB.out.1.size)⟩
    · have hvf : heavyB x1 = false := by simpa using hv
      have HV : Hid (heavyB x1 = false) := hvf
      clear hv hvf
      go_upto_region 4 with (first
        | (go_at_call 9; refine (small_of s0 _).mono ?_; rintro e W2 ⟨rfl, b2⟩; rw [HS.out])
        | (go_at_call 10; refine (heavy_of a1 n1 c1 x1 _ (HB.out.2.2.below (HB.out.1.trans (b2.mono HB.out.1.size)))).mono ?_; rintro e W3 ⟨rfl, rfl⟩; rw [HV.out])
        | (go_at_call 11; refine (known_any _).mono ?_; rintro e W4 ⟨rfl, b4⟩; have b24 := b2.trans (b4.mono b2.size)))
      obtain ⟨g0, g1, g2, g3⟩ := HC.out b24
      have HX : Hid (OpsIn W4 a1 n1 x1 ∧ Below w.heap.size w W4 ∧ (∀ o ∈ x1, o.f.length ≤ 200) ∧ n1 ≤ 60) := by
        have hno := heavy_no HV.out
        have hl := HB.out.2.2.1
        exact ⟨HB.out.2.2.below (HB.out.1.trans (b24.mono HB.out.1.size)), HB.out.1.trans (b24.mono HB.out.1.size), fun o ho => (hno.2 o ho).1, by omega⟩
      have HC4 : Hid (∀ {V : World}, Below W4.heap.size W4 V → V.cell? ⟨q, 0, none⟩ = some (.int .i64 s0.z) ∧ V.cell? ⟨q, 1, none⟩ = some (.int .i64 s0.zb) ∧ V.cell? ⟨q, 2, none⟩ = some (.int .i64 s0.b) ∧ V.cell? ⟨q, 3, none⟩ = some (.int .i64 s0.r)) := fun h => HC.out (b24.trans (h.mono b24.size))
      clear e0 e1 e2 e3 b2 b4 b24 HC
      by_cases hr : RightS s0
      · have HR : Hid (RightS s0) := hr
        clear hr
        go_upto_region 9 with (go_at_call 12; refine (new_of s0 _ HB.out.2.1).mono ?_; rintro e W5 ⟨b5, (⟨hno, _⟩ | ⟨_, p, rfl, dv5⟩)⟩; (exact (hno HR.out).elim))
        have H0 : Hid (PlSt W4 (nextO Non W4 W5) W5 p s0 (emptyZ s0.z.toNat) (.slice none 0 0) (.slice none 0 0) []) := ⟨dv_mono dv5 (fun x hx hlt => ⟨.inr hx, hlt⟩), empty_wf HR.out, fun x hx => ⟨by rcases hx.1 with h | h; (exact h.elim); exact h, hx.2⟩, AdAt.nil _ _, RowAt.nil _ _, b5⟩
        clear b5 dv5 g0 g1 g2 g3
        go_wp2
        go_loopw [7, 8, 9] (fun u v x wr => ∃ (i : Nat) (O : Nat → Prop) (zs : List Zn) (L : List Pb), x = .int .i64 i ∧ i ≤ n1 ∧ L.length ≤ i ∧ PlSt W4 O wr p s0 zs u v L ∧ ∀ q ∈ L, Rd zs q.1 q.2) (fun _ _ x _ => n1 - (intOf x).toNat)
        case atStart => exact ⟨0, _, _, [], rfl, Nat.zero_le _, by simp, H0.out, by simp⟩
        case round =>
          obtain ⟨i, O, zs, L, rfl, hi, hL, st, hrd⟩ := hrel
          obtain ⟨m, hm⟩ : ∃ m, m = L.length := ⟨_, rfl⟩
          obtain ⟨ua, uc, rfl⟩ := st.ad.slice
          obtain ⟨va, vc, rfl⟩ := st.row.slice
          simp only [List.length_map] at st
          simp only [List.length_map, ← hm] at st ⊢
          rcases Nat.lt_or_ge i n1 with hlt | hge
          · obtain ⟨o, ho⟩ : ∃ o, x1[i]? = some o := ⟨x1[i]'(by have := HX.out.1.1; omega), by simp⟩
            obtain ⟨b, off, rfl, hc⟩ := HX.out.1.2.resolve_left (by omega)
            obtain ⟨vs, hop, hcell⟩ := hc i o ho
            have hof := HX.out.2.2.1 o (List.mem_of_getElem? ho)
            obtain ⟨A, Lf, C, B, Mf, E, rfl, hfb, hfn, _, hkk⟩ := hop
            have HK : Hid (∀ {V : World}, Below W4.heap.size W4 V → OpK s0 q b (off + i * 5) (.int .u8 o.k) (.int .i64 o.z) (.int .i64 o.n) (.slice A Lf C) (.slice B Mf E) V) := fun hV => OpK.below ⟨HC4.out (Below.refl _ _), hcell 0 (by decide), hcell 1 (by decide), hcell 2 (by decide), hcell 3 (by decide), hcell 4 (by decide)⟩ hV
            obtain ⟨⟨k0, k1, k2, k3⟩, l0, l1, l2, l3, l4⟩ := HK.out st.bel
            have hlt' : (i : Int) < n1 := by omega
            have hwi : IntKind.i64.wrap ((i : Int) + 1) = (i : Int) + 1 := by have := HX.out.2.2.2; rw [IntKind.wrap_i64]; omega
            have htm : o.k.tmod 8 = o.k % 8 := Int.tmod_eq_emod_of_nonneg hkk.1
            have HI : Hid (PlSt W4 O wr p s0 zs (.slice ua m uc) (.slice va m vc) L ∧ (∀ q ∈ L, Rd zs q.1 q.2) ∧ m = L.length ∧ L.length ≤ i ∧ BIn W4 A Lf o.f ∧ o.f.length ≤ 200) := ⟨st, hrd, hm, hL, hfb, hof⟩
            have hm60 : m ≤ 60 := by have := HX.out.2.2.2; omega
            clear st hrd hm hcell hc ho hfb hfn hof hkk hL
            by_cases hk6 : o.k % 8 = 6
            · have hk6' : o.k.tmod 8 = 6 := by rw [htm]; exact hk6
              clear htm hk6 k0 k1 k2 k3
              go_upto_region 16 with (go_at_call 27; refine (reset_of o.z HI.out.1.dv).mono ?_; rintro e w1 ⟨rfl, st1⟩)
              have H1 : Hid (PlSt W4 (nextO O wr w1) w1 p s0 (resetZ zs o.z) (.slice ua m uc) (.slice va m vc) L) := HI.out.1.step st1 (HI.out.1.wf.reset _)
              obtain ⟨O1, hO1⟩ : ∃ O1, O1 = nextO O wr w1 := ⟨_, rfl⟩
              rw [← hO1] at H1
              have H0k : Hid (KpSt W4 w1 O1 (.slice none 0 0) (.slice none 0 0) (keepZ o.z (L.take 0)) w1) := ⟨AdAt.nil _ _, RowAt.nil _ _, (fun r h => by cases h), Below.refl _ _⟩
              clear st1 hO1 l0 l1 l2 l3 l4
              go_wp2
              go_loopw [10, 11, 12] (fun u2 v2 x wr => ∃ j : Nat, x = .int .i64 j ∧ j ≤ m ∧ KpSt W4 w1 O1 u2 v2 (keepZ o.z (L.take j)) wr) (fun _ _ x _ => m - (intOf x).toNat)
              case atStart => exact ⟨0, rfl, Nat.zero_le _, H0k.out⟩
              case round =>
                obtain ⟨j, rfl, hj, kp⟩ := hrel
                obtain ⟨Mk, hMk⟩ : ∃ Mk, Mk = (keepZ o.z (L.take j)).length := ⟨_, rfl⟩
                obtain ⟨ua2, uc2, rfl⟩ := kp.ad.slice
                obtain ⟨va2, vc2, rfl⟩ := kp.row.slice
                simp only [List.length_map, ← hMk] at kp ⊢
                have hMl : Mk ≤ j := by rw [hMk]; exact Nat.le_trans (keepZ_len _ _) (by simp; omega)
                rcases Nat.lt_or_ge j m with hjl | hjg
                · obtain ⟨q9, hq9⟩ : ∃ q9, L[j]? = some q9 := ⟨L[j]'(by have := HI.out.2.2.1; omega), by simp⟩
                  obtain ⟨⟨qz, qb⟩, qD⟩ := q9
                  have stw := H1.out.under kp.bel
                  obtain ⟨g7, rfl, c70, c71⟩ := stw.ad.cell (i := j) (x := (qz, qb)) (by simp [hq9])
                  obtain ⟨g8, A8, C8, rfl, c8, bk8⟩ := row_cell stw.row (i := j) (D := qD) (by simp [hq9])
                  dsimp only at c70 c71
                  obtain ⟨_, _, l1, _⟩ := HK.out stw.bel
                  have hj' : (j : Int) < m := by omega
                  have hwj : IntKind.i64.wrap ((j : Int) + 1) = (j : Int) + 1 := by rw [IntKind.wrap_i64]; omega
                  have HQ : Hid (L[j]? = some ((qz, qb), qD)) := hq9
                  by_cases hz : qz = o.z
                  · have hzb : (qz != o.z) = false := by simp [hz]
                    have HKp : Hid (KpSt W4 w1 O1 (.slice ua2 Mk uc2) (.slice va2 Mk vc2) (keepZ o.z (L.take (j + 1))) wr.drew) := by
                      have e := keepZ_no (zn := o.z) hq9 hz
                      show KpSt _ _ _ _ _ _ _
                      rw [e]; exact kp.under (Below.refl _ _).drew
                    clear kp stw bk8 c8 hz hMk hq9
                    go_wp2
                    go_region_held3 (fun V => V.cell? ⟨g7, j * 2, none⟩ = some (.int .i64 qz) ∧ V.cell? ⟨b, off + i * 5 + 1, none⟩ = some (.int .i64 o.z)) (exact ⟨c70, l1⟩) (fail)
                    go_wp2
                    go_roundw
                    case rel => exact ⟨j + 1, by simp, by omega, HKp.out⟩
                    case measure => simp [intOf]; omega
                  · have hzb : (qz != o.z) = true := by simp [hz]
                    have kpd := kp.under (Below.refl _ _).drew
                    obtain ⟨a5, c5, w5, e5, ad5, row5, bel5⟩ := kpd.place (qz, qb) (by omega)
                    have bk5 : BkAt (QO W4 O1) w5 (.slice A8 qD.length C8) qD := by
                      obtain ⟨g8', A8', C8', e8, c8', bk8'⟩ := row_cell H1.out.row (i := j) (D := qD) (by simp [hq9])
                      cases e8
                      have := (kp.bel.cell (old_block c8')).trans c8'
                      rw [c8] at this
                      cases this
                      exact bk8'.out (below_out Non bel5) (fun _ _ _ _ e => e)
                    obtain ⟨a6, c6, w6, e6, kp6⟩ := keep_block ad5 row5 kp.own bk5 rfl bel5 (by omega) (fun k hk => H1.out.new k (by have := bel5.size; omega))
                    rw [← hMk] at e5 e6 kp6
                    have c8w : w5.cell? ⟨g8, j, none⟩ = some (.slice A8 qD.length C8) := by
                      obtain ⟨g8', A8', C8', e8, c8', bk8'⟩ := row_cell H1.out.row (i := j) (D := qD) (by simp [hq9])
                      cases e8
                      have := (kp.bel.cell (old_block c8')).trans c8'
                      rw [c8] at this
                      cases this
                      exact (bel5.cell (old_block c8')).trans c8'
                    have HKp : Hid (KpSt W4 w1 O1 (.slice a5 (Mk + 1) c5) (.slice a6 (Mk + 1) c6) (keepZ o.z (L.take (j + 1))) w6) := by
                      have e := keepZ_yes (zn := o.z) hq9 hz
                      show KpSt _ _ _ _ _ _ _
                      rw [e]; exact kp6
                    have HE : Hid ((Builtin.append_ #[54, 54] 54 #[.slice ua2 Mk uc2, .slice (some ⟨wr.heap.size, 0, none⟩) 1 1]).run Try.prog (wr.drew.alloc (.cells #[.int .i64 qz, .int .i64 qb] 59)) = .ok (.slice a5 (Mk + 1) c5) w5 ∧ (Builtin.append_ #[47, 47] 47 #[.slice va2 Mk vc2, .slice (some ⟨w5.heap.size, 0, none⟩) 1 1]).run Try.prog (w5.alloc (.cells #[.slice A8 qD.length C8] 33)) = .ok (.slice a6 (Mk + 1) c6) w6) := ⟨e5, e6⟩
                    clear kp kpd stw bk8 c8 hz hMk hq9 e5 e6 ad5 row5 bel5 bk5 kp6
                    go_wp2
                    go_region_held3 (fun V => V.cell? ⟨g7, j * 2, none⟩ = some (.int .i64 qz) ∧ V.cell? ⟨b, off + i * 5 + 1, none⟩ = some (.int .i64 o.z)) (exact ⟨c70, l1⟩) (fail)
                    go_wp2_with (first
                      | (at_builtin; refine wpList_append_run rfl (.tmp 73) (.tmp 78) 54 54 rfl _ _ rfl rfl _ _ HE.out.1 ?_)
                      | (at_builtin; refine wpList_append_run rfl (.tmp 80) (.tmp 85) 47 47 rfl _ _ rfl rfl _ _ HE.out.2 ?_))
                    go_roundw
                    case rel => exact ⟨j + 1, by simp, by omega, HKp.out⟩
                    case measure => simp [intOf]; omega
                · obtain rfl : j = m := by omega
                  obtain ⟨wR, hwR⟩ : ∃ wR, wR = wr := ⟨_, rfl⟩
                  subst hwR
                  have eL : L.take j = L := List.take_of_length_le (by have := HI.out.2.2.1; omega)
                  rw [eL] at kp hMk
                  obtain ⟨L9, hL9⟩ : ∃ L9, L9 = keepZ o.z L := ⟨_, rfl⟩
                  obtain ⟨zs9, hzs9⟩ : ∃ zs9, zs9 = resetZ zs o.z := ⟨_, rfl⟩
                  have hrd9 := keepZ_rd (zn := o.z) HI.out.2.1
                  rw [← hL9] at kp hMk hrd9
                  have H1' := H1.out
                  rw [← hzs9] at hrd9 H1'
                  obtain ⟨O9, rfl⟩ : ∃ O9, O9 = O1 := ⟨_, rfl⟩
                  obtain ⟨ua9, rfl⟩ : ∃ x, x = ua2 := ⟨_, rfl⟩
                  obtain ⟨uc9, rfl⟩ : ∃ x, x = uc2 := ⟨_, rfl⟩
                  obtain ⟨va9, rfl⟩ : ∃ x, x = va2 := ⟨_, rfl⟩
                  obtain ⟨vc9, rfl⟩ : ∃ x, x = vc2 := ⟨_, rfl⟩
                  have HP : Hid (PlSt W4 O9 wR p s0 zs9 (.slice ua9 Mk uc9) (.slice va9 Mk vc9) L9 ∧ (∀ q ∈ L9, Rd zs9 q.1 q.2) ∧ L9.length = Mk ∧ Mk ≤ i) := ⟨kp.pl H1', hrd9, hMk.symm, by have := HI.out.2.2; omega⟩
                  clear kp hMk hrd9 H1' hL9 hzs9 eL
                  go_wp2
                  go_loopw [16] (fun x w9 => ∃ k : Nat, x = .int .i64 k ∧ k ≤ Mk ∧ Below wR.heap.size wR w9) (fun x _ => Mk - (intOf x).toNat)
                  case atStart => exact ⟨0, rfl, Nat.zero_le _, Below.refl _ _⟩
                  case round =>
                    obtain ⟨k, rfl, hk, hb9⟩ := hrel
                    have st9 := HP.out.1.under hb9
                    rcases Nat.lt_or_ge k Mk with hkl | hkg
                    · obtain ⟨q9, hq9⟩ : ∃ q9, L9[k]? = some q9 := ⟨L9[k]'(by have := HP.out.2.2.1; omega), by simp⟩
                      obtain ⟨g7, rfl, c70, c71⟩ := st9.ad.cell (i := k) (x := q9.1) (by simp [hq9])
                      obtain ⟨g8, A8, C8, rfl, c8, bk8⟩ := row_cell st9.row (i := k) (D := q9.2) (by simp [hq9])
                      have hrd := HP.out.2.1 q9 (List.mem_of_getElem? hq9)
                      obtain ⟨⟨qz, qb⟩, qD⟩ := q9
                      dsimp only at c70 c71 c8 bk8 hrd
                      have HRd : Hid (rdE zs9 qz qb = 0 ∧ rdB zs9 qz qb = qD) := hrd
                      have H9 : Hid (PlSt W4 O9 wr p s0 zs9 (.slice (some ⟨g7, 0, none⟩) Mk uc9) (.slice (some ⟨g8, 0, none⟩) Mk vc9) L9 ∧ BkAt (QO W4 O9) wr (.slice A8 qD.length C8) qD ∧ Below wR.heap.size wR wr ∧ wr.cell? ⟨g8, k, none⟩ = some (.slice A8 qD.length C8)) := ⟨st9, bk8, hb9, c8⟩
                      have hk' : (k : Int) < Mk := by omega
                      have hwk : IntKind.i64.wrap ((k : Int) + 1) = (k : Int) + 1 := by have := HP.out.2.2.2; have := HX.out.2.2.2; rw [IntKind.wrap_i64]; omega
                      clear st9 bk8 hb9 hrd hq9 c8
                      go_upto_region 33 with (go_at_call 30; refine (read_of qz qb H9.out.1.dv H9.out.1.wf).mono ?_; rintro e w10 ⟨h10, rfl, bk10, b10⟩; rw [HRd.out.1]; rw [HRd.out.2] at bk10)
                      obtain ⟨xA, xC, e10⟩ := own_slice bk10.1
                      subst e10
                      have c8' : w10.cell? ⟨g8, k, none⟩ = some (.slice A8 qD.length C8) := (b10.cell (old_block H9.out.2.2.2)).trans H9.out.2.2.2
                      have HS9 : Hid (∀ V, Below w10.heap.size w10 V → Calls Try.prog 31 #[.slice xA qD.length xC, .slice A8 qD.length C8] V fun e w' => e = .returned (.bool true) ∧ w' = V) := fun V hV => sameBytes_of _ _ _ qD _ _ _ V (bk10.bin.1.below hV) ((H9.out.2.1.bin.1.below b10).below hV)
                      have HB10 : Hid (Below wR.heap.size wR w10) := H9.out.2.2.1.trans (b10.mono H9.out.2.2.1.size)
                      clear bk10 b10 c70 c71
                      go_wp2_with (go_at_call 31; refine (HS9.out _ (Below.refl _ _)).mono ?_; rintro e w11 ⟨rfl, hw11⟩; replace hw11 := hw11.symm; subst hw11)
                      go_roundw
                      case rel => exact ⟨k + 1, by simp, by omega, HB10.out⟩
                      case measure => simp [intOf]; omega
                    · obtain rfl : k = Mk := by omega
                      have H9 : Hid (PlSt W4 O9 wr p s0 zs9 (.slice ua9 k uc9) (.slice va9 k vc9) L9) := st9
                      clear st9 hb9
                      go_wp2
                      go_roundw
                      case rel => exact ⟨i + 1, O9, zs9, L9, by simp, by omega, by have := HP.out.2.2; omega, H9.out, HP.out.2.1⟩
                      case measure => simp [intOf]; omega
            · have hk6' : (o.k.tmod 8 == 6) = false := by rw [htm]; simp [hk6]
              clear htm hk6
              have hsb := power_bounds HR.out.2.2.2.2.1
              obtain ⟨S, hS⟩ : ∃ S : Nat, s0.b = S := ⟨s0.b.toNat, by omega⟩
              rw [hS] at k2
              have HBl : Hid (∀ V, Below wr.heap.size wr V → Calls Try.prog 28 #[.int .i64 S, .slice A Lf C] V fun e w' => ∃ q, e = .returned (.slice (some ⟨q, 0, none⟩) S S) ∧ BkAt (fun x => V.heap.size ≤ x) w' (.slice (some ⟨q, 0, none⟩) S S) (blockB S o.f) ∧ Below V.heap.size V w' ∧ V.heap.size ≤ q) := fun V hV => block_of S A Lf C o.f V ((HI.out.2.2.2.2.1.below HI.out.1.bel).below hV) (by omega) (by have := HI.out.2.2.2.2; have := this.1.1; omega)
              have HSS : Hid (S ≤ 100000) := show S ≤ 100000 by omega
              clear hsb hS k0 k1 k3 l2 l4
              go_upto_region 24 with fail
              go_region_held3 (fun V => V.cell? ⟨q, 2, none⟩ = some (.int .i64 S) ∧ V.cell? ⟨b, off + i * 5 + 3, none⟩ = some (.slice A Lf C)) (first | exact ⟨k2, l3⟩ | exact ⟨m2, j3⟩) ((go_at_call 28; refine (HBl.out _ (by exact ⟨rfl, rfl, rfl, Nat.le_refl _, fun _ _ => rfl⟩)).mono ?_; rintro e w2 ⟨qB, rfl, bk2, b2, hq2⟩; have m2 : w2.cell? ⟨q, 2, none⟩ = some (.int .i64 S) := (b2.cell (old_block k2)).trans k2; have j3 : w2.cell? ⟨b, off + i * 5 + 3, none⟩ = some (.slice A Lf C) := (b2.cell (old_block l3)).trans l3))
              have b2' : Below wr.heap.size wr w2 := (Below.refl _ _).drew.trans b2
              have H2 : Hid (PlSt W4 O w2 p s0 zs (.slice ua m uc) (.slice va m vc) L ∧ BkAt (QO W4 O) w2 (.slice (some ⟨qB, 0, none⟩) S S) (blockB S o.f)) := ⟨HI.out.1.under b2', bk2.mono (fun x hx _ => HI.out.1.new x hx)⟩
              obtain ⟨_, j0, j1, _⟩ := HK.out H2.out.1.bel
              obtain ⟨a1, a2, ha⟩ : ∃ a1 a2, appA s0 zs o.z (blockB S o.f) = (a1, a2) := ⟨_, _, rfl⟩
              clear bk2 b2 b2' hq2 m2 j3 k2 l3 l1 l0 HBl j0
              go_upto_region 26 with (go_at_call 29; refine (append_of o.z (some ⟨qB, 0, none⟩) S S (blockB S o.f) H2.out.1.dv H2.out.1.wf H2.out.2.bin.1 (fun h => by cases h) HSS.out).mono ?_; rintro e w3 ⟨rfl, st3⟩; rw [ha])
              obtain ⟨E9, hE9⟩ : ∃ E9, E9 = appE s0 zs o.z (blockB S o.f) := ⟨_, rfl⟩
              rw [← hE9]
              obtain ⟨zs9, hzs9⟩ : ∃ zs9, zs9 = appZ s0 zs o.z (blockB S o.f) := ⟨_, rfl⟩
              rw [← hzs9] at st3
              obtain ⟨O9, hO9⟩ : ∃ O9, O9 = nextO O w2 w3 := ⟨_, rfl⟩
              have hp3 := H2.out.1.step st3 (by rw [hzs9]; exact H2.out.1.wf.app _ _)
              have hbk3 := H2.out.1.bk st3.2 H2.out.2
              have hrd3 : ∀ q ∈ L, Rd zs9 q.1 q.2 := fun q hq => by rw [hzs9]; exact rd_app (HI.out.2.1 q hq) _ _
              have hnew : E9 = 0 → Rd zs9 (a1, a2) (blockB S o.f) := fun h => by rw [hzs9, ← ha]; exact rd_new (by rw [← hE9]; exact h)
              rw [← hO9] at hp3 hbk3
              obtain ⟨qA, hqA⟩ : ∃ qA, qA = w3.heap.size := ⟨_, rfl⟩
              have b4 : Below w3.heap.size w3 (w3.alloc (.cells #[.int .i64 a1, .int .i64 a2] 59)) := (Below.refl _ _).alloc (Nat.le_refl _) _
              have kA : Blk (w3.alloc (.cells #[.int .i64 a1, .int .i64 a2] 59)) qA [.int .i64 a1, .int .i64 a2] 59 := Blk.new' hqA.symm rfl
              have hp4 := hp3.under b4
              have hbk4 := hbk3.out (below_out Non b4) (fun _ _ _ _ e => e)
              rw [← hqA]
              generalize hW4 : World.alloc w3 _ = W9 at kA hp4 hbk4 ⊢
              have H4 : Hid (PlSt W4 O9 W9 p s0 zs9 (.slice ua m uc) (.slice va m vc) L ∧ (∀ q ∈ L, Rd zs9 q.1 q.2) ∧ BkAt (QO W4 O9) W9 (.slice (some ⟨qB, 0, none⟩) S S) (blockB S o.f) ∧ (E9 = 0 → Rd zs9 (a1, a2) (blockB S o.f))) := ⟨hp4, hrd3, hbk4, hnew⟩
              have kA0 : W9.cell? ⟨qA, 0, none⟩ = some (.int .i64 a1) := kA.cell 0
              have kA1 : W9.cell? ⟨qA, 1, none⟩ = some (.int .i64 a2) := kA.cell 1
              clear hp3 hbk3 hrd3 hnew b4 kA hp4 hbk4 hW4 hqA st3 hzs9 hO9 ha H2 hE9 j1
              by_cases hE0 : E9 = 0
              · have HE0 : Hid (E9 = 0) := hE0
                obtain ⟨a5, c5, w5, e5, d5, o5, ad5, row5, bk5, bel5⟩ := H4.out.1.place (a1, a2) (by have := HI.out.2.2; omega) H4.out.2.2.1
                obtain ⟨a6, c6, w6, e6, pl6⟩ := place_block d5 H4.out.1.wf (fun x hx => ⟨(H4.out.1.o x hx).1, o5 x hx⟩) ad5 row5 bk5 rfl bel5 (by have := HI.out.2.2; omega)
                have hml := HI.out.2.2.1
                rw [← hml] at e5 e6 pl6
                have HE : Hid ((Builtin.append_ #[54, 54] 54 #[.slice ua m uc, .slice (some ⟨W9.heap.size, 0, none⟩) 1 1]).run Try.prog (W9.alloc (.cells #[.int .i64 a1, .int .i64 a2] 59)) = .ok (.slice a5 (m + 1) c5) w5 ∧ (Builtin.append_ #[47, 47] 47 #[.slice va m vc, .slice (some ⟨w5.heap.size, 0, none⟩) 1 1]).run Try.prog (w5.alloc (.cells #[.slice (some ⟨qB, 0, none⟩) S S] 33)) = .ok (.slice a6 (m + 1) c6) w6) := ⟨e5, e6⟩
                have HP0 : Hid (PlSt W4 O9 w6 p s0 zs9 (.slice a5 (m + 1) c5) (.slice a6 (m + 1) c6) (L ++ [((a1, a2), blockB S o.f)]) ∧ (∀ q ∈ L ++ [((a1, a2), blockB S o.f)], Rd zs9 q.1 q.2) ∧ (L ++ [((a1, a2), blockB S o.f)]).length = m + 1 ∧ m + 1 ≤ i + 1) := ⟨pl6, rd_snoc H4.out.2.1 (H4.out.2.2.2 hE0), by simp [← hml], by have := HI.out.2.2; omega⟩
                clear e5 e6 pl6 d5 o5 ad5 row5 bk5 bel5 hml
                subst hE0
                go_upto_region 29 with (first
                  | (at_builtin; refine wpList_append_run rfl (.tmp 110) (.tmp 112) 54 54 rfl _ _ rfl rfl _ _ HE.out.1 ?_)
                  | (at_builtin; refine wpList_append_run rfl (.tmp 114) (.tmp 116) 47 47 rfl _ _ rfl rfl _ _ HE.out.2 ?_))
                obtain ⟨L9, hL9⟩ : ∃ L9, L9 = L ++ [((a1, a2), blockB S o.f)] := ⟨_, rfl⟩
                obtain ⟨M9, hM9⟩ : ∃ M9, M9 = m + 1 := ⟨_, rfl⟩
                rw [← hL9, ← hM9] at HP0
                rw [← hM9]
                have HP := HP0
                clear HP0 hL9 HE
                obtain ⟨ua9, rfl⟩ : ∃ x, x = a5 := ⟨_, rfl⟩
                obtain ⟨uc9, rfl⟩ : ∃ x, x = c5 := ⟨_, rfl⟩
                obtain ⟨va9, rfl⟩ : ∃ x, x = a6 := ⟨_, rfl⟩
                obtain ⟨vc9, rfl⟩ : ∃ x, x = c6 := ⟨_, rfl⟩
                clear hM9
                go_wp2
                go_loopw [16] (fun x w9 => ∃ k : Nat, x = .int .i64 k ∧ k ≤ M9 ∧ Below w6.heap.size w6 w9) (fun x _ => M9 - (intOf x).toNat)
                case atStart => exact ⟨0, rfl, Nat.zero_le _, Below.refl _ _⟩
                case round =>
                  obtain ⟨k, rfl, hk, hb9⟩ := hrel
                  have st9 := HP.out.1.under hb9
                  rcases Nat.lt_or_ge k M9 with hkl | hkg
                  · obtain ⟨q9, hq9⟩ : ∃ q9, L9[k]? = some q9 := ⟨L9[k]'(by have := HP.out.2.2.1; omega), by simp⟩
                    obtain ⟨g7, rfl, c70, c71⟩ := st9.ad.cell (i := k) (x := q9.1) (by simp [hq9])
                    obtain ⟨g8, A8, C8, rfl, c8, bk8⟩ := row_cell st9.row (i := k) (D := q9.2) (by simp [hq9])
                    have hrd := HP.out.2.1 q9 (List.mem_of_getElem? hq9)
                    obtain ⟨⟨qz, qb⟩, qD⟩ := q9
                    dsimp only at c70 c71 c8 bk8 hrd
                    have HRd : Hid (rdE zs9 qz qb = 0 ∧ rdB zs9 qz qb = qD) := hrd
                    have H9 : Hid (PlSt W4 O9 wr p s0 zs9 (.slice (some ⟨g7, 0, none⟩) M9 uc9) (.slice (some ⟨g8, 0, none⟩) M9 vc9) L9 ∧ BkAt (QO W4 O9) wr (.slice A8 qD.length C8) qD ∧ Below w6.heap.size w6 wr ∧ wr.cell? ⟨g8, k, none⟩ = some (.slice A8 qD.length C8)) := ⟨st9, bk8, hb9, c8⟩
                    have hk' : (k : Int) < M9 := by omega
                    have hwk : IntKind.i64.wrap ((k : Int) + 1) = (k : Int) + 1 := by have := HP.out.2.2.2; have := HX.out.2.2.2; rw [IntKind.wrap_i64]; omega
                    clear st9 bk8 hb9 hrd hq9 c8
                    go_upto_region 33 with (go_at_call 30; refine (read_of qz qb H9.out.1.dv H9.out.1.wf).mono ?_; rintro e w10 ⟨h10, rfl, bk10, b10⟩; rw [HRd.out.1]; rw [HRd.out.2] at bk10)
                    obtain ⟨xA, xC, e10⟩ := own_slice bk10.1
                    subst e10
                    have c8' : w10.cell? ⟨g8, k, none⟩ = some (.slice A8 qD.length C8) := (b10.cell (old_block H9.out.2.2.2)).trans H9.out.2.2.2
                    have HS9 : Hid (∀ V, Below w10.heap.size w10 V → Calls Try.prog 31 #[.slice xA qD.length xC, .slice A8 qD.length C8] V fun e w' => e = .returned (.bool true) ∧ w' = V) := fun V hV => sameBytes_of _ _ _ qD _ _ _ V (bk10.bin.1.below hV) ((H9.out.2.1.bin.1.below b10).below hV)
                    have HB10 : Hid (Below w6.heap.size w6 w10) := H9.out.2.2.1.trans (b10.mono H9.out.2.2.1.size)
                    clear bk10 b10 c70 c71
                    go_wp2_with (go_at_call 31; refine (HS9.out _ (Below.refl _ _)).mono ?_; rintro e w11 ⟨rfl, hw11⟩; replace hw11 := hw11.symm; subst hw11)
                    go_roundw
                    case rel => exact ⟨k + 1, by simp, by omega, HB10.out⟩
                    case measure => simp [intOf]; omega
                  · obtain rfl : k = M9 := by omega
                    have H9 : Hid (PlSt W4 O9 wr p s0 zs9 (.slice ua9 k uc9) (.slice va9 k vc9) L9) := st9
                    clear st9 hb9
                    go_wp2
                    go_roundw
                    case rel => exact ⟨i + 1, O9, zs9, L9, by simp, by omega, by have := HP.out.2.2; omega, H9.out, HP.out.2.1⟩
                    case measure => simp [intOf]; omega
              · have hE0b : (E9 == 0) = false := by simp [hE0]
                obtain ⟨L9, rfl⟩ : ∃ x, x = L := ⟨_, rfl⟩
                obtain ⟨ua9, rfl⟩ : ∃ x, x = ua := ⟨_, rfl⟩
                obtain ⟨uc9, rfl⟩ : ∃ x, x = uc := ⟨_, rfl⟩
                obtain ⟨va9, rfl⟩ : ∃ x, x = va := ⟨_, rfl⟩
                obtain ⟨vc9, rfl⟩ : ∃ x, x = vc := ⟨_, rfl⟩
                have HP : Hid (PlSt W4 O9 W9 p s0 zs9 (.slice ua9 m uc9) (.slice va9 m vc9) L9 ∧ (∀ q ∈ L9, Rd zs9 q.1 q.2) ∧ L9.length = m ∧ m ≤ i) := ⟨H4.out.1, H4.out.2.1, HI.out.2.2.1.symm, by have := HI.out.2.2; omega⟩
                clear hE0
                go_wp2
                go_loopw [16] (fun x w9 => ∃ k : Nat, x = .int .i64 k ∧ k ≤ m ∧ Below W9.heap.size W9 w9) (fun x _ => m - (intOf x).toNat)
                case atStart => exact ⟨0, rfl, Nat.zero_le _, Below.refl _ _⟩
                case round =>
                  obtain ⟨k, rfl, hk, hb9⟩ := hrel
                  have st9 := HP.out.1.under hb9
                  rcases Nat.lt_or_ge k m with hkl | hkg
                  · obtain ⟨q9, hq9⟩ : ∃ q9, L9[k]? = some q9 := ⟨L9[k]'(by have := HP.out.2.2.1; omega), by simp⟩
                    obtain ⟨g7, rfl, c70, c71⟩ := st9.ad.cell (i := k) (x := q9.1) (by simp [hq9])
                    obtain ⟨g8, A8, C8, rfl, c8, bk8⟩ := row_cell st9.row (i := k) (D := q9.2) (by simp [hq9])
                    have hrd := HP.out.2.1 q9 (List.mem_of_getElem? hq9)
                    obtain ⟨⟨qz, qb⟩, qD⟩ := q9
                    dsimp only at c70 c71 c8 bk8 hrd
                    have HRd : Hid (rdE zs9 qz qb = 0 ∧ rdB zs9 qz qb = qD) := hrd
                    have H9 : Hid (PlSt W4 O9 wr p s0 zs9 (.slice (some ⟨g7, 0, none⟩) m uc9) (.slice (some ⟨g8, 0, none⟩) m vc9) L9 ∧ BkAt (QO W4 O9) wr (.slice A8 qD.length C8) qD ∧ Below W9.heap.size W9 wr ∧ wr.cell? ⟨g8, k, none⟩ = some (.slice A8 qD.length C8)) := ⟨st9, bk8, hb9, c8⟩
                    have hk' : (k : Int) < m := by omega
                    have hwk : IntKind.i64.wrap ((k : Int) + 1) = (k : Int) + 1 := by have := HP.out.2.2.2; have := HX.out.2.2.2; rw [IntKind.wrap_i64]; omega
                    clear st9 bk8 hb9 hrd hq9 c8
                    go_upto_region 33 with (go_at_call 30; refine (read_of qz qb H9.out.1.dv H9.out.1.wf).mono ?_; rintro e w10 ⟨h10, rfl, bk10, b10⟩; rw [HRd.out.1]; rw [HRd.out.2] at bk10)
                    obtain ⟨xA, xC, e10⟩ := own_slice bk10.1
                    subst e10
                    have c8' : w10.cell? ⟨g8, k, none⟩ = some (.slice A8 qD.length C8) := (b10.cell (old_block H9.out.2.2.2)).trans H9.out.2.2.2
                    have HS9 : Hid (∀ V, Below w10.heap.size w10 V → Calls Try.prog 31 #[.slice xA qD.length xC, .slice A8 qD.length C8] V fun e w' => e = .returned (.bool true) ∧ w' = V) := fun V hV => sameBytes_of _ _ _ qD _ _ _ V (bk10.bin.1.below hV) ((H9.out.2.1.bin.1.below b10).below hV)
                    have HB10 : Hid (Below W9.heap.size W9 w10) := H9.out.2.2.1.trans (b10.mono H9.out.2.2.1.size)
                    clear bk10 b10 c70 c71
                    go_wp2_with (go_at_call 31; refine (HS9.out _ (Below.refl _ _)).mono ?_; rintro e w11 ⟨rfl, hw11⟩; replace hw11 := hw11.symm; subst hw11)
                    go_roundw
                    case rel => exact ⟨k + 1, by simp, by omega, HB10.out⟩
                    case measure => simp [intOf]; omega
                  · obtain rfl : k = m := by omega
                    have H9 : Hid (PlSt W4 O9 wr p s0 zs9 (.slice ua9 k uc9) (.slice va9 k vc9) L9) := st9
                    clear st9 hb9
                    go_wp2
                    go_roundw
                    case rel => exact ⟨i + 1, O9, zs9, L9, by simp, by omega, by have := HP.out.2.2; omega, H9.out, HP.out.2.1⟩
                    case measure => simp [intOf]; omega
          · obtain rfl : i = n1 := by omega
            have HF : Hid (Below W4.heap.size W4 wr) := st.bel
            clear st hrd
            go_wp2
            go_ret
            exact ⟨rfl, HX.out.2.1.trans (HF.out.mono HX.out.2.1.size)⟩
      · have HR : Hid (¬ RightS s0) := hr
        clear hr
        go_wp2_with (go_at_call 12; refine (new_of s0 _ HB.out.2.1).mono ?_; rintro e W5 ⟨b5, (⟨_, rfl⟩ | ⟨hno, _⟩)⟩; rotate_left; (exact (HR.out hno).elim))
        go_ret
        exact ⟨rfl, HX.out.2.1.trans (b5.mono HX.out.2.1.size)⟩
  · have hsd : decide (SmallS s0) = false := by simp [hs]
    have HS : Hid (decide (SmallS s0) = false) := hsd
    clear hs hsd
    go_wp2_with (first
      | (go_at_call 9; refine (small_of s0 _).mono ?_; rintro e W2 ⟨rfl, b2⟩; rw [HS.out])
      | (go_at_call 11; refine (known_any _).mono ?_; rintro e W4 ⟨rfl, b4⟩; have b24 := b2.trans (b4.mono b2.size)))
    go_ret
    exact ⟨rfl, HB.out.1.trans (b24.mono HB.out.1.size)⟩

set_option maxRecDepth 100000 in
theorem lifted (os : Os) (started : os.Started) (H : Type) (enc : TypeId × Value → H) :
    ReturnsInHanded {} Try.checked os 8 .any (Rows.zoneReadsSpec.pre6 enc Try.prog Try.f8 Rows.zoneReadsRow.domain false) (Rows.zoneReadsSpec.post enc Try.prog Try.f8 false true false false) := by
  refine returnsInHanded_of_change (C := Try.checked) own started (by kernel_rfl) Try.func8
    (ChangeSpec.witness6 (enc := enc) (C := Try.checked) false ⟨#[], #[.agg #[.int .i64 0, .int .i64 0, .int .i64 0, .int .i64 0], .slice none 0 0], []⟩ 8 (by kernel_rfl) (by kernel_rfl) (by kernel_rfl) (by kernel_rfl)) ?_
  intro W base args ds gs before hval0 hW hcnd _
  have hval : ∀ (j : Nat) t v, Try.f8.params[j]? = some t → args[j]? = some v → Value.okWide Try.prog W .any base t v := hval0
  have hW' := hW
  obtain ⟨p, q, hA0, hV, rfl, hfz, hnd⟩ := hW
  have hA : DataW.TrodAll enc Try.prog W 0 (fun _ => true) true Try.f8.params.toList args.toList ds p := hA0
  rw [Try.params8] at hA hval
  obtain ⟨v0, vs0, d0, ds0, p0, q0, hargs, rfl, rfl, h0, r0⟩ := trodAll_cons hA
  obtain ⟨v1, vs1, d1, ds1, p1, q1, rfl, rfl, rfl, h1, r1⟩ := trodAll_cons r0
  obtain ⟨rfl, rfl, rfl⟩ := trodAll_nil r1
  obtain rfl : args = #[v0, v1] := by cases args; simp_all
  obtain ⟨rfl, rfl⟩ := trodVars_none hV
  have k0 := h0
  have lt0 : ∀ x ∈ p0, x.block < W.heap.size := by obtain ⟨m, hm⟩ := k0; exact DataW.trod_lt m _ _ _ hm
  obtain ⟨s0, rfl, w0⟩ := open_shape (hval 0 23 v0 rfl rfl) h0
  obtain ⟨a1, n1, c1, rfl⟩ := okWide_slice Try.underlying24 (hval 1 24 v1 rfl rfl)
  have k1 := h1
  have lt1 : ∀ x ∈ p1, x.block < W.heap.size := by obtain ⟨m, hm⟩ := k1; exact DataW.trod_lt m _ _ _ hm
  obtain ⟨x1, w1⟩ := open_ops h1
  clear hA0 hval0
  refine (walk s0 a1 n1 c1 x1 W w0 w1).mono fun e W' ⟨he, bel⟩ => ?_
  subst he
  exact ⟨_, rfl, _, _, _, [], _, [], hW', trodAll_mk1 (shut_bool Try.underlying4 _), (trodAll_cons_mk (Below.trod laidOut (by kernel_rfl) (of_decide_eq_true (by kernel_rfl)) k0 bel lt0) (trodAll_cons_mk (Below.trod laidOut (by kernel_rfl) (of_decide_eq_true (by kernel_rfl)) k1 bel lt1) trodAll_mk0)), rfl, bel.frame _, fun h => by cases h⟩

theorem over : Rows.zoneReadsRow.holds Try.pinned (OpenSpec.ofChange Rows.zoneReadsSpec) :=
  OpenClaim.holds_of_wide 8 Try.f8 rfl rfl rfl rfl rfl rfl rfl ⟨rfl, rfl, rfl, rfl, rfl⟩ rfl rfl rfl rfl rfl (by kernel_rfl) Try.func8 (by kernel_rfl)
    (of_decide_eq_true (by kernel_rfl)) (by unfold Func.isWrapper; first | (rw [if_pos (by decide +kernel)]; kernel_rfl) | (rw [if_neg (by decide +kernel)]; exact ⟨rfl, rfl⟩))
    (fun os started H enc _ => lifted os started H enc)

end Go.Proofs.Ytlkpglppkpalgaa.zoneReads
namespace Go.Proofs.Ytlkpglppkpalgaa
/-- The statement. -/
theorem zoneReads_holds : Rows.ZoneReadsSaid := zoneReads.over
#print axioms zoneReads_holds
end Go.Proofs.Ytlkpglppkpalgaa
