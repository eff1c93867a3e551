/- Any calls: each answers as the chapter says; so do State, List and Low behind each. -/
import Derived.Test.YtofccgcddomcfaaRows
import Derived.Test.YtofccgcddomcfaaSgLaw
import Derived.Test.YtofccgcddomcfaaSgDN
import Derived.WalkKit
import Derived.ProofKit
import Derived.OpenShut
import Derived.ShutString
import Derived.ChangeOld
import Derived.Below
namespace Go.Proofs.Ytofccgcddomcfaa.segDoes
open Go.ChangeShapes Go.WideShapes Go.ChangeAt Go.RowKit
open Go.ChangeMaps (open_string shut_string)
set_option linter.unusedVariables false

theorem own : ownKnob Try.prog.godebug = none := by kernel_rfl
theorem laidOut : laidOutB Try.prog = true := by kernel_rfl

set_option maxRecDepth 20000 in
set_option maxHeartbeats 4000000 in
theorem walk (s0 : Sh) (a1 : Option Addr) (n1 c1 : Nat) (x1 : List Opn) (a2 : Int) (w : World) (w0 : ShF s0) (w1 : OpsIn w a1 n1 x1 ∧ OpsF x1) (w2 : (Lit.int .u8 a2).wf = true) :
    Calls Try.prog 3 #[.agg (shL s0).toArray, .slice a1 n1 c1, .int .u8 a2] w fun e w' => e = .returned (.bool true) ∧ Below w.heap.size w w' := by
  obtain ⟨hz0, hz1⟩ := w0.1
  obtain ⟨q, hq⟩ : ∃ q, q = w.heap.size := ⟨_, rfl⟩
  have hb : Blk (w.alloc (.cells #[.int .i64 s0.z, .int .i64 s0.zb, .int .i64 s0.b, .int .i64 s0.r] 23)) q (shL s0) 23 := Blk.new' hq.symm rfl
  have hbel : Below w.heap.size w (w.alloc (.cells #[.int .i64 s0.z, .int .i64 s0.zb, .int .i64 s0.b, .int .i64 s0.r] 23)) := (Below.refl _ _).alloc (Nat.le_refl _) _
  simp only [shL]
  go_enter Try.func3, Try.ntmps3
  go_upto_region 1 with fail
  rw [← hq]
  generalize hW1 : World.alloc _ _ = W1 at *
  clear hW1 hq
  have cells : ∀ {V : World}, Below W1.heap.size W1 V → V.cell? ⟨q, 0, none⟩ = some (.int .i64 s0.z) ∧ V.cell? ⟨q, 1, none⟩ = some (.int .i64 s0.zb) ∧ V.cell? ⟨q, 2, none⟩ = some (.int .i64 s0.b) ∧ V.cell? ⟨q, 3, none⟩ = some (.int .i64 s0.r) := by
    intro V hV
    have h := (below_out Non hV).blk hb id
    exact ⟨h.cell 0, h.cell 1, h.cell 2, h.cell 3⟩
  obtain ⟨e0, e1, e2, e3⟩ := cells (Below.refl _ _)
  have HC : Hid (∀ {V : World}, Below W1.heap.size W1 V → V.cell? ⟨q, 0, none⟩ = some (.int .i64 s0.z) ∧ V.cell? ⟨q, 1, none⟩ = some (.int .i64 s0.zb) ∧ V.cell? ⟨q, 2, none⟩ = some (.int .i64 s0.b) ∧ V.cell? ⟨q, 3, none⟩ = some (.int .i64 s0.r)) := cells
  have HB : Hid (Below w.heap.size w W1 ∧ F64 s0.z) := ⟨hbel, hz0, hz1⟩
  have out : ∀ {V : World}, Below W1.heap.size W1 V → Below w.heap.size w V := fun h => hbel.trans (h.mono hbel.size)
  have HO : Hid (∀ {V : World}, Below W1.heap.size W1 V → Below w.heap.size w V) := out
  clear cells out hb hbel hz0 hz1 w0
  have HXI : Hid (OpsIn w a1 n1 x1 ∧ OpsF x1) := w1
  clear w1 w2
  by_cases h3 : 300 < s0.z
  · go_wp2_with (go_at_call 7; refine (gknown_any _).mono ?_; rintro e w2 ⟨rfl, hb2⟩)
    go_ret
    exact ⟨rfl, HO.out hb2⟩
  have h3' : s0.z ≤ 300 := by omega
  clear h3
  by_cases h4 : (400 : Int) < n1
  · go_wp2_with (go_at_call 7; refine (gknown_any _).mono ?_; rintro e w2 ⟨rfl, hb2⟩)
    go_ret
    exact ⟨rfl, HO.out hb2⟩
  have h4' : (n1 : Int) ≤ 400 := by omega
  clear h4
  go_wp2_with fail
  refine (gknown_any _).mono ?_
  rintro e w2 ⟨rfl, hb2⟩
  clear e0 e1 e2 e3
  obtain ⟨e0, e1, e2, e3⟩ := HC.out hb2
  have HN := gNew_of s0 w2 HB.out.2.1
  simp only [shL] at HN
  go_wp2_with fail
  refine HN.mono ?_
  clear HN
  rintro e w3 (⟨hno, rfl, hb3⟩ | ⟨hyes, p, g, rfl, hs3, hp3, hg3, hb3⟩)
  · have hB3 : Below W1.heap.size W1 w3 := hb2.trans (hb3.mono hb2.size)
    clear e0 e1 e2 e3 hb3
    obtain ⟨e0, e1, e2, e3⟩ := HC.out hB3
    have HN := dgNew_of s0 w3 HB.out.2.1
    simp only [shL] at HN
    go_wp2_with fail
    refine HN.mono ?_
    clear HN
    rintro e w4 (⟨_, rfl, hb4⟩ | ⟨hyes, _⟩)
    · have HE : Hid (Below W1.heap.size W1 w4) := hB3.trans (hb4.mono hB3.size)
      clear hb4 hB3 e0 e1 e2 e3
      go_wp2
      go_ret
      exact ⟨rfl, HO.out HE.out⟩
    · exact absurd hyes hno
  have hB3 : Below W1.heap.size W1 w3 := hb2.trans (hb3.mono hb2.size)
  have hgB : W1.heap.size ≤ g := by have := hb2.size; omega
  have HS3 : Hid (SegP w3 p g s0.r (newZ s0.z.toNat) ∧ Below W1.heap.size W1 w3 ∧ W1.heap.size ≤ g) := ⟨hs3, hB3, hgB⟩
  clear e0 e1 e2 e3 hb3 hb2 hp3 hg3 hgB hs3
  obtain ⟨e0, e1, e2, e3⟩ := HC.out hB3
  have HN := dgNew_of s0 w3 HB.out.2.1
  simp only [shL] at HN
  clear hB3
  go_wp2_with fail
  refine HN.mono ?_
  clear HN
  rintro e w4 (⟨hno, _⟩ | ⟨_, p2, g2, c2, rfl, hr4, hp4, hg4, hb4⟩)
  · exact absurd hyes hno
  have hlt3 := HS3.out.1.lt
  have hsz3 := HS3.out.2.1.size
  have HG : Hid (W1.heap.size ≤ g ∧ W1.heap.size ≤ g2 ∧ g ≠ p2 ∧ g ≠ g2 ∧ g2 ≠ p ∧ g2 ≠ g ∧ n1 ≤ 400) := ⟨HS3.out.2.2, by omega, by omega, by omega, by omega, by omega, by omega⟩
  have HS4 : Hid (SegP w4 p g s0.r (newZ s0.z.toNat) ∧ SegR w4 p2 g2 c2 s0 (newZ s0.z.toNat) ∧ Below W1.heap.size W1 w4) := ⟨HS3.out.1.under hb4, hr4, HS3.out.2.1.trans (hb4.mono hsz3)⟩
  have nx1 : ∀ {V V' : World} {M : List Int}, SegR V p2 g2 c2 s0 M → Below W1.heap.size W1 V → Out (fun j => j = g) V V' → SegR V' p2 g2 c2 s0 M ∧ Below W1.heap.size W1 V' := fun hr h ho => ⟨hr.out ho (fun e => HG.out.2.2.1 e.symm) (fun e => HG.out.2.2.2.1 e.symm), h.trans (ho.below h.size (fun j e => by rw [e]; exact HG.out.1))⟩
  have nx2 : ∀ {V V' : World} {M : List Int}, SegP V p g s0.r M → Below W1.heap.size W1 V → Out (fun j => j = g2) V V' → SegP V' p g s0.r M ∧ Below W1.heap.size W1 V' := fun hr h ho => ⟨hr.out ho (fun e => HG.out.2.2.2.2.1 e.symm) (fun e => HG.out.2.2.2.2.2.1 e.symm), h.trans (ho.below h.size (fun j e => by rw [e]; exact HG.out.2.1))⟩
  have HX1 : Hid (∀ {V V' : World} {M : List Int}, SegR V p2 g2 c2 s0 M → Below W1.heap.size W1 V → Out (fun j => j = g) V V' → SegR V' p2 g2 c2 s0 M ∧ Below W1.heap.size W1 V') := nx1
  have HX2 : Hid (∀ {V V' : World} {M : List Int}, SegP V p g s0.r M → Below W1.heap.size W1 V → Out (fun j => j = g2) V V' → SegP V' p g s0.r M ∧ Below W1.heap.size W1 V') := nx2
  clear e0 e1 e2 e3 hp4 hg4 hr4 hb4 nx1 nx2 h3' h4' hlt3 hsz3 HS3 hyes
  go_wp2_with fail
  go_loopw [9] (fun i wr => ∃ (k : Nat) (L : List Int), i = .int .i64 k ∧ k ≤ n1 ∧ SegP wr p g s0.r L ∧ SegR wr p2 g2 c2 s0 L ∧ Below W1.heap.size W1 wr) (fun i wr => n1 - (intOf i).toNat)
  case atStart => exact ⟨0, _, rfl, Nat.zero_le _, HS4.out.1, HS4.out.2.1, HS4.out.2.2⟩
  case round =>
    obtain ⟨k, L, rfl, hk, hsk, hrk, hBk⟩ := hrel
    have HI : Hid (SegP wr p g s0.r L ∧ SegR wr p2 g2 c2 s0 L ∧ Below W1.heap.size W1 wr ∧ k ≤ n1) := ⟨hsk, hrk, hBk, hk⟩
    rcases Nat.lt_or_ge k n1 with hlt | hge
    · obtain ⟨b, off, ha1, hc⟩ := HXI.out.1.2.resolve_left (by omega)
      obtain ⟨o, ho⟩ : ∃ o, x1[k]? = some o := ⟨x1[k]'(by rw [HXI.out.1.1]; exact hlt), by simp [HXI.out.1.1, hlt]⟩
      obtain ⟨d0, d1⟩ := hc k o ho
      obtain ⟨f0, f1⟩ := HXI.out.2 o (List.mem_of_getElem? ho)
      have c0 : wr.cell? ⟨b, off + k * 2, none⟩ = some (.int .u8 o.1) := by rw [(HO.out hBk).cell (old_block d0)]; exact d0
      have c1 : wr.cell? ⟨b, off + k * 2 + 1, none⟩ = some (.int .i64 o.2) := by rw [(HO.out hBk).cell (old_block d1)]; exact d1
      obtain ⟨kd, y⟩ := o
      simp only at c0 c1 f0
      have hk0 : 0 ≤ kd := f0.1
      have htm : kd.tmod 4 = kd % 4 := Int.tmod_eq_emod_of_nonneg hk0
      have hw : IntKind.i64.wrap ((k : Int) + 1) = (k : Int) + 1 := by have := HG.out.2.2.2.2.2.2; rw [IntKind.wrap_i64]; omega
      have hlt' : (k : Int) < n1 := by omega
      have HK : Hid (k < n1) := hlt
      clear hsk hrk hBk hk hc d0 d1 f0 f1 ho hlt
      subst ha1
      rcases (show kd % 4 = 0 ∨ kd % 4 = 1 ∨ kd % 4 = 2 ∨ kd % 4 = 3 by omega) with h4 | h4 | h4 | h4
      · have htt : kd.tmod 4 = 0 := by rw [htm]; exact h4
        clear h4 htm
        have HT := gTake_of p g s0.r L wr HI.out.1
        obtain ⟨D, hD⟩ : ∃ D, D = takeB L := ⟨_, rfl⟩
        obtain ⟨Y, hY⟩ : ∃ Y, Y = takeI L := ⟨_, rfl⟩
        have HD : Hid (D = takeB L ∧ Y = takeI L) := ⟨hD, hY⟩
        clear hD hY
        go_wp2_with fail
        refine HT.mono ?_
        clear HT
        rintro e w4 ⟨rfl, hs4, ho4⟩
        rw [← HD.out.1, ← HD.out.2]
        obtain ⟨hr4, hB4⟩ := HX1.out HI.out.2.1 HI.out.2.2.1 ho4
        have HT := dgTake_of p2 g2 c2 s0 L w4 hr4
        have HS4 : Hid (SegP w4 p g s0.r (takeZ L) ∧ Below W1.heap.size W1 w4) := ⟨hs4, hB4⟩
        clear hs4 ho4 hr4 hB4
        go_wp2_with fail
        refine HT.mono ?_
        clear HT
        rintro e w5 ⟨rfl, hr5, ho5⟩
        rw [← HD.out.1, ← HD.out.2]
        obtain ⟨hs5, hB5⟩ := HX2.out HS4.out.1 HS4.out.2 ho5
        have HS : Hid (SegP w5 p g s0.r (takeZ L) ∧ SegR w5 p2 g2 c2 s0 (takeZ L) ∧ Below W1.heap.size W1 w5) := ⟨hs5, hr5, hB5⟩
        clear hs5 ho5 hr5 hB5 HS4 HD
        obtain ⟨M, hM⟩ : ∃ M, M = takeZ L := ⟨_, rfl⟩
        rw [← hM] at HS
        clear hM
        have HT := gState_of p g s0.r M (Y) w5 HS.out.1
        obtain ⟨T, hT⟩ : ∃ T, T = stZ M (Y) := ⟨_, rfl⟩
        have HT2 := dgState_of p2 g2 c2 s0 M (Y) w5 HS.out.2.1
        rw [← hT] at HT HT2
        clear hT
        go_wp2_with fail
        refine HT.mono ?_
        clear HT
        rintro e w10 ⟨rfl, hww⟩
        replace hww := hww.symm
        subst hww
        go_wp2_with fail
        refine HT2.mono ?_
        clear HT2
        rintro e w11 ⟨rfl, hww⟩
        replace hww := hww.symm
        subst hww
        have HT := gLow_of p g s0.r M w5 HS.out.1
        obtain ⟨B, hB⟩ : ∃ B, B = lowB M s0.r := ⟨_, rfl⟩
        rw [← hB] at HT
        have HBB : Hid (B = lowB M s0.r) := hB
        clear hB
        go_wp2_with fail
        refine HT.mono ?_
        clear HT
        rintro e w12 ⟨rfl, hb12⟩
        have HS12 : Hid (SegP w12 p g s0.r M ∧ SegR w12 p2 g2 c2 s0 M ∧ Below W1.heap.size W1 w12) := ⟨HS.out.1.under hb12, HS.out.2.1.under hb12, HS.out.2.2.trans (hb12.mono HS.out.2.2.size)⟩
        clear hb12
        have HT := dgLow_of p2 g2 c2 s0 M w12 HS12.out.2.1
        rw [← HBB.out] at HT
        go_wp2_with fail
        refine HT.mono ?_
        clear HT
        rintro e w13 ⟨rfl, hb13⟩
        have HS13 : Hid (SegP w13 p g s0.r M ∧ SegR w13 p2 g2 c2 s0 M ∧ Below W1.heap.size W1 w13) := ⟨HS12.out.1.under hb13, HS12.out.2.1.under hb13, HS12.out.2.2.trans (hb13.mono HS12.out.2.2.size)⟩
        clear hb13 HS12 HBB
        have HT := gList_of p g s0.r M a2 w13 HS13.out.1
        go_wp2_with fail
        refine HT.mono ?_
        clear HT
        rintro e w14 ⟨A14, c14, rfl, ow14, hb14⟩
        have HS14 : Hid (SegP w14 p g s0.r M ∧ SegR w14 p2 g2 c2 s0 M ∧ Below W1.heap.size W1 w14) := ⟨HS13.out.1.under hb14, HS13.out.2.1.under hb14, HS13.out.2.2.trans (hb14.mono HS13.out.2.2.size)⟩
        have hll : (listZ M a2).length ≤ maxLen := by have := listTo_length M a2 M.length; have := HS.out.1.len.2; unfold listZ maxLen; omega
        have hlf : ∀ z ∈ listZ M a2, (Lit.int .i64 z).wf = true := fun z hz => by
          obtain ⟨i, h1, _, rfl⟩ := listTo_mem.1 hz
          exact wfI (by have := HS.out.1.len.2; unfold F63; omega)
        have n14 := own_nin ow14 hll hlf
        have HN14 : Hid (NIn .i64 w14 A14 (listZ M a2).length (listZ M a2)) := n14
        clear hb14 HS13 ow14 n14
        have HT := dgList_of p2 g2 c2 s0 M a2 w14 HS14.out.2.1
        go_wp2_with fail
        refine HT.mono ?_
        clear HT
        rintro e w15 ⟨A15, c15, rfl, ow15, hb15⟩
        have HS15 : Hid (SegP w15 p g s0.r M ∧ SegR w15 p2 g2 c2 s0 M ∧ Below W1.heap.size W1 w15) := ⟨HS14.out.1.under hb15, HS14.out.2.1.under hb15, HS14.out.2.2.trans (hb15.mono HS14.out.2.2.size)⟩
        have HT := sameInts_of A14 A15 (listZ M a2).length c14 c15 (listZ M a2) w15 (HN14.out.below hb15) (own_nin ow15 hll hlf)
        clear hb15 HS14 ow15 hll hlf HN14
        go_wp2_with fail
        refine HT.mono ?_
        clear HT
        rintro e w16 ⟨rfl, hb16⟩
        have HS16 : Hid (SegP w16 p g s0.r M ∧ SegR w16 p2 g2 c2 s0 M ∧ Below W1.heap.size W1 w16) := ⟨HS15.out.1.under hb16, HS15.out.2.1.under hb16, HS15.out.2.2.trans (hb16.mono HS15.out.2.2.size)⟩
        clear hb16 HS15
        go_wp2
        go_roundw
        case rel => exact ⟨k + 1, M, by simp, by have := HK.out; omega, HS16.out.1, HS16.out.2.1, HS16.out.2.2⟩
        case measure => have := HK.out; simp [intOf]; omega
      · have htt : kd.tmod 4 = 1 := by rw [htm]; exact h4
        clear h4 htm
        have HT := gFill_of p g s0.r L y wr HI.out.1
        obtain ⟨D, hD⟩ : ∃ D, D = decide (stZ L y = 2) := ⟨_, rfl⟩
        have HD : Hid (D = decide (stZ L y = 2)) := hD
        clear hD
        go_wp2_with fail
        refine HT.mono ?_
        clear HT
        rintro e w4 ⟨rfl, hs4, ho4⟩
        rw [← HD.out]
        obtain ⟨hr4, hB4⟩ := HX1.out HI.out.2.1 HI.out.2.2.1 ho4
        have HT := dgFill_of p2 g2 c2 s0 L y w4 hr4
        have HS4 : Hid (SegP w4 p g s0.r (turnZ L y 2 3) ∧ Below W1.heap.size W1 w4) := ⟨hs4, hB4⟩
        clear hs4 ho4 hr4 hB4
        go_wp2_with fail
        refine HT.mono ?_
        clear HT
        rintro e w5 ⟨rfl, hr5, ho5⟩
        rw [← HD.out]
        obtain ⟨hs5, hB5⟩ := HX2.out HS4.out.1 HS4.out.2 ho5
        have HS : Hid (SegP w5 p g s0.r (turnZ L y 2 3) ∧ SegR w5 p2 g2 c2 s0 (turnZ L y 2 3) ∧ Below W1.heap.size W1 w5) := ⟨hs5, hr5, hB5⟩
        clear hs5 ho5 hr5 hB5 HS4 HD
        obtain ⟨M, hM⟩ : ∃ M, M = turnZ L y 2 3 := ⟨_, rfl⟩
        rw [← hM] at HS
        clear hM
        have HT := gState_of p g s0.r M (y) w5 HS.out.1
        obtain ⟨T, hT⟩ : ∃ T, T = stZ M (y) := ⟨_, rfl⟩
        have HT2 := dgState_of p2 g2 c2 s0 M (y) w5 HS.out.2.1
        rw [← hT] at HT HT2
        clear hT
        go_wp2_with fail
        refine HT.mono ?_
        clear HT
        rintro e w10 ⟨rfl, hww⟩
        replace hww := hww.symm
        subst hww
        go_wp2_with fail
        refine HT2.mono ?_
        clear HT2
        rintro e w11 ⟨rfl, hww⟩
        replace hww := hww.symm
        subst hww
        have HT := gLow_of p g s0.r M w5 HS.out.1
        obtain ⟨B, hB⟩ : ∃ B, B = lowB M s0.r := ⟨_, rfl⟩
        rw [← hB] at HT
        have HBB : Hid (B = lowB M s0.r) := hB
        clear hB
        go_wp2_with fail
        refine HT.mono ?_
        clear HT
        rintro e w12 ⟨rfl, hb12⟩
        have HS12 : Hid (SegP w12 p g s0.r M ∧ SegR w12 p2 g2 c2 s0 M ∧ Below W1.heap.size W1 w12) := ⟨HS.out.1.under hb12, HS.out.2.1.under hb12, HS.out.2.2.trans (hb12.mono HS.out.2.2.size)⟩
        clear hb12
        have HT := dgLow_of p2 g2 c2 s0 M w12 HS12.out.2.1
        rw [← HBB.out] at HT
        go_wp2_with fail
        refine HT.mono ?_
        clear HT
        rintro e w13 ⟨rfl, hb13⟩
        have HS13 : Hid (SegP w13 p g s0.r M ∧ SegR w13 p2 g2 c2 s0 M ∧ Below W1.heap.size W1 w13) := ⟨HS12.out.1.under hb13, HS12.out.2.1.under hb13, HS12.out.2.2.trans (hb13.mono HS12.out.2.2.size)⟩
        clear hb13 HS12 HBB
        have HT := gList_of p g s0.r M a2 w13 HS13.out.1
        go_wp2_with fail
        refine HT.mono ?_
        clear HT
        rintro e w14 ⟨A14, c14, rfl, ow14, hb14⟩
        have HS14 : Hid (SegP w14 p g s0.r M ∧ SegR w14 p2 g2 c2 s0 M ∧ Below W1.heap.size W1 w14) := ⟨HS13.out.1.under hb14, HS13.out.2.1.under hb14, HS13.out.2.2.trans (hb14.mono HS13.out.2.2.size)⟩
        have hll : (listZ M a2).length ≤ maxLen := by have := listTo_length M a2 M.length; have := HS.out.1.len.2; unfold listZ maxLen; omega
        have hlf : ∀ z ∈ listZ M a2, (Lit.int .i64 z).wf = true := fun z hz => by
          obtain ⟨i, h1, _, rfl⟩ := listTo_mem.1 hz
          exact wfI (by have := HS.out.1.len.2; unfold F63; omega)
        have n14 := own_nin ow14 hll hlf
        have HN14 : Hid (NIn .i64 w14 A14 (listZ M a2).length (listZ M a2)) := n14
        clear hb14 HS13 ow14 n14
        have HT := dgList_of p2 g2 c2 s0 M a2 w14 HS14.out.2.1
        go_wp2_with fail
        refine HT.mono ?_
        clear HT
        rintro e w15 ⟨A15, c15, rfl, ow15, hb15⟩
        have HS15 : Hid (SegP w15 p g s0.r M ∧ SegR w15 p2 g2 c2 s0 M ∧ Below W1.heap.size W1 w15) := ⟨HS14.out.1.under hb15, HS14.out.2.1.under hb15, HS14.out.2.2.trans (hb15.mono HS14.out.2.2.size)⟩
        have HT := sameInts_of A14 A15 (listZ M a2).length c14 c15 (listZ M a2) w15 (HN14.out.below hb15) (own_nin ow15 hll hlf)
        clear hb15 HS14 ow15 hll hlf HN14
        go_wp2_with fail
        refine HT.mono ?_
        clear HT
        rintro e w16 ⟨rfl, hb16⟩
        have HS16 : Hid (SegP w16 p g s0.r M ∧ SegR w16 p2 g2 c2 s0 M ∧ Below W1.heap.size W1 w16) := ⟨HS15.out.1.under hb16, HS15.out.2.1.under hb16, HS15.out.2.2.trans (hb16.mono HS15.out.2.2.size)⟩
        clear hb16 HS15
        go_wp2
        go_roundw
        case rel => exact ⟨k + 1, M, by simp, by have := HK.out; omega, HS16.out.1, HS16.out.2.1, HS16.out.2.2⟩
        case measure => have := HK.out; simp [intOf]; omega
      · have htt : kd.tmod 4 = 2 := by rw [htm]; exact h4
        clear h4 htm
        have HT := gClear_of p g s0.r L y wr HI.out.1
        obtain ⟨D, hD⟩ : ∃ D, D = decide (stZ L y = 3) := ⟨_, rfl⟩
        have HD : Hid (D = decide (stZ L y = 3)) := hD
        clear hD
        go_wp2_with fail
        refine HT.mono ?_
        clear HT
        rintro e w4 ⟨rfl, hs4, ho4⟩
        rw [← HD.out]
        obtain ⟨hr4, hB4⟩ := HX1.out HI.out.2.1 HI.out.2.2.1 ho4
        have HT := dgClear_of p2 g2 c2 s0 L y w4 hr4
        have HS4 : Hid (SegP w4 p g s0.r (turnZ L y 3 1) ∧ Below W1.heap.size W1 w4) := ⟨hs4, hB4⟩
        clear hs4 ho4 hr4 hB4
        go_wp2_with fail
        refine HT.mono ?_
        clear HT
        rintro e w5 ⟨rfl, hr5, ho5⟩
        rw [← HD.out]
        obtain ⟨hs5, hB5⟩ := HX2.out HS4.out.1 HS4.out.2 ho5
        have HS : Hid (SegP w5 p g s0.r (turnZ L y 3 1) ∧ SegR w5 p2 g2 c2 s0 (turnZ L y 3 1) ∧ Below W1.heap.size W1 w5) := ⟨hs5, hr5, hB5⟩
        clear hs5 ho5 hr5 hB5 HS4 HD
        obtain ⟨M, hM⟩ : ∃ M, M = turnZ L y 3 1 := ⟨_, rfl⟩
        rw [← hM] at HS
        clear hM
        have HT := gState_of p g s0.r M (y) w5 HS.out.1
        obtain ⟨T, hT⟩ : ∃ T, T = stZ M (y) := ⟨_, rfl⟩
        have HT2 := dgState_of p2 g2 c2 s0 M (y) w5 HS.out.2.1
        rw [← hT] at HT HT2
        clear hT
        go_wp2_with fail
        refine HT.mono ?_
        clear HT
        rintro e w10 ⟨rfl, hww⟩
        replace hww := hww.symm
        subst hww
        go_wp2_with fail
        refine HT2.mono ?_
        clear HT2
        rintro e w11 ⟨rfl, hww⟩
        replace hww := hww.symm
        subst hww
        have HT := gLow_of p g s0.r M w5 HS.out.1
        obtain ⟨B, hB⟩ : ∃ B, B = lowB M s0.r := ⟨_, rfl⟩
        rw [← hB] at HT
        have HBB : Hid (B = lowB M s0.r) := hB
        clear hB
        go_wp2_with fail
        refine HT.mono ?_
        clear HT
        rintro e w12 ⟨rfl, hb12⟩
        have HS12 : Hid (SegP w12 p g s0.r M ∧ SegR w12 p2 g2 c2 s0 M ∧ Below W1.heap.size W1 w12) := ⟨HS.out.1.under hb12, HS.out.2.1.under hb12, HS.out.2.2.trans (hb12.mono HS.out.2.2.size)⟩
        clear hb12
        have HT := dgLow_of p2 g2 c2 s0 M w12 HS12.out.2.1
        rw [← HBB.out] at HT
        go_wp2_with fail
        refine HT.mono ?_
        clear HT
        rintro e w13 ⟨rfl, hb13⟩
        have HS13 : Hid (SegP w13 p g s0.r M ∧ SegR w13 p2 g2 c2 s0 M ∧ Below W1.heap.size W1 w13) := ⟨HS12.out.1.under hb13, HS12.out.2.1.under hb13, HS12.out.2.2.trans (hb13.mono HS12.out.2.2.size)⟩
        clear hb13 HS12 HBB
        have HT := gList_of p g s0.r M a2 w13 HS13.out.1
        go_wp2_with fail
        refine HT.mono ?_
        clear HT
        rintro e w14 ⟨A14, c14, rfl, ow14, hb14⟩
        have HS14 : Hid (SegP w14 p g s0.r M ∧ SegR w14 p2 g2 c2 s0 M ∧ Below W1.heap.size W1 w14) := ⟨HS13.out.1.under hb14, HS13.out.2.1.under hb14, HS13.out.2.2.trans (hb14.mono HS13.out.2.2.size)⟩
        have hll : (listZ M a2).length ≤ maxLen := by have := listTo_length M a2 M.length; have := HS.out.1.len.2; unfold listZ maxLen; omega
        have hlf : ∀ z ∈ listZ M a2, (Lit.int .i64 z).wf = true := fun z hz => by
          obtain ⟨i, h1, _, rfl⟩ := listTo_mem.1 hz
          exact wfI (by have := HS.out.1.len.2; unfold F63; omega)
        have n14 := own_nin ow14 hll hlf
        have HN14 : Hid (NIn .i64 w14 A14 (listZ M a2).length (listZ M a2)) := n14
        clear hb14 HS13 ow14 n14
        have HT := dgList_of p2 g2 c2 s0 M a2 w14 HS14.out.2.1
        go_wp2_with fail
        refine HT.mono ?_
        clear HT
        rintro e w15 ⟨A15, c15, rfl, ow15, hb15⟩
        have HS15 : Hid (SegP w15 p g s0.r M ∧ SegR w15 p2 g2 c2 s0 M ∧ Below W1.heap.size W1 w15) := ⟨HS14.out.1.under hb15, HS14.out.2.1.under hb15, HS14.out.2.2.trans (hb15.mono HS14.out.2.2.size)⟩
        have HT := sameInts_of A14 A15 (listZ M a2).length c14 c15 (listZ M a2) w15 (HN14.out.below hb15) (own_nin ow15 hll hlf)
        clear hb15 HS14 ow15 hll hlf HN14
        go_wp2_with fail
        refine HT.mono ?_
        clear HT
        rintro e w16 ⟨rfl, hb16⟩
        have HS16 : Hid (SegP w16 p g s0.r M ∧ SegR w16 p2 g2 c2 s0 M ∧ Below W1.heap.size W1 w16) := ⟨HS15.out.1.under hb16, HS15.out.2.1.under hb16, HS15.out.2.2.trans (hb16.mono HS15.out.2.2.size)⟩
        clear hb16 HS15
        go_wp2
        go_roundw
        case rel => exact ⟨k + 1, M, by simp, by have := HK.out; omega, HS16.out.1, HS16.out.2.1, HS16.out.2.2⟩
        case measure => have := HK.out; simp [intOf]; omega
      · have htt : kd.tmod 4 = 3 := by rw [htm]; exact h4
        clear h4 htm
        have HT := gFound_of p g s0.r L y wr HI.out.1
        obtain ⟨D, hD⟩ : ∃ D, D = decide (stZ L y = 1) := ⟨_, rfl⟩
        have HD : Hid (D = decide (stZ L y = 1)) := hD
        clear hD
        go_wp2_with fail
        refine HT.mono ?_
        clear HT
        rintro e w4 ⟨rfl, hs4, ho4⟩
        rw [← HD.out]
        obtain ⟨hr4, hB4⟩ := HX1.out HI.out.2.1 HI.out.2.2.1 ho4
        have HT := dgFound_of p2 g2 c2 s0 L y w4 hr4
        have HS4 : Hid (SegP w4 p g s0.r (turnZ L y 1 3) ∧ Below W1.heap.size W1 w4) := ⟨hs4, hB4⟩
        clear hs4 ho4 hr4 hB4
        go_wp2_with fail
        refine HT.mono ?_
        clear HT
        rintro e w5 ⟨rfl, hr5, ho5⟩
        rw [← HD.out]
        obtain ⟨hs5, hB5⟩ := HX2.out HS4.out.1 HS4.out.2 ho5
        have HS : Hid (SegP w5 p g s0.r (turnZ L y 1 3) ∧ SegR w5 p2 g2 c2 s0 (turnZ L y 1 3) ∧ Below W1.heap.size W1 w5) := ⟨hs5, hr5, hB5⟩
        clear hs5 ho5 hr5 hB5 HS4 HD
        obtain ⟨M, hM⟩ : ∃ M, M = turnZ L y 1 3 := ⟨_, rfl⟩
        rw [← hM] at HS
        clear hM
        have HT := gState_of p g s0.r M (y) w5 HS.out.1
        obtain ⟨T, hT⟩ : ∃ T, T = stZ M (y) := ⟨_, rfl⟩
        have HT2 := dgState_of p2 g2 c2 s0 M (y) w5 HS.out.2.1
        rw [← hT] at HT HT2
        clear hT
        go_wp2_with fail
        refine HT.mono ?_
        clear HT
        rintro e w10 ⟨rfl, hww⟩
        replace hww := hww.symm
        subst hww
        go_wp2_with fail
        refine HT2.mono ?_
        clear HT2
        rintro e w11 ⟨rfl, hww⟩
        replace hww := hww.symm
        subst hww
        have HT := gLow_of p g s0.r M w5 HS.out.1
        obtain ⟨B, hB⟩ : ∃ B, B = lowB M s0.r := ⟨_, rfl⟩
        rw [← hB] at HT
        have HBB : Hid (B = lowB M s0.r) := hB
        clear hB
        go_wp2_with fail
        refine HT.mono ?_
        clear HT
        rintro e w12 ⟨rfl, hb12⟩
        have HS12 : Hid (SegP w12 p g s0.r M ∧ SegR w12 p2 g2 c2 s0 M ∧ Below W1.heap.size W1 w12) := ⟨HS.out.1.under hb12, HS.out.2.1.under hb12, HS.out.2.2.trans (hb12.mono HS.out.2.2.size)⟩
        clear hb12
        have HT := dgLow_of p2 g2 c2 s0 M w12 HS12.out.2.1
        rw [← HBB.out] at HT
        go_wp2_with fail
        refine HT.mono ?_
        clear HT
        rintro e w13 ⟨rfl, hb13⟩
        have HS13 : Hid (SegP w13 p g s0.r M ∧ SegR w13 p2 g2 c2 s0 M ∧ Below W1.heap.size W1 w13) := ⟨HS12.out.1.under hb13, HS12.out.2.1.under hb13, HS12.out.2.2.trans (hb13.mono HS12.out.2.2.size)⟩
        clear hb13 HS12 HBB
        have HT := gList_of p g s0.r M a2 w13 HS13.out.1
        go_wp2_with fail
        refine HT.mono ?_
        clear HT
        rintro e w14 ⟨A14, c14, rfl, ow14, hb14⟩
        have HS14 : Hid (SegP w14 p g s0.r M ∧ SegR w14 p2 g2 c2 s0 M ∧ Below W1.heap.size W1 w14) := ⟨HS13.out.1.under hb14, HS13.out.2.1.under hb14, HS13.out.2.2.trans (hb14.mono HS13.out.2.2.size)⟩
        have hll : (listZ M a2).length ≤ maxLen := by have := listTo_length M a2 M.length; have := HS.out.1.len.2; unfold listZ maxLen; omega
        have hlf : ∀ z ∈ listZ M a2, (Lit.int .i64 z).wf = true := fun z hz => by
          obtain ⟨i, h1, _, rfl⟩ := listTo_mem.1 hz
          exact wfI (by have := HS.out.1.len.2; unfold F63; omega)
        have n14 := own_nin ow14 hll hlf
        have HN14 : Hid (NIn .i64 w14 A14 (listZ M a2).length (listZ M a2)) := n14
        clear hb14 HS13 ow14 n14
        have HT := dgList_of p2 g2 c2 s0 M a2 w14 HS14.out.2.1
        go_wp2_with fail
        refine HT.mono ?_
        clear HT
        rintro e w15 ⟨A15, c15, rfl, ow15, hb15⟩
        have HS15 : Hid (SegP w15 p g s0.r M ∧ SegR w15 p2 g2 c2 s0 M ∧ Below W1.heap.size W1 w15) := ⟨HS14.out.1.under hb15, HS14.out.2.1.under hb15, HS14.out.2.2.trans (hb15.mono HS14.out.2.2.size)⟩
        have HT := sameInts_of A14 A15 (listZ M a2).length c14 c15 (listZ M a2) w15 (HN14.out.below hb15) (own_nin ow15 hll hlf)
        clear hb15 HS14 ow15 hll hlf HN14
        go_wp2_with fail
        refine HT.mono ?_
        clear HT
        rintro e w16 ⟨rfl, hb16⟩
        have HS16 : Hid (SegP w16 p g s0.r M ∧ SegR w16 p2 g2 c2 s0 M ∧ Below W1.heap.size W1 w16) := ⟨HS15.out.1.under hb16, HS15.out.2.1.under hb16, HS15.out.2.2.trans (hb16.mono HS15.out.2.2.size)⟩
        clear hb16 HS15
        go_wp2
        go_roundw
        case rel => exact ⟨k + 1, M, by simp, by have := HK.out; omega, HS16.out.1, HS16.out.2.1, HS16.out.2.2⟩
        case measure => have := HK.out; simp [intOf]; omega
    · have hge' : ¬ (k : Int) < n1 := by omega
      clear hsk hrk hBk hk hge
      go_wp2
      go_ret
      exact ⟨rfl, HO.out HI.out.2.2.1⟩

set_option maxRecDepth 100000 in
theorem lifted (os : Os) (started : os.Started) (H : Type) (enc : TypeId × Value → H) :
    ReturnsInHanded {} Try.checked os 3 .any (Rows.segDoesSpec.pre6 enc Try.prog Try.f3 Rows.segDoesRow.domain false) (Rows.segDoesSpec.post enc Try.prog Try.f3 false true false false) := by
  refine returnsInHanded_of_change (C := Try.checked) own started (by kernel_rfl) Try.func3
    (ChangeSpec.witness6 (enc := enc) (C := Try.checked) false ⟨#[], #[.agg #[.int .i64 0, .int .i64 0, .int .i64 0, .int .i64 0], .slice none 0 0, .int .u8 0], []⟩ 8 (by kernel_rfl) (by kernel_rfl) (by kernel_rfl) (by kernel_rfl)) ?_
  intro W base args ds gs before hval0 hW hcnd _
  have hval : ∀ (j : Nat) t v, Try.f3.params[j]? = some t → args[j]? = some v → Value.okWide Try.prog W .any base t v := hval0
  have hW' := hW
  obtain ⟨p, q, hA0, hV, rfl, hfz, hnd⟩ := hW
  have hA : DataW.TrodAll enc Try.prog W 0 (fun _ => true) true Try.f3.params.toList args.toList ds p := hA0
  rw [Try.params3] at hA hval
  obtain ⟨v0, vs0, d0, ds0, p0, q0, hargs, rfl, rfl, h0, r0⟩ := trodAll_cons hA
  obtain ⟨v1, vs1, d1, ds1, p1, q1, rfl, rfl, rfl, h1, r1⟩ := trodAll_cons r0
  obtain ⟨v2, vs2, d2, ds2, p2, q2, rfl, rfl, rfl, h2, r2⟩ := trodAll_cons r1
  obtain ⟨rfl, rfl, rfl⟩ := trodAll_nil r2
  obtain rfl : args = #[v0, v1, v2] := by cases args; simp_all
  obtain ⟨rfl, rfl⟩ := trodVars_none hV
  have k0 := h0
  have lt0 : ∀ x ∈ p0, x.block < W.heap.size := by obtain ⟨m, hm⟩ := k0; exact DataW.trod_lt m _ _ _ hm
  obtain ⟨s0, rfl, w0⟩ := open_shape (hval 0 23 v0 rfl rfl) h0
  obtain ⟨a1, n1, c1, rfl⟩ := okWide_slice Try.underlying24 (hval 1 24 v1 rfl rfl)
  have k1 := h1
  have lt1 : ∀ x ∈ p1, x.block < W.heap.size := by obtain ⟨m, hm⟩ := k1; exact DataW.trod_lt m _ _ _ hm
  obtain ⟨x1, w1⟩ := open_ops h1
  obtain ⟨a2, rfl, rfl, rfl, w2⟩ := open_int Try.underlying5 (hval 2 5 v2 rfl rfl) h2
  clear hA0 hval0
  refine (walk s0 a1 n1 c1 x1 a2 W w0 w1 w2).mono fun e W' ⟨he, bel⟩ => ?_
  subst he
  exact ⟨_, rfl, _, _, _, [], _, [], hW', trodAll_mk1 (shut_bool Try.underlying4 _), (trodAll_cons_mk (Below.trod laidOut (by kernel_rfl) (of_decide_eq_true (by kernel_rfl)) k0 bel lt0) (trodAll_cons_mk (Below.trod laidOut (by kernel_rfl) (of_decide_eq_true (by kernel_rfl)) k1 bel lt1) (trodAll_cons_mk (shut_int Try.underlying5 w2) trodAll_mk0))), rfl, bel.frame _, fun h => by cases h⟩

theorem over : Rows.segDoesRow.holds Try.pinned (OpenSpec.ofChange Rows.segDoesSpec) :=
  OpenClaim.holds_of_wide 3 Try.f3 rfl rfl rfl rfl rfl rfl rfl ⟨rfl, rfl, rfl, rfl, rfl⟩ rfl rfl rfl rfl rfl (by kernel_rfl) Try.func3 (by kernel_rfl)
    (of_decide_eq_true (by kernel_rfl)) (by unfold Func.isWrapper; first | (rw [if_pos (by decide +kernel)]; kernel_rfl) | (rw [if_neg (by decide +kernel)]; exact ⟨rfl, rfl⟩))
    (fun os started H enc _ => lifted os started H enc)

end Go.Proofs.Ytofccgcddomcfaa.segDoes
namespace Go.Proofs.Ytofccgcddomcfaa
/-- The statement. -/
theorem segDoes_holds : Rows.SegDoesSaid := segDoes.over
#print axioms segDoes_holds
end Go.Proofs.Ytofccgcddomcfaa
