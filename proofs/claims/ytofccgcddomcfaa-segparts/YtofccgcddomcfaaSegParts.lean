/- Each zone has just one state, those for checkpoints keep theirs; what is opened was the lowest free one. -/
import Derived.Test.YtofccgcddomcfaaRows
import Derived.Test.YtofccgcddomcfaaSgPt
import Derived.WalkKit
import Derived.ProofKit
import Derived.OpenShut
import Derived.ShutString
import Derived.ChangeOld
import Derived.Below
namespace Go.Proofs.Ytofccgcddomcfaa.segParts
open Go.ChangeShapes Go.WideShapes Go.ChangeAt Go.RowKit
open Go.ChangeMaps (open_string shut_string)
set_option linter.unusedVariables false

theorem own : ownKnob Try.prog.godebug = none := by kernel_rfl
theorem laidOut : laidOutB Try.prog = true := by kernel_rfl

set_option maxRecDepth 20000 in
set_option maxHeartbeats 4000000 in
theorem walk (s0 : Sh) (a1 : Option Addr) (n1 c1 : Nat) (x1 : List Opn) (w : World) (w0 : ShF s0) (w1 : OpsIn w a1 n1 x1 ∧ OpsF x1) :
    Calls Try.prog 4 #[.agg (shL s0).toArray, .slice a1 n1 c1] w fun e w' => e = .returned (.bool true) ∧ Below w.heap.size w w' := by
  obtain ⟨hz0, hz1⟩ := w0.1
  obtain ⟨q, hq⟩ : ∃ q, q = w.heap.size := ⟨_, rfl⟩
  have hb : Blk (w.alloc (.cells #[.int .i64 s0.z, .int .i64 s0.zb, .int .i64 s0.b, .int .i64 s0.r] 23)) q (shL s0) 23 := Blk.new' hq.symm rfl
  have hbel : Below w.heap.size w (w.alloc (.cells #[.int .i64 s0.z, .int .i64 s0.zb, .int .i64 s0.b, .int .i64 s0.r] 23)) := (Below.refl _ _).alloc (Nat.le_refl _) _
  simp only [shL]
  go_enter Try.func4, Try.ntmps4
  go_upto_region 1 with fail
  rw [← hq]
  generalize hW1 : World.alloc _ _ = W1 at *
  clear hW1 hq
  have cells : ∀ {V : World}, Below W1.heap.size W1 V → V.cell? ⟨q, 0, none⟩ = some (.int .i64 s0.z) ∧ V.cell? ⟨q, 1, none⟩ = some (.int .i64 s0.zb) ∧ V.cell? ⟨q, 2, none⟩ = some (.int .i64 s0.b) ∧ V.cell? ⟨q, 3, none⟩ = some (.int .i64 s0.r) := by
    intro V hV
    have h := (below_out Non hV).blk hb id
    exact ⟨h.cell 0, h.cell 1, h.cell 2, h.cell 3⟩
  obtain ⟨e0, e1, e2, e3⟩ := cells (Below.refl _ _)
  have HC : Hid (∀ {V : World}, Below W1.heap.size W1 V → V.cell? ⟨q, 0, none⟩ = some (.int .i64 s0.z) ∧ V.cell? ⟨q, 1, none⟩ = some (.int .i64 s0.zb) ∧ V.cell? ⟨q, 2, none⟩ = some (.int .i64 s0.b) ∧ V.cell? ⟨q, 3, none⟩ = some (.int .i64 s0.r)) := cells
  have HB : Hid (Below w.heap.size w W1 ∧ F64 s0.z) := ⟨hbel, hz0, hz1⟩
  have out : ∀ {V : World}, Below W1.heap.size W1 V → Below w.heap.size w V := fun h => hbel.trans (h.mono hbel.size)
  have HO : Hid (∀ {V : World}, Below W1.heap.size W1 V → Below w.heap.size w V) := out
  clear cells out hb hbel hz0 hz1 w0
  have HXI : Hid (OpsIn w a1 n1 x1 ∧ OpsF x1) := w1
  clear w1
  by_cases h3 : 300 < s0.z
  · go_wp2_with (go_at_call 7; refine (gknown_any _).mono ?_; rintro e w2 ⟨rfl, hb2⟩)
    go_ret
    exact ⟨rfl, HO.out hb2⟩
  have h3' : s0.z ≤ 300 := by omega
  clear h3
  by_cases h4 : (400 : Int) < n1
  · go_wp2_with (go_at_call 7; refine (gknown_any _).mono ?_; rintro e w2 ⟨rfl, hb2⟩)
    go_ret
    exact ⟨rfl, HO.out hb2⟩
  have h4' : (n1 : Int) ≤ 400 := by omega
  clear h4
  go_wp2_with fail
  refine (gknown_any _).mono ?_
  rintro e w2 ⟨rfl, hb2⟩
  clear e0 e1 e2 e3
  obtain ⟨e0, e1, e2, e3⟩ := HC.out hb2
  have HN := gNew_of s0 w2 HB.out.2.1
  simp only [shL] at HN
  go_wp2_with fail
  refine HN.mono ?_
  clear HN
  rintro e w3 (⟨hno, rfl, hb3⟩ | ⟨hyes, p, g, rfl, hs3, hp3, hg3, hb3⟩)
  · go_wp2
    go_ret
    exact ⟨rfl, HO.out (hb2.trans (hb3.mono hb2.size))⟩
  obtain ⟨Z, hZ⟩ : ∃ Z : Nat, s0.z = Z := ⟨s0.z.toNat, by have := hyes.1; omega⟩
  have hZ6 : 6 ≤ Z ∧ Z ≤ 256 := by have := hyes.1; have := hyes.2.1; omega
  have hZt : s0.z.toNat = Z := by omega
  rw [hZt] at hs3
  have hB3 : Below W1.heap.size W1 w3 := hb2.trans (hb3.mono hb2.size)
  have hgB : W1.heap.size ≤ g := by have := hb2.size; omega
  have HG : Hid (W1.heap.size ≤ g ∧ RightS s0 ∧ 6 ≤ Z ∧ Z ≤ 256 ∧ n1 ≤ 400 ∧ s0.z = Z) := ⟨hgB, hyes, hZ6.1, hZ6.2, by omega, hZ⟩
  have nxt : ∀ {V V' : World}, Below W1.heap.size W1 V → Out (fun j => j = g) V V' → Below W1.heap.size W1 V' := fun h ho => h.trans (ho.below h.size (fun j e => by rw [e]; exact HG.out.1))
  have HX : Hid (∀ {V V' : World}, Below W1.heap.size W1 V → Out (fun j => j = g) V V' → Below W1.heap.size W1 V') := nxt
  have HS3 : Hid (SegP w3 p g s0.r (newZ Z) ∧ Below W1.heap.size W1 w3) := ⟨hs3, hB3⟩
  clear e0 e1 e2 e3 hb3 hb2 hyes hp3 hg3 hgB hZt nxt hZ h3' h4' hZ6 hs3 hB3
  go_wp2_with fail
  go_loopw [6] (fun i wr => ∃ (k : Nat) (L : List Int), i = .int .i64 k ∧ k ≤ n1 ∧ SegP wr p g s0.r L ∧ Parts Z L ∧ Below W1.heap.size W1 wr) (fun i wr => n1 - (intOf i).toNat)
  case atStart => exact ⟨0, _, rfl, Nat.zero_le _, HS3.out.1, parts_new (by have := HG.out.2.2.1; omega), HS3.out.2⟩
  case round =>
    obtain ⟨k, L, rfl, hk, hsk, hgk, hBk⟩ := hrel
    have HI : Hid (SegP wr p g s0.r L ∧ Parts Z L ∧ Below W1.heap.size W1 wr ∧ k ≤ n1) := ⟨hsk, hgk, hBk, hk⟩
    rcases Nat.lt_or_ge k n1 with hlt | hge
    · obtain ⟨b, off, ha1, hc⟩ := HXI.out.1.2.resolve_left (by omega)
      obtain ⟨o, ho⟩ : ∃ o, x1[k]? = some o := ⟨x1[k]'(by rw [HXI.out.1.1]; exact hlt), by simp [HXI.out.1.1, hlt]⟩
      obtain ⟨d0, d1⟩ := hc k o ho
      obtain ⟨f0, f1⟩ := HXI.out.2 o (List.mem_of_getElem? ho)
      have c0 : wr.cell? ⟨b, off + k * 2, none⟩ = some (.int .u8 o.1) := by rw [(HO.out hBk).cell (old_block d0)]; exact d0
      have c1 : wr.cell? ⟨b, off + k * 2 + 1, none⟩ = some (.int .i64 o.2) := by rw [(HO.out hBk).cell (old_block d1)]; exact d1
      obtain ⟨kd, y⟩ := o
      simp only at c0 c1 f0
      have hk0 : 0 ≤ kd := f0.1
      have htm : kd.tmod 4 = kd % 4 := Int.tmod_eq_emod_of_nonneg hk0
      have hw : IntKind.i64.wrap ((k : Int) + 1) = (k : Int) + 1 := by have := HG.out.2.2.2.2.1; rw [IntKind.wrap_i64]; omega
      have hlt' : (k : Int) < n1 := by omega
      have HK : Hid (k < n1) := hlt
      clear hsk hgk hBk hk hc d0 d1 f0 f1 ho hlt
      subst ha1
      rcases (show kd % 4 = 0 ∨ kd % 4 = 1 ∨ kd % 4 = 2 ∨ kd % 4 = 3 by omega) with h4 | h4 | h4 | h4
      · have htt : kd.tmod 4 = 0 := by rw [htm]; exact h4
        clear h4 htm
        have HT := gList_of p g s0.r L 1 wr HI.out.1
        go_wp2_with fail
        refine HT.mono ?_
        clear HT
        rintro e w4 ⟨A4, c4, rfl, ow4, hb4⟩
        have hs4 := HI.out.1.under hb4
        have hB4 := HI.out.2.2.1.trans (hb4.mono HI.out.2.2.1.size)
        have HT := gTake_of p g s0.r L w4 hs4
        by_cases hf : firstN L 1 < L.length
        · obtain ⟨ga, rfl, hga, hcap, hcell⟩ := list_at ow4 (fun e => by have := cnt_pos.2 hf; unfold cntZ at this; rw [e] at this; simp at this)
          have x4 := hcell 0 (cnt_pos.2 hf)
          rw [list_zero hf] at x4
          have ei : takeI L = firstN L 1 := by unfold takeI; rw [if_pos hf]
          have eb : takeB L = true := by unfold takeB; rw [decide_eq_true hf]
          have hne : ga ≠ g := by have := HI.out.1.lt.2; omega
          have est := take_st hf
          have hlen : 0 < (listZ L 1).length := cnt_pos.2 hf
          obtain ⟨K, hK⟩ : ∃ K, K = (listZ L 1).length := ⟨_, rfl⟩
          rw [← hK] at hlen hcap ⊢
          have HF : Hid (SegP w4 p g s0.r L ∧ Below W1.heap.size W1 w4 ∧ ga ≠ g ∧ stZ (takeZ L) (firstN L 1) = 2 ∧ takeI L = firstN L 1 ∧ takeB L = true ∧ w4.cell? ⟨ga, 0, none⟩ = some (.int .i64 (firstN L 1 : Nat))) := ⟨hs4, hB4, hne, est, ei, eb, x4⟩
          have hlen' : (0 : Int) < K := by omega
          clear hs4 hB4 hne est ei eb hb4 ow4 hcell hga hK x4
          go_wp2_with fail
          refine HT.mono ?_
          clear HT
          rintro e w5 ⟨rfl, hs5, ho5⟩
          rw [HF.out.2.2.2.2.1, HF.out.2.2.2.2.2.1]
          have x5 : w5.cell? ⟨ga, 0, none⟩ = some (.int .i64 (firstN L 1 : Nat)) := ho5.cell HF.out.2.2.2.2.2.2 HF.out.2.2.1
          have HS : Hid (SegP w5 p g s0.r (takeZ L) ∧ Parts Z (takeZ L) ∧ Below W1.heap.size W1 w5) := ⟨hs5, parts_take HI.out.2.1, HX.out HF.out.2.1 ho5⟩
          have HT := gState_of p g s0.r (takeZ L) (firstN L 1) w5 hs5
          rw [HF.out.2.2.2.1] at HT
          obtain ⟨F, hF⟩ : ∃ F : Nat, F = firstN L 1 := ⟨_, rfl⟩
          rw [← hF] at HT x5 ⊢
          clear hs5 ho5 hF hf
          go_wp2_with fail
          refine HT.mono ?_
          clear HT
          rintro e w6 ⟨rfl, hww⟩
          replace hww := hww.symm
          subst hww
          obtain ⟨M, hM⟩ : ∃ M, M = takeZ L := ⟨_, rfl⟩
          rw [← hM] at HS
          clear hM
          go_wp2_with fail
          go_loopw [10, 11] (fun n st wx => ∃ (t : Nat), n = .int .i64 (sumS M t) ∧ st = .int .u8 t ∧ 1 ≤ t ∧ t ≤ 5 ∧ SegP wx p g s0.r M ∧ Below W1.heap.size W1 wx) (fun _ st wx => 5 - (intOf st).toNat)
          case atStart => exact ⟨1, rfl, rfl, by omega, by omega, HS.out.1, HS.out.2.2⟩
          case round =>
            obtain ⟨t, rfl, rfl, ht1, ht5, hst, hBt⟩ := hrel
            rename World => wq
            have HJ : Hid (SegP wq p g s0.r M ∧ Below W1.heap.size W1 wq) := ⟨hst, hBt⟩
            rcases Nat.lt_or_ge t 5 with hlt | hge
            · have HT := gList_of p g s0.r M t wq hst
              have hwu : IntKind.u8.wrap ((t : Int) + 1) = (t : Int) + 1 := by rw [IntKind.wrap_u8]; omega
              have hle' : (t : Int) ≤ 4 := by omega
              obtain ⟨N, hN⟩ : ∃ N, N = sumS M t := ⟨_, rfl⟩
              obtain ⟨K, hK⟩ : ∃ K, K = (listZ M t).length := ⟨_, rfl⟩
              have HNK : Hid (N + K = sumS M (t + 1)) := show _ = _ by rw [sumS_step M ht1, hN, hK]; rfl
              have hwi : IntKind.i64.wrap ((N : Int) + (K : Int)) = (N : Int) + (K : Int) := by
                have b1 := sumS_le M (t + 1)
                have b2 := HS.out.2.1.len
                have b3 := HG.out.2.2.2.1
                have b4 : (t + 1) * M.length ≤ 5 * 256 := Nat.mul_le_mul (by omega) (by omega)
                rw [← HNK.out] at b1
                rw [IntKind.wrap_i64]; omega
              rw [← hN]
              have HK2 : Hid (K = (listZ M t).length ∧ 1 ≤ t ∧ t < 5) := ⟨hK, ht1, hlt⟩
              clear hst hBt hN hK ht1 ht5 hlt
              go_wp2_with fail
              refine HT.mono ?_
              clear HT
              rintro e w6 ⟨A6, c6, rfl, _, hb6⟩
              rw [← HK2.out.1]
              have HL : Hid (SegP w6 p g s0.r M ∧ Below W1.heap.size W1 w6) := ⟨HJ.out.1.under hb6, HJ.out.2.trans (hb6.mono HJ.out.2.size)⟩
              clear hb6
              go_wp2
              go_roundw
              case rel => exact ⟨t + 1, by rw [← HNK.out]; simp, by simp, by omega, by have := HK2.out.2.2; omega, HL.out.1, HL.out.2⟩
              case measure => have := HK2.out.2.2; simp [intOf]; omega
            · obtain rfl : t = 5 := by omega
              rw [parts_sum HS.out.2.1]
              obtain ⟨e0, g1, g2, e3⟩ := HC.out hBt
              rw [HG.out.2.2.2.2.2] at e0
              clear g1 g2
              have hsd := hst.drew
              have hBd : Below W1.heap.size W1 wq.drew := hBt.drew
              have m0 : stZ M 0 = 4 := (stZ_nat M 0).trans HS.out.2.1.k0
              have m1 : stZ M 1 = 4 := (stZ_nat M 1).trans HS.out.2.1.k1
              have HM01 : Hid (stZ M 0 = 4 ∧ stZ M 1 = 4) := ⟨m0, m1⟩
              obtain ⟨K, hK⟩ : ∃ K, K = (listZ M 1).length := ⟨_, rfl⟩
              have H2 : ∀ X, SegP X p g s0.r M → Calls Try.prog 20 #[.pointer (some ⟨p, 0, none⟩)] X fun e w' => e = .returned (.bool (decide ((K : Int) ≤ s0.r))) ∧ Below X.heap.size X w' := fun X hX => by
                rw [hK]; exact gLow_of p g s0.r M X hX
              have H3 : ∀ X, SegP X p g s0.r M → Calls Try.prog 23 #[.pointer (some ⟨p, 0, none⟩), .int .u8 1] X fun e w' => ∃ A c, e = .returned (.slice A K c) ∧ Below X.heap.size X w' := fun X hX => by
                refine (gList_of p g s0.r M 1 X hX).mono ?_
                rintro e w' ⟨A, c, h1, _, h3⟩
                exact ⟨A, c, by rw [hK]; exact h1, h3⟩
              have HQ0 : Hid (∀ X z, SegP X p g s0.r M → Calls Try.prog 18 #[.pointer (some ⟨p, 0, none⟩), .int .i64 z] X fun e w' => e = .returned (.int .u8 (stZ M z)) ∧ w' = X) := fun X z hX => gState_of p g s0.r M z X hX
              have HQ2 : Hid (∀ X, SegP X p g s0.r M → Calls Try.prog 20 #[.pointer (some ⟨p, 0, none⟩)] X fun e w' => e = .returned (.bool (decide ((K : Int) ≤ s0.r))) ∧ Below X.heap.size X w') := H2
              have HQ3 : Hid (∀ X, SegP X p g s0.r M → Calls Try.prog 23 #[.pointer (some ⟨p, 0, none⟩), .int .u8 1] X fun e w' => ∃ A c, e = .returned (.slice A K c) ∧ Below X.heap.size X w') := H3
              have HD : Hid (SegP wq.drew p g s0.r M ∧ Below W1.heap.size W1 wq.drew) := ⟨hsd, hBd⟩
              clear m0 m1 H2 H3 hst hBt hK hsd hBd ht1 ht5 hge
              go_wp2_with fail
              go_region_held3 (fun X => X.cell? ⟨q, 0, none⟩ = some (.int .i64 (Z : Int)) ∧ X.cell? ⟨q, 3, none⟩ = some (.int .i64 s0.r)) (first | exact ⟨e0, e3⟩ | exact ⟨d0, d3⟩ | exact ⟨f0, f3⟩)
                (first
                | (go_at_call 18; refine (HQ0.out _ _ HD.out.1).mono ?_; rintro e w7 ⟨rfl, hww⟩; replace hww := hww.symm; subst hww; first | rw [HM01.out.1] | rw [HM01.out.2])
                | (go_at_call 20; refine (HQ2.out _ HD.out.1).mono ?_; rintro e w8 ⟨rfl, hb8⟩; have HS8 : Hid (SegP w8 p g s0.r M ∧ Below W1.heap.size W1 w8) := ⟨HD.out.1.under hb8, HD.out.2.trans (hb8.mono HD.out.2.size)⟩; clear hb8; obtain ⟨d0, d1, d2, d3⟩ := HC.out HS8.out.2; clear d1 d2; rw [HG.out.2.2.2.2.2] at d0)
                | (go_at_call 23; refine (HQ3.out _ HS8.out.1).mono ?_; rintro e w9 ⟨A9, c9, rfl, hb9⟩; have HS9 : Hid (SegP w9 p g s0.r M ∧ Below W1.heap.size W1 w9) := ⟨HS8.out.1.under hb9, HS8.out.2.trans (hb9.mono HS8.out.2.size)⟩; clear hb9; obtain ⟨f0, f1, f2, f3⟩ := HC.out HS9.out.2; clear f1 f2; rw [HG.out.2.2.2.2.2] at f0))
              go_wp2
              go_roundw
              case rel => exact ⟨k + 1, M, by simp, by have := HK.out; omega, HS9.out.1, HS.out.2.1, HS9.out.2⟩
              case measure => have := HK.out; simp [intOf]; omega
        · have hl0 : (listZ L 1).length = 0 := by
            rcases Nat.eq_zero_or_pos (listZ L 1).length with e | e
            · exact e
            · exact absurd (cnt_pos.1 e) hf
          have ei : takeI L = 0 := by unfold takeI; rw [if_neg hf]
          have eb : takeB L = false := by unfold takeB; rw [decide_eq_false hf]
          rw [hl0]
          have HF : Hid (SegP w4 p g s0.r L ∧ Below W1.heap.size W1 w4 ∧ takeI L = 0 ∧ takeB L = false) := ⟨hs4, hB4, ei, eb⟩
          clear hs4 hB4 ei eb hb4 ow4 hl0 hf
          go_wp2_with fail
          refine HT.mono ?_
          clear HT
          rintro e w5 ⟨rfl, hs5, ho5⟩
          rw [HF.out.2.2.1, HF.out.2.2.2]
          have HS : Hid (SegP w5 p g s0.r (takeZ L) ∧ Parts Z (takeZ L) ∧ Below W1.heap.size W1 w5) := ⟨hs5, parts_take HI.out.2.1, HX.out HF.out.2.1 ho5⟩
          clear hs5 ho5
          obtain ⟨M, hM⟩ : ∃ M, M = takeZ L := ⟨_, rfl⟩
          rw [← hM] at HS
          clear hM
          go_wp2_with fail
          go_loopw [10, 11] (fun n st wx => ∃ (t : Nat), n = .int .i64 (sumS M t) ∧ st = .int .u8 t ∧ 1 ≤ t ∧ t ≤ 5 ∧ SegP wx p g s0.r M ∧ Below W1.heap.size W1 wx) (fun _ st wx => 5 - (intOf st).toNat)
          case atStart => exact ⟨1, rfl, rfl, by omega, by omega, HS.out.1, HS.out.2.2⟩
          case round =>
            obtain ⟨t, rfl, rfl, ht1, ht5, hst, hBt⟩ := hrel
            rename World => wq
            have HJ : Hid (SegP wq p g s0.r M ∧ Below W1.heap.size W1 wq) := ⟨hst, hBt⟩
            rcases Nat.lt_or_ge t 5 with hlt | hge
            · have HT := gList_of p g s0.r M t wq hst
              have hwu : IntKind.u8.wrap ((t : Int) + 1) = (t : Int) + 1 := by rw [IntKind.wrap_u8]; omega
              have hle' : (t : Int) ≤ 4 := by omega
              obtain ⟨N, hN⟩ : ∃ N, N = sumS M t := ⟨_, rfl⟩
              obtain ⟨K, hK⟩ : ∃ K, K = (listZ M t).length := ⟨_, rfl⟩
              have HNK : Hid (N + K = sumS M (t + 1)) := show _ = _ by rw [sumS_step M ht1, hN, hK]; rfl
              have hwi : IntKind.i64.wrap ((N : Int) + (K : Int)) = (N : Int) + (K : Int) := by
                have b1 := sumS_le M (t + 1)
                have b2 := HS.out.2.1.len
                have b3 := HG.out.2.2.2.1
                have b4 : (t + 1) * M.length ≤ 5 * 256 := Nat.mul_le_mul (by omega) (by omega)
                rw [← HNK.out] at b1
                rw [IntKind.wrap_i64]; omega
              rw [← hN]
              have HK2 : Hid (K = (listZ M t).length ∧ 1 ≤ t ∧ t < 5) := ⟨hK, ht1, hlt⟩
              clear hst hBt hN hK ht1 ht5 hlt
              go_wp2_with fail
              refine HT.mono ?_
              clear HT
              rintro e w6 ⟨A6, c6, rfl, _, hb6⟩
              rw [← HK2.out.1]
              have HL : Hid (SegP w6 p g s0.r M ∧ Below W1.heap.size W1 w6) := ⟨HJ.out.1.under hb6, HJ.out.2.trans (hb6.mono HJ.out.2.size)⟩
              clear hb6
              go_wp2
              go_roundw
              case rel => exact ⟨t + 1, by rw [← HNK.out]; simp, by simp, by omega, by have := HK2.out.2.2; omega, HL.out.1, HL.out.2⟩
              case measure => have := HK2.out.2.2; simp [intOf]; omega
            · obtain rfl : t = 5 := by omega
              rw [parts_sum HS.out.2.1]
              obtain ⟨e0, g1, g2, e3⟩ := HC.out hBt
              rw [HG.out.2.2.2.2.2] at e0
              clear g1 g2
              have hsd := hst.drew
              have hBd : Below W1.heap.size W1 wq.drew := hBt.drew
              have m0 : stZ M 0 = 4 := (stZ_nat M 0).trans HS.out.2.1.k0
              have m1 : stZ M 1 = 4 := (stZ_nat M 1).trans HS.out.2.1.k1
              have HM01 : Hid (stZ M 0 = 4 ∧ stZ M 1 = 4) := ⟨m0, m1⟩
              obtain ⟨K, hK⟩ : ∃ K, K = (listZ M 1).length := ⟨_, rfl⟩
              have H2 : ∀ X, SegP X p g s0.r M → Calls Try.prog 20 #[.pointer (some ⟨p, 0, none⟩)] X fun e w' => e = .returned (.bool (decide ((K : Int) ≤ s0.r))) ∧ Below X.heap.size X w' := fun X hX => by
                rw [hK]; exact gLow_of p g s0.r M X hX
              have H3 : ∀ X, SegP X p g s0.r M → Calls Try.prog 23 #[.pointer (some ⟨p, 0, none⟩), .int .u8 1] X fun e w' => ∃ A c, e = .returned (.slice A K c) ∧ Below X.heap.size X w' := fun X hX => by
                refine (gList_of p g s0.r M 1 X hX).mono ?_
                rintro e w' ⟨A, c, h1, _, h3⟩
                exact ⟨A, c, by rw [hK]; exact h1, h3⟩
              have HQ0 : Hid (∀ X z, SegP X p g s0.r M → Calls Try.prog 18 #[.pointer (some ⟨p, 0, none⟩), .int .i64 z] X fun e w' => e = .returned (.int .u8 (stZ M z)) ∧ w' = X) := fun X z hX => gState_of p g s0.r M z X hX
              have HQ2 : Hid (∀ X, SegP X p g s0.r M → Calls Try.prog 20 #[.pointer (some ⟨p, 0, none⟩)] X fun e w' => e = .returned (.bool (decide ((K : Int) ≤ s0.r))) ∧ Below X.heap.size X w') := H2
              have HQ3 : Hid (∀ X, SegP X p g s0.r M → Calls Try.prog 23 #[.pointer (some ⟨p, 0, none⟩), .int .u8 1] X fun e w' => ∃ A c, e = .returned (.slice A K c) ∧ Below X.heap.size X w') := H3
              have HD : Hid (SegP wq.drew p g s0.r M ∧ Below W1.heap.size W1 wq.drew) := ⟨hsd, hBd⟩
              clear m0 m1 H2 H3 hst hBt hK hsd hBd ht1 ht5 hge
              go_wp2_with fail
              go_region_held3 (fun X => X.cell? ⟨q, 0, none⟩ = some (.int .i64 (Z : Int)) ∧ X.cell? ⟨q, 3, none⟩ = some (.int .i64 s0.r)) (first | exact ⟨e0, e3⟩ | exact ⟨d0, d3⟩ | exact ⟨f0, f3⟩)
                (first
                | (go_at_call 18; refine (HQ0.out _ _ HD.out.1).mono ?_; rintro e w7 ⟨rfl, hww⟩; replace hww := hww.symm; subst hww; first | rw [HM01.out.1] | rw [HM01.out.2])
                | (go_at_call 20; refine (HQ2.out _ HD.out.1).mono ?_; rintro e w8 ⟨rfl, hb8⟩; have HS8 : Hid (SegP w8 p g s0.r M ∧ Below W1.heap.size W1 w8) := ⟨HD.out.1.under hb8, HD.out.2.trans (hb8.mono HD.out.2.size)⟩; clear hb8; obtain ⟨d0, d1, d2, d3⟩ := HC.out HS8.out.2; clear d1 d2; rw [HG.out.2.2.2.2.2] at d0)
                | (go_at_call 23; refine (HQ3.out _ HS8.out.1).mono ?_; rintro e w9 ⟨A9, c9, rfl, hb9⟩; have HS9 : Hid (SegP w9 p g s0.r M ∧ Below W1.heap.size W1 w9) := ⟨HS8.out.1.under hb9, HS8.out.2.trans (hb9.mono HS8.out.2.size)⟩; clear hb9; obtain ⟨f0, f1, f2, f3⟩ := HC.out HS9.out.2; clear f1 f2; rw [HG.out.2.2.2.2.2] at f0))
              go_wp2
              go_roundw
              case rel => exact ⟨k + 1, M, by simp, by have := HK.out; omega, HS9.out.1, HS.out.2.1, HS9.out.2⟩
              case measure => have := HK.out; simp [intOf]; omega
      · have htt : kd.tmod 4 = 1 := by rw [htm]; exact h4
        clear h4 htm
        have HT := gFill_of p g s0.r L y wr HI.out.1
        go_wp2_with fail
        refine HT.mono ?_
        clear HT
        rintro e w4 ⟨rfl, hs4, ho4⟩
        have HS : Hid (SegP w4 p g s0.r (turnZ L y 2 3) ∧ Parts Z (turnZ L y 2 3) ∧ Below W1.heap.size W1 w4) := ⟨hs4, parts_turn HI.out.2.1 (by decide) (by decide) (by decide), HX.out HI.out.2.2.1 ho4⟩
        clear hs4 ho4
        generalize decide (stZ L y = 2) = D
        obtain ⟨M, hM⟩ : ∃ M, M = turnZ L y 2 3 := ⟨_, rfl⟩
        rw [← hM] at HS
        clear hM
        go_wp2_with fail
        go_loopw [10, 11] (fun n st wx => ∃ (t : Nat), n = .int .i64 (sumS M t) ∧ st = .int .u8 t ∧ 1 ≤ t ∧ t ≤ 5 ∧ SegP wx p g s0.r M ∧ Below W1.heap.size W1 wx) (fun _ st wx => 5 - (intOf st).toNat)
        case atStart => exact ⟨1, rfl, rfl, by omega, by omega, HS.out.1, HS.out.2.2⟩
        case round =>
          obtain ⟨t, rfl, rfl, ht1, ht5, hst, hBt⟩ := hrel
          rename World => wq
          have HJ : Hid (SegP wq p g s0.r M ∧ Below W1.heap.size W1 wq) := ⟨hst, hBt⟩
          rcases Nat.lt_or_ge t 5 with hlt | hge
          · have HT := gList_of p g s0.r M t wq hst
            have hwu : IntKind.u8.wrap ((t : Int) + 1) = (t : Int) + 1 := by rw [IntKind.wrap_u8]; omega
            have hle' : (t : Int) ≤ 4 := by omega
            obtain ⟨N, hN⟩ : ∃ N, N = sumS M t := ⟨_, rfl⟩
            obtain ⟨K, hK⟩ : ∃ K, K = (listZ M t).length := ⟨_, rfl⟩
            have HNK : Hid (N + K = sumS M (t + 1)) := show _ = _ by rw [sumS_step M ht1, hN, hK]; rfl
            have hwi : IntKind.i64.wrap ((N : Int) + (K : Int)) = (N : Int) + (K : Int) := by
              have b1 := sumS_le M (t + 1)
              have b2 := HS.out.2.1.len
              have b3 := HG.out.2.2.2.1
              have b4 : (t + 1) * M.length ≤ 5 * 256 := Nat.mul_le_mul (by omega) (by omega)
              rw [← HNK.out] at b1
              rw [IntKind.wrap_i64]; omega
            rw [← hN]
            have HK2 : Hid (K = (listZ M t).length ∧ 1 ≤ t ∧ t < 5) := ⟨hK, ht1, hlt⟩
            clear hst hBt hN hK ht1 ht5 hlt
            go_wp2_with fail
            refine HT.mono ?_
            clear HT
            rintro e w6 ⟨A6, c6, rfl, _, hb6⟩
            rw [← HK2.out.1]
            have HL : Hid (SegP w6 p g s0.r M ∧ Below W1.heap.size W1 w6) := ⟨HJ.out.1.under hb6, HJ.out.2.trans (hb6.mono HJ.out.2.size)⟩
            clear hb6
            go_wp2
            go_roundw
            case rel => exact ⟨t + 1, by rw [← HNK.out]; simp, by simp, by omega, by have := HK2.out.2.2; omega, HL.out.1, HL.out.2⟩
            case measure => have := HK2.out.2.2; simp [intOf]; omega
          · obtain rfl : t = 5 := by omega
            rw [parts_sum HS.out.2.1]
            obtain ⟨e0, g1, g2, e3⟩ := HC.out hBt
            rw [HG.out.2.2.2.2.2] at e0
            clear g1 g2
            have hsd := hst.drew
            have hBd : Below W1.heap.size W1 wq.drew := hBt.drew
            have m0 : stZ M 0 = 4 := (stZ_nat M 0).trans HS.out.2.1.k0
            have m1 : stZ M 1 = 4 := (stZ_nat M 1).trans HS.out.2.1.k1
            have HM01 : Hid (stZ M 0 = 4 ∧ stZ M 1 = 4) := ⟨m0, m1⟩
            obtain ⟨K, hK⟩ : ∃ K, K = (listZ M 1).length := ⟨_, rfl⟩
            have H2 : ∀ X, SegP X p g s0.r M → Calls Try.prog 20 #[.pointer (some ⟨p, 0, none⟩)] X fun e w' => e = .returned (.bool (decide ((K : Int) ≤ s0.r))) ∧ Below X.heap.size X w' := fun X hX => by
              rw [hK]; exact gLow_of p g s0.r M X hX
            have H3 : ∀ X, SegP X p g s0.r M → Calls Try.prog 23 #[.pointer (some ⟨p, 0, none⟩), .int .u8 1] X fun e w' => ∃ A c, e = .returned (.slice A K c) ∧ Below X.heap.size X w' := fun X hX => by
              refine (gList_of p g s0.r M 1 X hX).mono ?_
              rintro e w' ⟨A, c, h1, _, h3⟩
              exact ⟨A, c, by rw [hK]; exact h1, h3⟩
            have HQ0 : Hid (∀ X z, SegP X p g s0.r M → Calls Try.prog 18 #[.pointer (some ⟨p, 0, none⟩), .int .i64 z] X fun e w' => e = .returned (.int .u8 (stZ M z)) ∧ w' = X) := fun X z hX => gState_of p g s0.r M z X hX
            have HQ2 : Hid (∀ X, SegP X p g s0.r M → Calls Try.prog 20 #[.pointer (some ⟨p, 0, none⟩)] X fun e w' => e = .returned (.bool (decide ((K : Int) ≤ s0.r))) ∧ Below X.heap.size X w') := H2
            have HQ3 : Hid (∀ X, SegP X p g s0.r M → Calls Try.prog 23 #[.pointer (some ⟨p, 0, none⟩), .int .u8 1] X fun e w' => ∃ A c, e = .returned (.slice A K c) ∧ Below X.heap.size X w') := H3
            have HD : Hid (SegP wq.drew p g s0.r M ∧ Below W1.heap.size W1 wq.drew) := ⟨hsd, hBd⟩
            clear m0 m1 H2 H3 hst hBt hK hsd hBd ht1 ht5 hge
            go_wp2_with fail
            go_region_held3 (fun X => X.cell? ⟨q, 0, none⟩ = some (.int .i64 (Z : Int)) ∧ X.cell? ⟨q, 3, none⟩ = some (.int .i64 s0.r)) (first | exact ⟨e0, e3⟩ | exact ⟨d0, d3⟩ | exact ⟨f0, f3⟩)
              (first
              | (go_at_call 18; refine (HQ0.out _ _ HD.out.1).mono ?_; rintro e w7 ⟨rfl, hww⟩; replace hww := hww.symm; subst hww; first | rw [HM01.out.1] | rw [HM01.out.2])
              | (go_at_call 20; refine (HQ2.out _ HD.out.1).mono ?_; rintro e w8 ⟨rfl, hb8⟩; have HS8 : Hid (SegP w8 p g s0.r M ∧ Below W1.heap.size W1 w8) := ⟨HD.out.1.under hb8, HD.out.2.trans (hb8.mono HD.out.2.size)⟩; clear hb8; obtain ⟨d0, d1, d2, d3⟩ := HC.out HS8.out.2; clear d1 d2; rw [HG.out.2.2.2.2.2] at d0)
              | (go_at_call 23; refine (HQ3.out _ HS8.out.1).mono ?_; rintro e w9 ⟨A9, c9, rfl, hb9⟩; have HS9 : Hid (SegP w9 p g s0.r M ∧ Below W1.heap.size W1 w9) := ⟨HS8.out.1.under hb9, HS8.out.2.trans (hb9.mono HS8.out.2.size)⟩; clear hb9; obtain ⟨f0, f1, f2, f3⟩ := HC.out HS9.out.2; clear f1 f2; rw [HG.out.2.2.2.2.2] at f0))
            go_wp2
            go_roundw
            case rel => exact ⟨k + 1, M, by simp, by have := HK.out; omega, HS9.out.1, HS.out.2.1, HS9.out.2⟩
            case measure => have := HK.out; simp [intOf]; omega
      · have htt : kd.tmod 4 = 2 := by rw [htm]; exact h4
        clear h4 htm
        have HT := gClear_of p g s0.r L y wr HI.out.1
        go_wp2_with fail
        refine HT.mono ?_
        clear HT
        rintro e w4 ⟨rfl, hs4, ho4⟩
        have HS : Hid (SegP w4 p g s0.r (turnZ L y 3 1) ∧ Parts Z (turnZ L y 3 1) ∧ Below W1.heap.size W1 w4) := ⟨hs4, parts_turn HI.out.2.1 (by decide) (by decide) (by decide), HX.out HI.out.2.2.1 ho4⟩
        clear hs4 ho4
        generalize decide (stZ L y = 3) = D
        obtain ⟨M, hM⟩ : ∃ M, M = turnZ L y 3 1 := ⟨_, rfl⟩
        rw [← hM] at HS
        clear hM
        go_wp2_with fail
        go_loopw [10, 11] (fun n st wx => ∃ (t : Nat), n = .int .i64 (sumS M t) ∧ st = .int .u8 t ∧ 1 ≤ t ∧ t ≤ 5 ∧ SegP wx p g s0.r M ∧ Below W1.heap.size W1 wx) (fun _ st wx => 5 - (intOf st).toNat)
        case atStart => exact ⟨1, rfl, rfl, by omega, by omega, HS.out.1, HS.out.2.2⟩
        case round =>
          obtain ⟨t, rfl, rfl, ht1, ht5, hst, hBt⟩ := hrel
          rename World => wq
          have HJ : Hid (SegP wq p g s0.r M ∧ Below W1.heap.size W1 wq) := ⟨hst, hBt⟩
          rcases Nat.lt_or_ge t 5 with hlt | hge
          · have HT := gList_of p g s0.r M t wq hst
            have hwu : IntKind.u8.wrap ((t : Int) + 1) = (t : Int) + 1 := by rw [IntKind.wrap_u8]; omega
            have hle' : (t : Int) ≤ 4 := by omega
            obtain ⟨N, hN⟩ : ∃ N, N = sumS M t := ⟨_, rfl⟩
            obtain ⟨K, hK⟩ : ∃ K, K = (listZ M t).length := ⟨_, rfl⟩
            have HNK : Hid (N + K = sumS M (t + 1)) := show _ = _ by rw [sumS_step M ht1, hN, hK]; rfl
            have hwi : IntKind.i64.wrap ((N : Int) + (K : Int)) = (N : Int) + (K : Int) := by
              have b1 := sumS_le M (t + 1)
              have b2 := HS.out.2.1.len
              have b3 := HG.out.2.2.2.1
              have b4 : (t + 1) * M.length ≤ 5 * 256 := Nat.mul_le_mul (by omega) (by omega)
              rw [← HNK.out] at b1
              rw [IntKind.wrap_i64]; omega
            rw [← hN]
            have HK2 : Hid (K = (listZ M t).length ∧ 1 ≤ t ∧ t < 5) := ⟨hK, ht1, hlt⟩
            clear hst hBt hN hK ht1 ht5 hlt
            go_wp2_with fail
            refine HT.mono ?_
            clear HT
            rintro e w6 ⟨A6, c6, rfl, _, hb6⟩
            rw [← HK2.out.1]
            have HL : Hid (SegP w6 p g s0.r M ∧ Below W1.heap.size W1 w6) := ⟨HJ.out.1.under hb6, HJ.out.2.trans (hb6.mono HJ.out.2.size)⟩
            clear hb6
            go_wp2
            go_roundw
            case rel => exact ⟨t + 1, by rw [← HNK.out]; simp, by simp, by omega, by have := HK2.out.2.2; omega, HL.out.1, HL.out.2⟩
            case measure => have := HK2.out.2.2; simp [intOf]; omega
          · obtain rfl : t = 5 := by omega
            rw [parts_sum HS.out.2.1]
            obtain ⟨e0, g1, g2, e3⟩ := HC.out hBt
            rw [HG.out.2.2.2.2.2] at e0
            clear g1 g2
            have hsd := hst.drew
            have hBd : Below W1.heap.size W1 wq.drew := hBt.drew
            have m0 : stZ M 0 = 4 := (stZ_nat M 0).trans HS.out.2.1.k0
            have m1 : stZ M 1 = 4 := (stZ_nat M 1).trans HS.out.2.1.k1
            have HM01 : Hid (stZ M 0 = 4 ∧ stZ M 1 = 4) := ⟨m0, m1⟩
            obtain ⟨K, hK⟩ : ∃ K, K = (listZ M 1).length := ⟨_, rfl⟩
            have H2 : ∀ X, SegP X p g s0.r M → Calls Try.prog 20 #[.pointer (some ⟨p, 0, none⟩)] X fun e w' => e = .returned (.bool (decide ((K : Int) ≤ s0.r))) ∧ Below X.heap.size X w' := fun X hX => by
              rw [hK]; exact gLow_of p g s0.r M X hX
            have H3 : ∀ X, SegP X p g s0.r M → Calls Try.prog 23 #[.pointer (some ⟨p, 0, none⟩), .int .u8 1] X fun e w' => ∃ A c, e = .returned (.slice A K c) ∧ Below X.heap.size X w' := fun X hX => by
              refine (gList_of p g s0.r M 1 X hX).mono ?_
              rintro e w' ⟨A, c, h1, _, h3⟩
              exact ⟨A, c, by rw [hK]; exact h1, h3⟩
            have HQ0 : Hid (∀ X z, SegP X p g s0.r M → Calls Try.prog 18 #[.pointer (some ⟨p, 0, none⟩), .int .i64 z] X fun e w' => e = .returned (.int .u8 (stZ M z)) ∧ w' = X) := fun X z hX => gState_of p g s0.r M z X hX
            have HQ2 : Hid (∀ X, SegP X p g s0.r M → Calls Try.prog 20 #[.pointer (some ⟨p, 0, none⟩)] X fun e w' => e = .returned (.bool (decide ((K : Int) ≤ s0.r))) ∧ Below X.heap.size X w') := H2
            have HQ3 : Hid (∀ X, SegP X p g s0.r M → Calls Try.prog 23 #[.pointer (some ⟨p, 0, none⟩), .int .u8 1] X fun e w' => ∃ A c, e = .returned (.slice A K c) ∧ Below X.heap.size X w') := H3
            have HD : Hid (SegP wq.drew p g s0.r M ∧ Below W1.heap.size W1 wq.drew) := ⟨hsd, hBd⟩
            clear m0 m1 H2 H3 hst hBt hK hsd hBd ht1 ht5 hge
            go_wp2_with fail
            go_region_held3 (fun X => X.cell? ⟨q, 0, none⟩ = some (.int .i64 (Z : Int)) ∧ X.cell? ⟨q, 3, none⟩ = some (.int .i64 s0.r)) (first | exact ⟨e0, e3⟩ | exact ⟨d0, d3⟩ | exact ⟨f0, f3⟩)
              (first
              | (go_at_call 18; refine (HQ0.out _ _ HD.out.1).mono ?_; rintro e w7 ⟨rfl, hww⟩; replace hww := hww.symm; subst hww; first | rw [HM01.out.1] | rw [HM01.out.2])
              | (go_at_call 20; refine (HQ2.out _ HD.out.1).mono ?_; rintro e w8 ⟨rfl, hb8⟩; have HS8 : Hid (SegP w8 p g s0.r M ∧ Below W1.heap.size W1 w8) := ⟨HD.out.1.under hb8, HD.out.2.trans (hb8.mono HD.out.2.size)⟩; clear hb8; obtain ⟨d0, d1, d2, d3⟩ := HC.out HS8.out.2; clear d1 d2; rw [HG.out.2.2.2.2.2] at d0)
              | (go_at_call 23; refine (HQ3.out _ HS8.out.1).mono ?_; rintro e w9 ⟨A9, c9, rfl, hb9⟩; have HS9 : Hid (SegP w9 p g s0.r M ∧ Below W1.heap.size W1 w9) := ⟨HS8.out.1.under hb9, HS8.out.2.trans (hb9.mono HS8.out.2.size)⟩; clear hb9; obtain ⟨f0, f1, f2, f3⟩ := HC.out HS9.out.2; clear f1 f2; rw [HG.out.2.2.2.2.2] at f0))
            go_wp2
            go_roundw
            case rel => exact ⟨k + 1, M, by simp, by have := HK.out; omega, HS9.out.1, HS.out.2.1, HS9.out.2⟩
            case measure => have := HK.out; simp [intOf]; omega
      · have htt : kd.tmod 4 = 3 := by rw [htm]; exact h4
        clear h4 htm
        have HT := gFound_of p g s0.r L y wr HI.out.1
        go_wp2_with fail
        refine HT.mono ?_
        clear HT
        rintro e w4 ⟨rfl, hs4, ho4⟩
        have HS : Hid (SegP w4 p g s0.r (turnZ L y 1 3) ∧ Parts Z (turnZ L y 1 3) ∧ Below W1.heap.size W1 w4) := ⟨hs4, parts_turn HI.out.2.1 (by decide) (by decide) (by decide), HX.out HI.out.2.2.1 ho4⟩
        clear hs4 ho4
        generalize decide (stZ L y = 1) = D
        obtain ⟨M, hM⟩ : ∃ M, M = turnZ L y 1 3 := ⟨_, rfl⟩
        rw [← hM] at HS
        clear hM
        go_wp2_with fail
        go_loopw [10, 11] (fun n st wx => ∃ (t : Nat), n = .int .i64 (sumS M t) ∧ st = .int .u8 t ∧ 1 ≤ t ∧ t ≤ 5 ∧ SegP wx p g s0.r M ∧ Below W1.heap.size W1 wx) (fun _ st wx => 5 - (intOf st).toNat)
        case atStart => exact ⟨1, rfl, rfl, by omega, by omega, HS.out.1, HS.out.2.2⟩
        case round =>
          obtain ⟨t, rfl, rfl, ht1, ht5, hst, hBt⟩ := hrel
          rename World => wq
          have HJ : Hid (SegP wq p g s0.r M ∧ Below W1.heap.size W1 wq) := ⟨hst, hBt⟩
          rcases Nat.lt_or_ge t 5 with hlt | hge
          · have HT := gList_of p g s0.r M t wq hst
            have hwu : IntKind.u8.wrap ((t : Int) + 1) = (t : Int) + 1 := by rw [IntKind.wrap_u8]; omega
            have hle' : (t : Int) ≤ 4 := by omega
            obtain ⟨N, hN⟩ : ∃ N, N = sumS M t := ⟨_, rfl⟩
            obtain ⟨K, hK⟩ : ∃ K, K = (listZ M t).length := ⟨_, rfl⟩
            have HNK : Hid (N + K = sumS M (t + 1)) := show _ = _ by rw [sumS_step M ht1, hN, hK]; rfl
            have hwi : IntKind.i64.wrap ((N : Int) + (K : Int)) = (N : Int) + (K : Int) := by
              have b1 := sumS_le M (t + 1)
              have b2 := HS.out.2.1.len
              have b3 := HG.out.2.2.2.1
              have b4 : (t + 1) * M.length ≤ 5 * 256 := Nat.mul_le_mul (by omega) (by omega)
              rw [← HNK.out] at b1
              rw [IntKind.wrap_i64]; omega
            rw [← hN]
            have HK2 : Hid (K = (listZ M t).length ∧ 1 ≤ t ∧ t < 5) := ⟨hK, ht1, hlt⟩
            clear hst hBt hN hK ht1 ht5 hlt
            go_wp2_with fail
            refine HT.mono ?_
            clear HT
            rintro e w6 ⟨A6, c6, rfl, _, hb6⟩
            rw [← HK2.out.1]
            have HL : Hid (SegP w6 p g s0.r M ∧ Below W1.heap.size W1 w6) := ⟨HJ.out.1.under hb6, HJ.out.2.trans (hb6.mono HJ.out.2.size)⟩
            clear hb6
            go_wp2
            go_roundw
            case rel => exact ⟨t + 1, by rw [← HNK.out]; simp, by simp, by omega, by have := HK2.out.2.2; omega, HL.out.1, HL.out.2⟩
            case measure => have := HK2.out.2.2; simp [intOf]; omega
          · obtain rfl : t = 5 := by omega
            rw [parts_sum HS.out.2.1]
            obtain ⟨e0, g1, g2, e3⟩ := HC.out hBt
            rw [HG.out.2.2.2.2.2] at e0
            clear g1 g2
            have hsd := hst.drew
            have hBd : Below W1.heap.size W1 wq.drew := hBt.drew
            have m0 : stZ M 0 = 4 := (stZ_nat M 0).trans HS.out.2.1.k0
            have m1 : stZ M 1 = 4 := (stZ_nat M 1).trans HS.out.2.1.k1
            have HM01 : Hid (stZ M 0 = 4 ∧ stZ M 1 = 4) := ⟨m0, m1⟩
            obtain ⟨K, hK⟩ : ∃ K, K = (listZ M 1).length := ⟨_, rfl⟩
            have H2 : ∀ X, SegP X p g s0.r M → Calls Try.prog 20 #[.pointer (some ⟨p, 0, none⟩)] X fun e w' => e = .returned (.bool (decide ((K : Int) ≤ s0.r))) ∧ Below X.heap.size X w' := fun X hX => by
              rw [hK]; exact gLow_of p g s0.r M X hX
            have H3 : ∀ X, SegP X p g s0.r M → Calls Try.prog 23 #[.pointer (some ⟨p, 0, none⟩), .int .u8 1] X fun e w' => ∃ A c, e = .returned (.slice A K c) ∧ Below X.heap.size X w' := fun X hX => by
              refine (gList_of p g s0.r M 1 X hX).mono ?_
              rintro e w' ⟨A, c, h1, _, h3⟩
              exact ⟨A, c, by rw [hK]; exact h1, h3⟩
            have HQ0 : Hid (∀ X z, SegP X p g s0.r M → Calls Try.prog 18 #[.pointer (some ⟨p, 0, none⟩), .int .i64 z] X fun e w' => e = .returned (.int .u8 (stZ M z)) ∧ w' = X) := fun X z hX => gState_of p g s0.r M z X hX
            have HQ2 : Hid (∀ X, SegP X p g s0.r M → Calls Try.prog 20 #[.pointer (some ⟨p, 0, none⟩)] X fun e w' => e = .returned (.bool (decide ((K : Int) ≤ s0.r))) ∧ Below X.heap.size X w') := H2
            have HQ3 : Hid (∀ X, SegP X p g s0.r M → Calls Try.prog 23 #[.pointer (some ⟨p, 0, none⟩), .int .u8 1] X fun e w' => ∃ A c, e = .returned (.slice A K c) ∧ Below X.heap.size X w') := H3
            have HD : Hid (SegP wq.drew p g s0.r M ∧ Below W1.heap.size W1 wq.drew) := ⟨hsd, hBd⟩
            clear m0 m1 H2 H3 hst hBt hK hsd hBd ht1 ht5 hge
            go_wp2_with fail
            go_region_held3 (fun X => X.cell? ⟨q, 0, none⟩ = some (.int .i64 (Z : Int)) ∧ X.cell? ⟨q, 3, none⟩ = some (.int .i64 s0.r)) (first | exact ⟨e0, e3⟩ | exact ⟨d0, d3⟩ | exact ⟨f0, f3⟩)
              (first
              | (go_at_call 18; refine (HQ0.out _ _ HD.out.1).mono ?_; rintro e w7 ⟨rfl, hww⟩; replace hww := hww.symm; subst hww; first | rw [HM01.out.1] | rw [HM01.out.2])
              | (go_at_call 20; refine (HQ2.out _ HD.out.1).mono ?_; rintro e w8 ⟨rfl, hb8⟩; have HS8 : Hid (SegP w8 p g s0.r M ∧ Below W1.heap.size W1 w8) := ⟨HD.out.1.under hb8, HD.out.2.trans (hb8.mono HD.out.2.size)⟩; clear hb8; obtain ⟨d0, d1, d2, d3⟩ := HC.out HS8.out.2; clear d1 d2; rw [HG.out.2.2.2.2.2] at d0)
              | (go_at_call 23; refine (HQ3.out _ HS8.out.1).mono ?_; rintro e w9 ⟨A9, c9, rfl, hb9⟩; have HS9 : Hid (SegP w9 p g s0.r M ∧ Below W1.heap.size W1 w9) := ⟨HS8.out.1.under hb9, HS8.out.2.trans (hb9.mono HS8.out.2.size)⟩; clear hb9; obtain ⟨f0, f1, f2, f3⟩ := HC.out HS9.out.2; clear f1 f2; rw [HG.out.2.2.2.2.2] at f0))
            go_wp2
            go_roundw
            case rel => exact ⟨k + 1, M, by simp, by have := HK.out; omega, HS9.out.1, HS.out.2.1, HS9.out.2⟩
            case measure => have := HK.out; simp [intOf]; omega
    · have hge' : ¬ (k : Int) < n1 := by omega
      clear hsk hgk hBk hk hge
      go_wp2
      go_ret
      exact ⟨rfl, HO.out HI.out.2.2.1⟩

set_option maxRecDepth 100000 in
theorem lifted (os : Os) (started : os.Started) (H : Type) (enc : TypeId × Value → H) :
    ReturnsInHanded {} Try.checked os 4 .any (Rows.segPartsSpec.pre6 enc Try.prog Try.f4 Rows.segPartsRow.domain false) (Rows.segPartsSpec.post enc Try.prog Try.f4 false true false false) := by
  refine returnsInHanded_of_change (C := Try.checked) own started (by kernel_rfl) Try.func4
    (ChangeSpec.witness6 (enc := enc) (C := Try.checked) false ⟨#[], #[.agg #[.int .i64 0, .int .i64 0, .int .i64 0, .int .i64 0], .slice none 0 0], []⟩ 8 (by kernel_rfl) (by kernel_rfl) (by kernel_rfl) (by kernel_rfl)) ?_
  intro W base args ds gs before hval0 hW hcnd _
  have hval : ∀ (j : Nat) t v, Try.f4.params[j]? = some t → args[j]? = some v → Value.okWide Try.prog W .any base t v := hval0
  have hW' := hW
  obtain ⟨p, q, hA0, hV, rfl, hfz, hnd⟩ := hW
  have hA : DataW.TrodAll enc Try.prog W 0 (fun _ => true) true Try.f4.params.toList args.toList ds p := hA0
  rw [Try.params4] at hA hval
  obtain ⟨v0, vs0, d0, ds0, p0, q0, hargs, rfl, rfl, h0, r0⟩ := trodAll_cons hA
  obtain ⟨v1, vs1, d1, ds1, p1, q1, rfl, rfl, rfl, h1, r1⟩ := trodAll_cons r0
  obtain ⟨rfl, rfl, rfl⟩ := trodAll_nil r1
  obtain rfl : args = #[v0, v1] := by cases args; simp_all
  obtain ⟨rfl, rfl⟩ := trodVars_none hV
  have k0 := h0
  have lt0 : ∀ x ∈ p0, x.block < W.heap.size := by obtain ⟨m, hm⟩ := k0; exact DataW.trod_lt m _ _ _ hm
  obtain ⟨s0, rfl, w0⟩ := open_shape (hval 0 23 v0 rfl rfl) h0
  obtain ⟨a1, n1, c1, rfl⟩ := okWide_slice Try.underlying24 (hval 1 24 v1 rfl rfl)
  have k1 := h1
  have lt1 : ∀ x ∈ p1, x.block < W.heap.size := by obtain ⟨m, hm⟩ := k1; exact DataW.trod_lt m _ _ _ hm
  obtain ⟨x1, w1⟩ := open_ops h1
  clear hA0 hval0
  refine (walk s0 a1 n1 c1 x1 W w0 w1).mono fun e W' ⟨he, bel⟩ => ?_
  subst he
  exact ⟨_, rfl, _, _, _, [], _, [], hW', trodAll_mk1 (shut_bool Try.underlying4 _), (trodAll_cons_mk (Below.trod laidOut (by kernel_rfl) (of_decide_eq_true (by kernel_rfl)) k0 bel lt0) (trodAll_cons_mk (Below.trod laidOut (by kernel_rfl) (of_decide_eq_true (by kernel_rfl)) k1 bel lt1) trodAll_mk0)), rfl, bel.frame _, fun h => by cases h⟩

theorem over : Rows.segPartsRow.holds Try.pinned (OpenSpec.ofChange Rows.segPartsSpec) :=
  OpenClaim.holds_of_wide 4 Try.f4 rfl rfl rfl rfl rfl rfl rfl ⟨rfl, rfl, rfl, rfl, rfl⟩ rfl rfl rfl rfl rfl (by kernel_rfl) Try.func4 (by kernel_rfl)
    (of_decide_eq_true (by kernel_rfl)) (by unfold Func.isWrapper; first | (rw [if_pos (by decide +kernel)]; kernel_rfl) | (rw [if_neg (by decide +kernel)]; exact ⟨rfl, rfl⟩))
    (fun os started H enc _ => lifted os started H enc)

end Go.Proofs.Ytofccgcddomcfaa.segParts
namespace Go.Proofs.Ytofccgcddomcfaa
/-- The statement. -/
theorem segParts_holds : Rows.SegPartsSaid := segParts.over
#print axioms segParts_holds
end Go.Proofs.Ytofccgcddomcfaa
