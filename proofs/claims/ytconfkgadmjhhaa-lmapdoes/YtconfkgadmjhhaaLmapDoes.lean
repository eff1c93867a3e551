/- For every row of at most 150 calls: each answers as the chapter says; so do Get, At, In, Count and All behind each. -/
import Derived.Test.YtconfkgadmjhhaaRows
import Derived.Test.YtconfkgadmjhhaaLmZ
import Derived.Test.YtconfkgadmjhhaaLmV
import Derived.WalkKit
import Derived.ProofKit
import Derived.OpenShut
import Derived.ShutString
import Derived.ChangeOld
import Derived.Below
namespace Go.Proofs.Ytconfkgadmjhhaa.lmapDoes
open Go.ChangeShapes Go.WideShapes Go.ChangeAt Go.RowKit
open Go.ChangeMaps (open_string shut_string)
set_option linter.unusedVariables false

theorem own : ownKnob Try.prog.godebug = none := by kernel_rfl
theorem laidOut : laidOutB Try.prog = true := by kernel_rfl

set_option maxRecDepth 20000 in
set_option maxHeartbeats 16000000 in
theorem walk (a0 : Option Addr) (n0 c0 : Nat) (x0 : List Opn) (w : World) (w0 : OpsIn w a0 n0 x0 ∧ OpsF x0) :
    Calls Try.prog 3 #[.slice a0 n0 c0] w fun e w' => e = .returned (.bool true) ∧ Below w.heap.size w w' := by
  obtain ⟨⟨hl, hat0⟩, hF⟩ := w0
  subst hl
  have HB : Hid (True ∧ Below w.heap.size w w) := ⟨trivial, Below.refl _ _⟩
  have HI : Hid (OpsIn w a0 x0.length x0 ∧ OpsF x0 ∧ True) := ⟨⟨rfl, hat0⟩, hF, trivial⟩
  clear hat0 hF
  by_cases hgt : 150 < x0.length
  · have hgt' : (150 : Int) < (x0.length : Int) := by omega
    have hgd : decide ((150 : Int) < (x0.length : Int)) = true := decide_eq_true hgt'
    have C := mknown_of w
    go_enter Try.func3, Try.ntmps3
    go_wp2_with fail
    refine C.mono ?_
    rintro e w1 ⟨rfl, b1⟩
    have HE : Hid (Below w.heap.size w w1) := below_on HB.out.2 b1
    clear C b1 HB
    go_wp2
    go_ret
    exact ⟨rfl, HE.out⟩
  · have hle : x0.length ≤ 150 := by omega
    have hle' : (x0.length : Int) ≤ 150 := by omega
    have hgd : decide ((150 : Int) < (x0.length : Int)) = false := decide_eq_false (by omega)
    have C := mknown_of w
    go_enter Try.func3, Try.ntmps3
    go_wp2_with fail
    refine C.mono ?_
    rintro e w1 ⟨rfl, bel1⟩
    have C1 := mNew_of w1
    clear C
    go_wp2_with fail
    refine C1.mono ?_
    rintro e w2 ⟨p, b1, b2, rfl, hP2, bel2, lp, l1, l2⟩
    have C2 := dmNew_of w2
    clear C1
    go_wp2_with fail
    refine C2.mono ?_
    rintro e w3 ⟨rfl, hD3, bel3⟩
    have s1 := bel1.size
    have s2 := bel2.size
    have HS : Hid (Both w p b1 b2 w2.heap.size [] 0 w3) := ⟨hP2.below bel3, hD3, below_on (below_on bel1 bel2) bel3, by omega⟩
    clear C2 hP2 hD3 bel1 bel2 bel3 lp l1 l2 s1 s2
    generalize w2.heap.size = r at HS ⊢
    go_wp2_with fail
    go_loopw [5, 6, 7, 8, 9, 10, 11, 12, 13, 14, 15, 16] (fun i _ _ _ _ _ _ _ _ _ _ _ wr => ∃ k : Nat, k ≤ x0.length ∧ i = .int .i64 k ∧ Both w p b1 b2 r (goS (x0.take k)) k wr) (fun i _ _ _ _ _ _ _ _ _ _ _ _ => x0.length - (intOf i).toNat)
    case atStart => exact ⟨0, by omega, rfl, HS.out⟩
    case round =>
      obtain ⟨k, hk, rfl, hBo⟩ := hrel
      by_cases hlt : k < x0.length
      · have hlt' : (k : Int) < (x0.length : Int) := by omega
        obtain ⟨o, ho⟩ : ∃ o, x0[k]? = some o := ⟨_, List.getElem?_eq_getElem hlt⟩
        obtain ⟨g, off, rfl, hcell⟩ := HI.out.1.2.resolve_left (by omega)
        obtain ⟨y0, y1, y2, y3, y4⟩ := hcell k o ho
        have hFo := HI.out.2.1 o (List.mem_of_getElem? ho)
        have HYY : Hid (∀ W, Below w.heap.size w W → W.cell? ⟨g, off + k * 5 + 1, none⟩ = some (.int .u32 o.2.1.1) ∧ W.cell? ⟨g, off + k * 5 + 2, none⟩ = some (.int .u64 o.2.1.2) ∧ W.cell? ⟨g, off + k * 5 + 3, none⟩ = some (.int .i64 o.2.2.1) ∧ W.cell? ⟨g, off + k * 5 + 4, none⟩ = some (.int .i64 o.2.2.2)) := fun W hW => ⟨(hW.cell (old_block y1)).trans y1, (hW.cell (old_block y2)).trans y2, (hW.cell (old_block y3)).trans y3, (hW.cell (old_block y4)).trans y4⟩
        have y0 := (hBo.bel.cell (old_block y0)).trans y0
        have y1 := (hBo.bel.cell (old_block y1)).trans y1
        have y2 := (hBo.bel.cell (old_block y2)).trans y2
        have y3 := (hBo.bel.cell (old_block y3)).trans y3
        have y4 := (hBo.bel.cell (old_block y4)).trans y4
        have hSl := goS_len x0 HI.out.2.1 k hk
        have C := mdoes_of p b1 b2 r (goS (x0.take k)) k o wr hBo.lp hBo.ld hFo (by omega) (by omega)
        have HST : Hid (goS (x0.take (k + 1)) = doS (goS (x0.take k)) o) := goS_step x0 k o ho
        have hSl1 := goS_len x0 HI.out.2.1 (k + 1) (by omega)
        have HBo : Hid (Both w p b1 b2 r (goS (x0.take k)) k wr) := hBo
        clear hcell ho hBo
        go_wp2_with fail
        refine C.mono ?_
        rintro e w4 ⟨rfl, hp4, hd4, ho4⟩
        have hN := HBo.out.does hp4 hd4 ho4
        rw [← HST.out] at hN
        have HFo : Hid (FitsP o.2) := hFo
        obtain ⟨S, hSe⟩ : ∃ S, S = goS (x0.take (k + 1)) := ⟨_, rfl⟩
        rw [← hSe] at hN hSl1
        have HSE : Hid (S = goS (x0.take (k + 1))) := hSe
        have H4 : Hid (Both w p b1 b2 r S (k + 1) w4) := hN
        obtain ⟨y1, y2, y3, y4⟩ := HYY.out w4 hN.bel
        clear C hp4 hd4 ho4 HBo HST y0 hN hSe hFo
        obtain ⟨dr, x⟩ := o
        simp only at y1 y2 y3 y4
        have bP : Below w4.heap.size w4 (w4.alloc (.cells #[.int .u32 x.1.1, .int .u64 x.1.2, .int .i64 x.2.1, .int .i64 x.2.2] 34)) := (Below.refl _ _).alloc (Nat.le_refl _) _
        have H5 : Hid (Both w p b1 b2 r S (k + 1) (w4.alloc (.cells #[.int .u32 x.1.1, .int .u64 x.1.2, .int .i64 x.2.1, .int .i64 x.2.2] 34)) ∧ Blk (w4.alloc (.cells #[.int .u32 x.1.1, .int .u64 x.1.2, .int .i64 x.2.1, .int .i64 x.2.2] 34)) w4.heap.size (plL x) 34) := ⟨H4.out.below bP, Blk.new' rfl rfl⟩
        obtain ⟨s, bo, hs1, hs2, _⟩ := get_told S x.1
        have C1 := mGet_of p b1 b2 S (k + 1) x.1 _ H5.out.1.lp HFo.out.1
        rw [hs1, hs2] at C1
        clear bP H4
        go_wp2_with fail
        generalize w4.alloc (.cells #[.int .u32 x.1.1, .int .u64 x.1.2, .int .i64 x.2.1, .int .i64 x.2.2] 34) = W5 at C1 H5 ⊢
        generalize w4.heap.size = q7 at H5 ⊢
        refine C1.mono ?_
        rintro e w6 ⟨rfl, b6⟩
        have bQ : Below W5.heap.size W5 (w6.alloc (.cells #[.int .i64 s.1, .int .i64 s.2] 32)) := b6.alloc b6.size _
        have H6 : Hid (Both w p b1 b2 r S (k + 1) (w6.alloc (.cells #[.int .i64 s.1, .int .i64 s.2] 32)) ∧ Blk (w6.alloc (.cells #[.int .i64 s.1, .int .i64 s.2] 32)) q7 (plL x) 34 ∧ Blk (w6.alloc (.cells #[.int .i64 s.1, .int .i64 s.2] 32)) w6.heap.size (prL .i64 .i64 s) 32) := ⟨H5.out.1.below bQ, H5.out.2.below bQ H5.out.2.lt, Blk.new' rfl rfl⟩
        have C2 := dmGet_of r S x.1 _ H6.out.1.ld (by omega)
        rw [hs1, hs2] at C2
        obtain ⟨v0, v1, v2, v3⟩ := H6.out.2.1.four
        clear C1 b6 bQ H5 hs1 hs2 y1 y2 y3 y4
        go_wp2_with fail
        generalize w6.alloc (.cells #[.int .i64 s.1, .int .i64 s.2] 32) = W6 at C2 H6 v0 v1 v2 v3 ⊢
        generalize w6.heap.size = q8 at H6 ⊢
        refine C2.mono ?_
        rintro e w7 ⟨rfl, b7⟩
        have bQ : Below W6.heap.size W6 (w7.alloc (.cells #[.int .i64 s.1, .int .i64 s.2] 32)) := b7.alloc b7.size _
        have H7 : Hid (Both w p b1 b2 r S (k + 1) (w7.alloc (.cells #[.int .i64 s.1, .int .i64 s.2] 32)) ∧ Blk (w7.alloc (.cells #[.int .i64 s.1, .int .i64 s.2] 32)) q7 (plL x) 34 ∧ Blk (w7.alloc (.cells #[.int .i64 s.1, .int .i64 s.2] 32)) q8 (prL .i64 .i64 s) 32 ∧ Blk (w7.alloc (.cells #[.int .i64 s.1, .int .i64 s.2] 32)) w7.heap.size (prL .i64 .i64 s) 32) := ⟨H6.out.1.below bQ, H6.out.2.1.below bQ H6.out.2.1.lt, H6.out.2.2.below bQ H6.out.2.2.lt, Blk.new' rfl rfl⟩
        obtain ⟨v0, v1, v2, v3⟩ := H7.out.2.1.four
        obtain ⟨held, hh⟩ : ∃ held, (atS S x.2).isSome = held := ⟨_, rfl⟩
        obtain ⟨pv, hpv⟩ : ∃ pv : Pl, atV (atS S x.2) x.2 = .agg #[.int .u32 pv.1.1, .int .u64 pv.1.2, .int .i64 pv.2.1, .int .i64 pv.2.2] := by
          cases atS S x.2 with
          | none => exact ⟨pl0, rfl⟩
          | some n => exact ⟨(n, x.2), rfl⟩
        have C3 := mAt_of p b1 b2 S (k + 1) x.2 _ H7.out.1.lp HFo.out.2
        rw [hh, hpv] at C3
        clear C2 b7 bQ H6
        go_wp2_with fail
        generalize w7.alloc (.cells #[.int .i64 s.1, .int .i64 s.2] 32) = W7 at C3 H7 v0 v1 v2 v3 ⊢
        generalize w7.heap.size = q10 at H7 ⊢
        refine C3.mono ?_
        rintro e w8 ⟨rfl, b8⟩
        have bQ : Below W7.heap.size W7 (w8.alloc (.cells #[.int .u32 pv.1.1, .int .u64 pv.1.2, .int .i64 pv.2.1, .int .i64 pv.2.2] 34)) := b8.alloc b8.size _
        have H8 : Hid (Both w p b1 b2 r S (k + 1) (w8.alloc (.cells #[.int .u32 pv.1.1, .int .u64 pv.1.2, .int .i64 pv.2.1, .int .i64 pv.2.2] 34)) ∧ Blk (w8.alloc (.cells #[.int .u32 pv.1.1, .int .u64 pv.1.2, .int .i64 pv.2.1, .int .i64 pv.2.2] 34)) q7 (plL x) 34 ∧ Blk (w8.alloc (.cells #[.int .u32 pv.1.1, .int .u64 pv.1.2, .int .i64 pv.2.1, .int .i64 pv.2.2] 34)) q8 (prL .i64 .i64 s) 32 ∧ Blk (w8.alloc (.cells #[.int .u32 pv.1.1, .int .u64 pv.1.2, .int .i64 pv.2.1, .int .i64 pv.2.2] 34)) q10 (prL .i64 .i64 s) 32 ∧ Blk (w8.alloc (.cells #[.int .u32 pv.1.1, .int .u64 pv.1.2, .int .i64 pv.2.1, .int .i64 pv.2.2] 34)) w8.heap.size (plL pv) 34) := ⟨H7.out.1.below bQ, H7.out.2.1.below bQ H7.out.2.1.lt, H7.out.2.2.1.below bQ H7.out.2.2.1.lt, H7.out.2.2.2.below bQ H7.out.2.2.2.lt, Blk.new' rfl rfl⟩
        obtain ⟨v0, v1, v2, v3⟩ := H8.out.2.1.four
        have C4 := dmAt_of r S x.2 _ H8.out.1.ld (by omega)
        rw [hh, hpv] at C4
        clear C3 b8 bQ H7 hh hpv
        go_wp2_with fail
        generalize w8.alloc (.cells #[.int .u32 pv.1.1, .int .u64 pv.1.2, .int .i64 pv.2.1, .int .i64 pv.2.2] 34) = W8 at C4 H8 v0 v1 v2 v3 ⊢
        generalize w8.heap.size = q12 at H8 ⊢
        refine C4.mono ?_
        rintro e w9 ⟨rfl, b9⟩
        have bQ : Below W8.heap.size W8 (w9.alloc (.cells #[.int .u32 pv.1.1, .int .u64 pv.1.2, .int .i64 pv.2.1, .int .i64 pv.2.2] 34)) := b9.alloc b9.size _
        have H9 : Hid (Both w p b1 b2 r S (k + 1) (w9.alloc (.cells #[.int .u32 pv.1.1, .int .u64 pv.1.2, .int .i64 pv.2.1, .int .i64 pv.2.2] 34)) ∧ Blk (w9.alloc (.cells #[.int .u32 pv.1.1, .int .u64 pv.1.2, .int .i64 pv.2.1, .int .i64 pv.2.2] 34)) q7 (plL x) 34 ∧ Blk (w9.alloc (.cells #[.int .u32 pv.1.1, .int .u64 pv.1.2, .int .i64 pv.2.1, .int .i64 pv.2.2] 34)) q8 (prL .i64 .i64 s) 32 ∧ Blk (w9.alloc (.cells #[.int .u32 pv.1.1, .int .u64 pv.1.2, .int .i64 pv.2.1, .int .i64 pv.2.2] 34)) q10 (prL .i64 .i64 s) 32 ∧ Blk (w9.alloc (.cells #[.int .u32 pv.1.1, .int .u64 pv.1.2, .int .i64 pv.2.1, .int .i64 pv.2.2] 34)) q12 (plL pv) 34 ∧ Blk (w9.alloc (.cells #[.int .u32 pv.1.1, .int .u64 pv.1.2, .int .i64 pv.2.1, .int .i64 pv.2.2] 34)) w9.heap.size (plL pv) 34) := ⟨H8.out.1.below bQ, H8.out.2.1.below bQ H8.out.2.1.lt, H8.out.2.2.1.below bQ H8.out.2.2.1.lt, H8.out.2.2.2.1.below bQ H8.out.2.2.2.1.lt, H8.out.2.2.2.2.below bQ H8.out.2.2.2.2.lt, Blk.new' rfl rfl⟩
        clear C4 b9 bQ H8 v0 v1 v2 v3
        go_wp2_with fail
        generalize w9.alloc (.cells #[.int .u32 pv.1.1, .int .u64 pv.1.2, .int .i64 pv.2.1, .int .i64 pv.2.2] 34) = W9 at H9 ⊢
        generalize w9.heap.size = q14 at H9 ⊢
        obtain ⟨hBo9, k7, k8, k10, k12, k14⟩ := H9.out
        obtain ⟨v0, v1, v2, v3⟩ := k7.four
        have t0 := k8.cell 0
        have t1 := k8.cell 1
        have u0 := k10.cell 0
        have u1 := k10.cell 1
        simp only [prL, List.getElem?_cons_zero, List.getElem?_cons_succ] at t0 t1 u0 u1
        obtain ⟨f0, f1, f2, f3⟩ := k12.four
        obtain ⟨g0, g1, g2, g3⟩ := k14.four
        have hA := fun W => eqlA s s W
        have hP := fun W => eqlP pv pv W
        simp only [beq_self_eq_true] at hA hP
        have CA := mCount_of p b1 b2 S (k + 1) x.1.1 W9.drew hBo9.lp.drew (by omega)
        have CB := fun X (hX : LmD X r S) => dmCount_of r S x.1.1 X hX (by omega)
        generalize cntS S x.1.1 = N at CA CB
        clear hBo9 k7 k8 k10 k12 k14
        go_region_held3 (fun X => (X.cell? ⟨q7, 0, none⟩ = some (.int .u32 x.1.1) ∧ X.cell? ⟨q8, 0, none⟩ = some (.int .i64 s.1) ∧ X.cell? ⟨q8, 1, none⟩ = some (.int .i64 s.2) ∧ X.cell? ⟨q10, 0, none⟩ = some (.int .i64 s.1) ∧ X.cell? ⟨q10, 1, none⟩ = some (.int .i64 s.2)) ∧ (X.cell? ⟨q12, 0, none⟩ = some (.int .u32 pv.1.1) ∧ X.cell? ⟨q12, 1, none⟩ = some (.int .u64 pv.1.2) ∧ X.cell? ⟨q12, 2, none⟩ = some (.int .i64 pv.2.1) ∧ X.cell? ⟨q12, 3, none⟩ = some (.int .i64 pv.2.2)) ∧ X.cell? ⟨q14, 0, none⟩ = some (.int .u32 pv.1.1) ∧ X.cell? ⟨q14, 1, none⟩ = some (.int .u64 pv.1.2) ∧ X.cell? ⟨q14, 2, none⟩ = some (.int .i64 pv.2.1) ∧ X.cell? ⟨q14, 3, none⟩ = some (.int .i64 pv.2.2)) (first | exact ⟨⟨v0, t0, t1, u0, u1⟩, ⟨f0, f1, f2, f3⟩, g0, g1, g2, g3⟩ | exact HC10.out)
          (first
          | (go_simp; go_at_call 16; refine CA.mono ?_; rintro e w10 ⟨rfl, b10⟩; have b10' : Below W9.heap.size W9 w10 := ⟨b10.os, b10.tape, b10.output, b10.size, b10.block⟩; have HC10 : Hid ((w10.cell? ⟨q7, 0, none⟩ = some (.int .u32 x.1.1) ∧ w10.cell? ⟨q8, 0, none⟩ = some (.int .i64 s.1) ∧ w10.cell? ⟨q8, 1, none⟩ = some (.int .i64 s.2) ∧ w10.cell? ⟨q10, 0, none⟩ = some (.int .i64 s.1) ∧ w10.cell? ⟨q10, 1, none⟩ = some (.int .i64 s.2)) ∧ (w10.cell? ⟨q12, 0, none⟩ = some (.int .u32 pv.1.1) ∧ w10.cell? ⟨q12, 1, none⟩ = some (.int .u64 pv.1.2) ∧ w10.cell? ⟨q12, 2, none⟩ = some (.int .i64 pv.2.1) ∧ w10.cell? ⟨q12, 3, none⟩ = some (.int .i64 pv.2.2)) ∧ w10.cell? ⟨q14, 0, none⟩ = some (.int .u32 pv.1.1) ∧ w10.cell? ⟨q14, 1, none⟩ = some (.int .u64 pv.1.2) ∧ w10.cell? ⟨q14, 2, none⟩ = some (.int .i64 pv.2.1) ∧ w10.cell? ⟨q14, 3, none⟩ = some (.int .i64 pv.2.2)) := ⟨⟨(b10'.cell (old_block v0)).trans v0, (b10'.cell (old_block t0)).trans t0, (b10'.cell (old_block t1)).trans t1, (b10'.cell (old_block u0)).trans u0, (b10'.cell (old_block u1)).trans u1⟩, ⟨(b10'.cell (old_block f0)).trans f0, (b10'.cell (old_block f1)).trans f1, (b10'.cell (old_block f2)).trans f2, (b10'.cell (old_block f3)).trans f3⟩, (b10'.cell (old_block g0)).trans g0, (b10'.cell (old_block g1)).trans g1, (b10'.cell (old_block g2)).trans g2, (b10'.cell (old_block g3)).trans g3⟩; have H10 : Hid (Both w p b1 b2 r S (k + 1) w10 ∧ Blk w10 q7 (plL x) 34) := ⟨H9.out.1.below b10', H9.out.2.1.below b10' H9.out.2.1.lt⟩; clear b10 b10')
          | (go_simp; go_at_call 17; refine (CB _ H10.out.1.ld).mono ?_; rintro e w11 ⟨rfl, hw11⟩; replace hw11 := hw11.symm; subst hw11))
        all_goals (
          clear CA CB v0 v1 v2 v3 t0 t1 u0 u1 f0 f1 f2 f3 g0 g1 g2 g3 hA hP HC10
          have CI := mIn_of p b1 b2 S (k + 1) x.2.1 w10.drew H10.out.1.lp.drew (by omega)
          have z0 : w10.cell? ⟨q7, 2, none⟩ = some (.int .i64 x.2.1) := H10.out.2.cell 2
          have hS10 : S.length ≤ 10000 := by omega
          go_wp2_with fail
          go_region_held3 (fun X => X.cell? ⟨q7, 2, none⟩ = some (.int .i64 x.2.1)) (first | exact z0 | exact zC | exact zB | exact zA | exact zF | exact zE | exact zD)
            (first
            | (go_simp; go_at_call 19; refine CI.mono ?_; rintro e wA ⟨LA, aA, nA, cA, rfl, hIA, hOA, bA⟩; have bA' : Below w10.heap.size w10 wA := ⟨bA.os, bA.tape, bA.output, bA.size, bA.block⟩; have zA := (bA'.cell (old_block z0)).trans z0; have HA : Hid (IsIn S x.2.1 LA ∧ PlIn wA aA nA LA ∧ Both w p b1 b2 r S (k + 1) wA) := ⟨hIA, own_pl hOA, H10.out.1.below bA'⟩; clear hIA hOA bA bA')
            | (go_simp; go_at_call 20; refine (dmIn_of r S x.2.1 _ HA.out.2.2.ld hS10).mono ?_; rintro e wB ⟨LB, aB, cB, rfl, hIB, hPB, bB⟩; have zB := (bB.cell (old_block zA)).trans zA; obtain rfl : LA = LB := HA.out.1.one hIB; obtain rfl : LA.length = nA := HA.out.2.1.1; have HBB : Hid (PlIn wB aA LA.length LA ∧ PlIn wB aB LA.length LA ∧ Both w p b1 b2 r S (k + 1) wB ∧ LA.length ≤ 10000) := ⟨HA.out.2.1.below bB, hPB, HA.out.2.2.below bB, by have h1 := HA.out.1.len HA.out.2.2.lp.good; have h2 := List.length_filter_le (fun q : Pl => q.2.1 == x.2.1) S; omega⟩; clear hIB hPB bB)
            | (go_simp; go_at_call 18; refine (samePlaces_of aD aE S.length cD cE S _ HE.out.1 HE.out.2.1 (by omega)).mono ?_; rintro e wF ⟨rfl, bF⟩; have zF := (bF.cell (old_block zE)).trans zE; have HF : Hid (Both w p b1 b2 r S (k + 1) wF) := HE.out.2.2.below bF; clear bF)
            | (go_simp; go_at_call 18; refine (samePlaces_of aA aB LA.length cA cB LA _ HBB.out.1 HBB.out.2.1 (by have := HBB.out.2.2.2; omega)).mono ?_; rintro e wC ⟨rfl, bC⟩; have zC := (bC.cell (old_block zB)).trans zB; have HC : Hid (Both w p b1 b2 r S (k + 1) wC) := HBB.out.2.2.1.below bC; clear bC)
            | (go_simp; go_at_call 21; refine (mAll_of p b1 b2 S (k + 1) _ HC.out.lp (by omega)).mono ?_; rintro e wD ⟨aD, nD, cD, rfl, hOD, bD⟩; have zD := (bD.cell (old_block zC)).trans zC; obtain rfl : S.length = nD := (own_pl hOD).1; have HD : Hid (PlIn wD aD S.length S ∧ Both w p b1 b2 r S (k + 1) wD) := ⟨own_pl hOD, HC.out.below bD⟩; clear hOD bD)
            | (go_simp; go_at_call 22; refine (dmAll_of r S _ HD.out.2.ld hS10).mono ?_; rintro e wE ⟨aE, cE, rfl, hPE, bE⟩; have zE := (bE.cell (old_block zD)).trans zD; have HE : Hid (PlIn wE aD S.length S ∧ PlIn wE aE S.length S ∧ Both w p b1 b2 r S (k + 1) wE) := ⟨HD.out.1.below bE, hPE, HD.out.2.below bE⟩; clear hPE bE))
          all_goals (
            go_wp2
            go_roundw
            case rel => exact ⟨k + 1, by omega, by go_num, by rw [← HSE.out]; exact HF.out⟩
            case measure => simp [intOf]; omega))
      · have hge : (x0.length : Int) ≤ k := by omega
        have HE : Hid (Below w.heap.size w wr) := hBo.bel
        clear hBo
        go_wp2
        go_ret
        exact ⟨rfl, HE.out⟩

set_option maxRecDepth 100000 in
theorem lifted (os : Os) (started : os.Started) (H : Type) (enc : TypeId × Value → H) :
    ReturnsInHanded {} Try.checked os 3 .any (Rows.lmapDoesSpec.pre6 enc Try.prog Try.f3 Rows.lmapDoesRow.domain false) (Rows.lmapDoesSpec.post enc Try.prog Try.f3 false true false false) := by
  refine returnsInHanded_of_change (C := Try.checked) own started (by kernel_rfl) Try.func3
    (ChangeSpec.witness6 (enc := enc) (C := Try.checked) false ⟨#[], #[.slice none 0 0], []⟩ 8 (by kernel_rfl) (by kernel_rfl) (by kernel_rfl) (by kernel_rfl)) ?_
  intro W base args ds gs before hval0 hW hcnd _
  have hval : ∀ (j : Nat) t v, Try.f3.params[j]? = some t → args[j]? = some v → Value.okWide Try.prog W .any base t v := hval0
  have hW' := hW
  obtain ⟨p, q, hA0, hV, rfl, hfz, hnd⟩ := hW
  have hA : DataW.TrodAll enc Try.prog W 0 (fun _ => true) true Try.f3.params.toList args.toList ds p := hA0
  rw [Try.params3] at hA hval
  obtain ⟨v0, vs0, d0, ds0, p0, q0, hargs, rfl, rfl, h0, r0⟩ := trodAll_cons hA
  obtain ⟨rfl, rfl, rfl⟩ := trodAll_nil r0
  obtain rfl : args = #[v0] := by cases args; simp_all
  obtain ⟨rfl, rfl⟩ := trodVars_none hV
  obtain ⟨a0, n0, c0, rfl⟩ := okWide_slice Try.underlying22 (hval 0 22 v0 rfl rfl)
  have k0 := h0
  have lt0 : ∀ x ∈ p0, x.block < W.heap.size := by obtain ⟨m, hm⟩ := k0; exact DataW.trod_lt m _ _ _ hm
  obtain ⟨x0, w0⟩ := open_ops h0
  clear hA0 hval0
  refine (walk a0 n0 c0 x0 W w0).mono fun e W' ⟨he, bel⟩ => ?_
  subst he
  exact ⟨_, rfl, _, _, _, [], _, [], hW', trodAll_mk1 (shut_bool Try.underlying4 _), (trodAll_cons_mk (Below.trod laidOut (by kernel_rfl) (of_decide_eq_true (by kernel_rfl)) k0 bel lt0) trodAll_mk0), rfl, bel.frame _, fun h => by cases h⟩

theorem over : Rows.lmapDoesRow.holds Try.pinned (OpenSpec.ofChange Rows.lmapDoesSpec) :=
  OpenClaim.holds_of_wide 3 Try.f3 rfl rfl rfl rfl rfl rfl rfl ⟨rfl, rfl, rfl, rfl, rfl⟩ rfl rfl rfl rfl rfl (by kernel_rfl) Try.func3 (by kernel_rfl)
    (of_decide_eq_true (by kernel_rfl)) (by unfold Func.isWrapper; first | (rw [if_pos (by decide +kernel)]; kernel_rfl) | (rw [if_neg (by decide +kernel)]; exact ⟨rfl, rfl⟩))
    (fun os started H enc _ => lifted os started H enc)

end Go.Proofs.Ytconfkgadmjhhaa.lmapDoes
namespace Go.Proofs.Ytconfkgadmjhhaa
/-- The statement. -/
theorem lmapDoes_holds : Rows.LmapDoesSaid := lmapDoes.over
#print axioms lmapDoes_holds
end Go.Proofs.Ytconfkgadmjhhaa
