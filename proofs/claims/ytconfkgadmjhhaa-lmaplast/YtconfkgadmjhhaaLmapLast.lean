/- For every row of at most 150 calls, and one call more: what was put last of a block or a place is what counts; a drop lets it be nowhere. -/
import Derived.Test.YtconfkgadmjhhaaRows
import Derived.Test.YtconfkgadmjhhaaLmO
import Derived.WalkKit
import Derived.ProofKit
import Derived.OpenShut
import Derived.ShutString
import Derived.ChangeOld
import Derived.Below
namespace Go.Proofs.Ytconfkgadmjhhaa.lmapLast
open Go.ChangeShapes Go.WideShapes Go.ChangeAt Go.RowKit
open Go.ChangeMaps (open_string shut_string)
set_option linter.unusedVariables false

theorem own : ownKnob Try.prog.godebug = none := by kernel_rfl
theorem laidOut : laidOutB Try.prog = true := by kernel_rfl

set_option maxRecDepth 20000 in
set_option maxHeartbeats 16000000 in
theorem walk (a0 : Option Addr) (n0 c0 : Nat) (x0 : List Opn) (o1 : Opn) (w : World) (w0 : OpsIn w a0 n0 x0 ∧ OpsF x0) (w1 : FitsP o1.2) :
    Calls Try.prog 5 #[.slice a0 n0 c0, .agg (opL o1).toArray] w fun e w' => e = .returned (.bool true) ∧ Below w.heap.size w w' := by
  obtain ⟨dr, x⟩ := o1
  change Calls Try.prog 5 #[.slice a0 n0 c0, .agg #[.bool dr, .int .u32 x.1.1, .int .u64 x.1.2, .int .i64 x.2.1, .int .i64 x.2.2]] w _
  obtain ⟨⟨hl, hat0⟩, hF⟩ := w0
  subst hl
  obtain ⟨V0, hV0⟩ : ∃ V, V = w.alloc (.cells #[.bool dr, .int .u32 x.1.1, .int .u64 x.1.2, .int .i64 x.2.1, .int .i64 x.2.2] 36) := ⟨_, rfl⟩
  have HV : Hid (V0 = w.alloc (.cells #[.bool dr, .int .u32 x.1.1, .int .u64 x.1.2, .int .i64 x.2.1, .int .i64 x.2.2] 36)) := hV0
  have HB : Hid (Blk V0 w.heap.size (opL (dr, x)) 36 ∧ Below w.heap.size w V0) := by rw [hV0]; exact ⟨Blk.new' rfl rfl, (Below.refl _ _).alloc (Nat.le_refl _) _⟩
  have HI : Hid (OpsIn V0 a0 x0.length x0 ∧ OpsF x0 ∧ FitsP x) := ⟨OpsIn.below ⟨rfl, hat0⟩ (by rw [hV0]; exact (Below.refl _ _).alloc (Nat.le_refl _) _), hF, w1⟩
  clear hat0 hF w1 hV0
  by_cases hgt : 150 < x0.length
  · have hgt' : (150 : Int) < (x0.length : Int) := by omega
    have hgd : decide ((150 : Int) < (x0.length : Int)) = true := decide_eq_true hgt'
    have C := mknown_of V0
    go_enter Try.func5, Try.ntmps5
    go_wp2_with fail
    rw [← HV.out]
    refine C.mono ?_
    rintro e w1 ⟨rfl, b1⟩
    have HE : Hid (Below w.heap.size w w1) := below_on HB.out.2 b1
    clear C b1 HB
    go_wp2
    go_ret
    exact ⟨rfl, HE.out⟩
  · have hle : x0.length ≤ 150 := by omega
    have hle' : (x0.length : Int) ≤ 150 := by omega
    have hgd : decide ((150 : Int) < (x0.length : Int)) = false := decide_eq_false (by omega)
    have C := mknown_of V0
    go_enter Try.func5, Try.ntmps5
    go_wp2_with fail
    rw [← HV.out]
    refine C.mono ?_
    rintro e w1 ⟨rfl, bel1⟩
    have C1 := mNew_of w1
    clear C HV
    go_wp2_with fail
    refine C1.mono ?_
    rintro e w2 ⟨p, b1, b2, rfl, hP2, bel2, lp, l1, l2⟩
    have C2 := dmNew_of w2
    clear C1
    go_wp2_with fail
    refine C2.mono ?_
    rintro e w3 ⟨rfl, hD3, bel3⟩
    have s1 := bel1.size
    have s2 := bel2.size
    have HS : Hid (Both V0 p b1 b2 w2.heap.size [] 0 w3) := ⟨hP2.below bel3, hD3, below_on (below_on bel1 bel2) bel3, by omega⟩
    clear C2 hP2 hD3 bel1 bel2 bel3 lp l1 l2 s1 s2
    generalize w2.heap.size = r at HS ⊢
    go_wp2_with fail
    go_loopw [7] (fun i wr => ∃ k : Nat, k ≤ x0.length ∧ i = .int .i64 k ∧ Both V0 p b1 b2 r (goS (x0.take k)) k wr) (fun i _ => x0.length - (intOf i).toNat)
    case atStart => exact ⟨0, by omega, rfl, HS.out⟩
    case round =>
      obtain ⟨k, hk, rfl, hBo⟩ := hrel
      by_cases hlt : k < x0.length
      · have hlt' : (k : Int) < (x0.length : Int) := by omega
        obtain ⟨o, ho⟩ : ∃ o, x0[k]? = some o := ⟨_, List.getElem?_eq_getElem hlt⟩
        obtain ⟨g, off, rfl, hcell⟩ := HI.out.1.2.resolve_left (by omega)
        obtain ⟨y0, y1, y2, y3, y4⟩ := hcell k o ho
        have y0 := (hBo.bel.cell (old_block y0)).trans y0
        have y1 := (hBo.bel.cell (old_block y1)).trans y1
        have y2 := (hBo.bel.cell (old_block y2)).trans y2
        have y3 := (hBo.bel.cell (old_block y3)).trans y3
        have y4 := (hBo.bel.cell (old_block y4)).trans y4
        have hSl := goS_len x0 HI.out.2.1 k hk
        have C := mdoes_of p b1 b2 r (goS (x0.take k)) k o wr hBo.lp hBo.ld (HI.out.2.1 o (List.mem_of_getElem? ho)) (by omega) (by omega)
        have HST : Hid (goS (x0.take (k + 1)) = doS (goS (x0.take k)) o) := goS_step x0 k o ho
        have HBo : Hid (Both V0 p b1 b2 r (goS (x0.take k)) k wr) := hBo
        clear hcell ho hBo
        go_wp2_with fail
        refine C.mono ?_
        rintro e w4 ⟨rfl, hp4, hd4, ho4⟩
        have HN : Hid (Both V0 p b1 b2 r (goS (x0.take (k + 1))) (k + 1) w4) := by rw [HST.out]; exact HBo.out.does hp4 hd4 ho4
        clear C hp4 hd4 ho4 HBo HST y0 y1 y2 y3 y4
        go_wp2
        go_roundw
        case rel => exact ⟨k + 1, by omega, by go_num, HN.out⟩
        case measure => simp [intOf]; omega
      · have hge : (x0.length : Int) ≤ k := by omega
        have hkn : k = x0.length := by omega
        rw [hkn, List.take_length] at hBo
        obtain ⟨S, hS⟩ : ∃ S, S = goS x0 := ⟨_, rfl⟩
        obtain ⟨c, hc⟩ : ∃ c, c = x0.length := ⟨_, rfl⟩
        have hcl : c ≤ 150 := by omega
        have HL : Hid (S.length ≤ 150) := by
          have := goS_len x0 HI.out.2.1 x0.length (Nat.le_refl _)
          rw [List.take_length, ← hS] at this
          show S.length ≤ 150
          omega
        have HQ : Hid (S = goS x0) := hS
        rw [← hS, ← hc] at hBo
        have HBo : Hid (Both V0 p b1 b2 r S c wr) := hBo
        clear hBo hS hc hkn
        have hq := HB.out.1.below HBo.out.bel HB.out.1.lt
        obtain ⟨z0, z1, z2, z3, z4⟩ := hq.five
        have C1 := mGet_of p b1 b2 S c x.1 wr HBo.out.lp HI.out.2.2.1
        obtain ⟨was, there, hw1, hw2, hw3⟩ := get_told S x.1
        rw [hw1, hw2] at C1
        have HT : Hid ((getS S x.1 = some was ∧ there = true) ∨ (getS S x.1 = none ∧ was = (0, 0) ∧ there = false)) := hw3
        clear hw1 hw2 hw3
        go_wp2_with fail
        refine C1.mono ?_
        rintro e w5 ⟨rfl, bel5⟩
        have bA : Below wr.heap.size wr (w5.alloc (.cells #[.int .i64 was.1, .int .i64 was.2] 32)) := bel5.alloc bel5.size _
        have hq5 := hq.below bA hq.lt
        have hw5 : Blk (w5.alloc (.cells #[.int .i64 was.1, .int .i64 was.2] 32)) w5.heap.size (prL .i64 .i64 was) 32 := Blk.new' rfl rfl
        have HB5 : Hid (Both V0 p b1 b2 r S c (w5.alloc (.cells #[.int .i64 was.1, .int .i64 was.2] 32)) ∧ Blk (w5.alloc (.cells #[.int .i64 was.1, .int .i64 was.2] 32)) w.heap.size (opL (dr, x)) 36 ∧ Blk (w5.alloc (.cells #[.int .i64 was.1, .int .i64 was.2] 32)) w5.heap.size (prL .i64 .i64 was) 32) := ⟨HBo.out.below bA, hq5, hw5⟩
        obtain ⟨z0, z1, z2, z3, z4⟩ := hq5.five
        have hFit := told_fits HBo.out.lp.good HT.out
        clear C1 bel5 bA hq hq5 hw5 HBo
        cases dr with
        | true =>
          have C2 := mDrop_of p b1 b2 S c x.1 _ HB5.out.1.lp HI.out.2.2.1
          have htw : (getS S x.1).isSome = there := by rcases HT.out with ⟨h, e⟩ | ⟨h, _, e⟩ <;> rw [h, e] <;> rfl
          rw [htw] at C2
          go_wp2_with fail
          refine C2.mono ?_
          rintro e w6 ⟨rfl, hp6, o6⟩
          have hl6 : ∀ j, Two b1 b2 j → V0.heap.size ≤ j := by obtain ⟨_, h1, h2, _⟩ := HB5.out.1.hp; rintro j (rfl | rfl) <;> omega
          have nq : ¬ Two b1 b2 w.heap.size := fun e => by have := hl6 _ e; have := HB.out.1.lt; omega
          have nw : ¬ Two b1 b2 w5.heap.size := by
            rintro (e | e)
            · exact HB5.out.1.lp.m1.no_blk HB5.out.2.2 e
            · exact HB5.out.1.lp.m2.no_blk HB5.out.2.2 e
          have hq6 := o6.blk HB5.out.2.1 nq
          have hw6 := o6.blk HB5.out.2.2 nw
          have bel6 : Below V0.heap.size V0 w6 := HB5.out.1.bel.trans (o6.below HB5.out.1.bel.size hl6)
          obtain ⟨z0, z1, z2, z3, z4⟩ := hq6.five
          have C3 := mDrop_of p b1 b2 (dropS S x.1) c x.1 _ hp6 HI.out.2.2.1
          rw [get_drop] at C3
          have H6 : Hid (LmP w6 p b1 b2 (dropS S x.1) c ∧ Below V0.heap.size V0 w6 ∧ Blk w6 w.heap.size (opL (true, x)) 36 ∧ Blk w6 w5.heap.size (prL .i64 .i64 was) 32) := ⟨hp6, bel6, hq6, hw6⟩
          clear C2 hp6 o6 bel6 hq6 hw6 htw
          go_wp2_with fail
          refine C3.mono ?_
          rintro e w7 ⟨rfl, hp7, o7⟩
          have hdd : dropS (dropS S x.1) x.1 = dropS S x.1 := drop_none (get_drop S x.1)
          rw [hdd] at hp7
          have hq7 := o7.blk H6.out.2.2.1 nq
          have hw7 := o7.blk H6.out.2.2.2 nw
          have bel7 : Below V0.heap.size V0 w7 := H6.out.2.1.trans (o7.below H6.out.2.1.size hl6)
          obtain ⟨z0, z1, z2, z3, z4⟩ := hq7.five
          have C4 := mGet_of p b1 b2 (dropS S x.1) c x.1 w7 hp7 HI.out.2.2.1
          rw [get_drop] at C4
          simp only [Option.getD_none, Option.isSome_none] at C4
          have H7 : Hid (LmP w7 p b1 b2 (dropS S x.1) c ∧ Below V0.heap.size V0 w7 ∧ Blk w7 w5.heap.size (prL .i64 .i64 was) 32) := ⟨hp7, bel7, hw7⟩
          clear C3 hp7 o7 bel7 hq7 hw7 H6 hdd nq nw hl6
          go_wp2_with fail
          refine C4.mono ?_
          rintro e w8 ⟨rfl, b8⟩
          have bB : Below w7.heap.size w7 (w8.alloc (.cells #[.int .i64 0, .int .i64 0] 32)) := b8.alloc b8.size _
          have hp8 := H7.out.1.below bB
          have hw8 := H7.out.2.2.below bB H7.out.2.2.lt
          have s0 := hw8.cell 0
          have s1 := hw8.cell 1
          simp only [prL, List.getElem?_cons_zero, List.getElem?_cons_succ] at s0 s1
          have C5 := mAt_of p b1 b2 (dropS S x.1) c was _ hp8 hFit
          obtain ⟨held, hh⟩ : ∃ held, (atS (dropS S x.1) was).isSome = held := ⟨_, rfl⟩
          obtain ⟨pv, hpv⟩ : ∃ pv : Pl, atV (atS (dropS S x.1) was) was = .agg #[.int .u32 pv.1.1, .int .u64 pv.1.2, .int .i64 pv.2.1, .int .i64 pv.2.2] := by
            cases atS (dropS S x.1) was with
            | none => exact ⟨pl0, rfl⟩
            | some n => exact ⟨(n, was), rfl⟩
          rw [hh, hpv] at C5
          have HE : Hid (there = false ∨ held = false) := by
            rcases HT.out with ⟨h, e⟩ | ⟨h, _, e⟩
            · right
              rw [← hh, at_dropped HB5.out.1.lp.good h]; rfl
            · exact .inl e
          have H8 : Hid (Below V0.heap.size V0 (w8.alloc (.cells #[.int .i64 0, .int .i64 0] 32))) := below_then H7.out.2.1 bB H7.out.2.1.size
          clear C4 b8 bB hp8 hw8 H7 hh hpv
          go_wp2_with fail
          refine C5.mono ?_
          rintro e w9 ⟨rfl, b9⟩
          have H9 : Hid (Below w.heap.size w (w9.alloc (.cells #[.int .u32 pv.1.1, .int .u64 pv.1.2, .int .i64 pv.2.1, .int .i64 pv.2.2] 34))) := by
            have := below_then H8.out b9 H8.out.size
            exact below_on HB.out.2 (this.alloc this.size _)
          have hE := HE.out
          clear C5 b9 H8 HE s0 s1
          cases there <;> cases held <;> first | (go_wp2; go_ret; exact ⟨rfl, H9.out⟩) | (exfalso; simp at hE)
        | false =>
          have C2 := mPut_of p b1 b2 S c x _ HB5.out.1.lp HI.out.2.2 (by omega)
          go_wp2_with fail
          refine C2.mono ?_
          rintro e w6 ⟨rfl, hp6, o6⟩
          have hl6 : ∀ j, Two b1 b2 j → V0.heap.size ≤ j := by obtain ⟨_, h1, h2, _⟩ := HB5.out.1.hp; rintro j (rfl | rfl) <;> omega
          have nq : ¬ Two b1 b2 w.heap.size := fun e => by have := hl6 _ e; have := HB.out.1.lt; omega
          have nw : ¬ Two b1 b2 w5.heap.size := by
            rintro (e | e)
            · exact HB5.out.1.lp.m1.no_blk HB5.out.2.2 e
            · exact HB5.out.1.lp.m2.no_blk HB5.out.2.2 e
          have hq6 := o6.blk HB5.out.2.1 nq
          have hw6 := o6.blk HB5.out.2.2 nw
          have bel6 : Below V0.heap.size V0 w6 := HB5.out.1.bel.trans (o6.below HB5.out.1.bel.size hl6)
          obtain ⟨z0, z1, z2, z3, z4⟩ := hq6.five
          have C3 := mGet_of p b1 b2 (putS S x) (c + 1) x.1 _ hp6 HI.out.2.2.1
          rw [get_put HB5.out.1.lp.good HI.out.2.2] at C3
          simp only [Option.getD_some, Option.isSome_some] at C3
          have H6 : Hid (LmP w6 p b1 b2 (putS S x) (c + 1) ∧ Below V0.heap.size V0 w6 ∧ Blk w6 w.heap.size (opL (false, x)) 36 ∧ Blk w6 w5.heap.size (prL .i64 .i64 was) 32) := ⟨hp6, bel6, hq6, hw6⟩
          clear C2 hp6 o6 bel6 hq6 hw6 nq nw hl6
          go_wp2_with fail
          refine C3.mono ?_
          rintro e w7 ⟨rfl, b7⟩
          have bB : Below w6.heap.size w6 (w7.alloc (.cells #[.int .i64 x.2.1, .int .i64 x.2.2] 32)) := b7.alloc b7.size _
          have hp7 := H6.out.1.below bB
          have hq7 := H6.out.2.2.1.below bB H6.out.2.2.1.lt
          have hw7 := H6.out.2.2.2.below bB H6.out.2.2.2.lt
          have ha7 : Blk (w7.alloc (.cells #[.int .i64 x.2.1, .int .i64 x.2.2] 32)) w7.heap.size (prL .i64 .i64 x.2) 32 := Blk.new' rfl rfl
          have bel7 := below_then H6.out.2.1 bB H6.out.2.1.size
          obtain ⟨z0, z1, z2, z3, z4⟩ := hq7.five
          have C4 := mAt_of p b1 b2 (putS S x) (c + 1) x.2 _ hp7 HI.out.2.2.2
          rw [at_put HB5.out.1.lp.good HI.out.2.2] at C4
          have C4 : Calls Try.prog 14 #[.pointer (some ⟨p, 0, none⟩), .agg #[.int .i64 x.2.1, .int .i64 x.2.2]] (w7.alloc (.cells #[.int .i64 x.2.1, .int .i64 x.2.2] 32)) fun e w' => e = .returned (.tuple #[.agg #[.int .u32 x.1.1, .int .u64 x.1.2, .int .i64 x.2.1, .int .i64 x.2.2], .bool true]) ∧ Below (w7.alloc (.cells #[.int .i64 x.2.1, .int .i64 x.2.2] 32)).heap.size (w7.alloc (.cells #[.int .i64 x.2.1, .int .i64 x.2.2] 32)) w' := C4
          have H7 : Hid (LmP (w7.alloc (.cells #[.int .i64 x.2.1, .int .i64 x.2.2] 32)) p b1 b2 (putS S x) (c + 1) ∧ Below V0.heap.size V0 (w7.alloc (.cells #[.int .i64 x.2.1, .int .i64 x.2.2] 32)) ∧ Blk (w7.alloc (.cells #[.int .i64 x.2.1, .int .i64 x.2.2] 32)) w.heap.size (opL (false, x)) 36 ∧ Blk (w7.alloc (.cells #[.int .i64 x.2.1, .int .i64 x.2.2] 32)) w5.heap.size (prL .i64 .i64 was) 32 ∧ Blk (w7.alloc (.cells #[.int .i64 x.2.1, .int .i64 x.2.2] 32)) w7.heap.size (prL .i64 .i64 x.2) 32) := ⟨hp7, bel7, hq7, hw7, ha7⟩
          clear C3 H6 b7 bB hp7 hq7 hw7 ha7 bel7
          go_wp2_with fail
          generalize (w7.alloc (.cells #[.int .i64 x.2.1, .int .i64 x.2.2] 32)) = W7 at C4 H7 ⊢
          refine C4.mono ?_
          rintro e w8 ⟨rfl, b8⟩
          have bC : Below W7.heap.size W7 (w8.alloc (.cells #[.int .u32 x.1.1, .int .u64 x.1.2, .int .i64 x.2.1, .int .i64 x.2.2] 34)) := b8.alloc b8.size _
          have hp8 := H7.out.1.below bC
          have hq8 := H7.out.2.2.1.below bC H7.out.2.2.1.lt
          have hw8 := H7.out.2.2.2.1.below bC H7.out.2.2.2.1.lt
          have ha8 := H7.out.2.2.2.2.below bC H7.out.2.2.2.2.lt
          have hx8 : Blk (w8.alloc (.cells #[.int .u32 x.1.1, .int .u64 x.1.2, .int .i64 x.2.1, .int .i64 x.2.2] 34)) w8.heap.size (plL x) 34 := Blk.new' rfl rfl
          have bel8 := below_then H7.out.2.1 bC H7.out.2.1.size
          have s0 := hw8.cell 0
          have s1 := hw8.cell 1
          simp only [prL, List.getElem?_cons_zero, List.getElem?_cons_succ] at s0 s1
          have C5 := mAt_of p b1 b2 (putS S x) (c + 1) was _ hp8 hFit
          obtain ⟨held, hh⟩ : ∃ held, (atS (putS S x) was).isSome = held := ⟨_, rfl⟩
          obtain ⟨pv, hpv⟩ : ∃ pv : Pl, atV (atS (putS S x) was) was = .agg #[.int .u32 pv.1.1, .int .u64 pv.1.2, .int .i64 pv.2.1, .int .i64 pv.2.2] := by
            cases atS (putS S x) was with
            | none => exact ⟨pl0, rfl⟩
            | some n => exact ⟨(n, was), rfl⟩
          rw [hh, hpv] at C5
          have HE : Hid (there = false ∨ (was == x.2) = true ∨ held = false) := by
            rcases HT.out with ⟨h, e⟩ | ⟨h, _, e⟩
            · right
              by_cases hwx : was = x.2
              · left; simp [hwx]
              · right; rw [← hh, at_moved HB5.out.1.lp.good h hwx]; rfl
            · exact .inl e
          have H8 : Hid (Below V0.heap.size V0 (w8.alloc (.cells #[.int .u32 x.1.1, .int .u64 x.1.2, .int .i64 x.2.1, .int .i64 x.2.2] 34)) ∧ Blk (w8.alloc (.cells #[.int .u32 x.1.1, .int .u64 x.1.2, .int .i64 x.2.1, .int .i64 x.2.2] 34)) w.heap.size (opL (false, x)) 36 ∧ Blk (w8.alloc (.cells #[.int .u32 x.1.1, .int .u64 x.1.2, .int .i64 x.2.1, .int .i64 x.2.2] 34)) w5.heap.size (prL .i64 .i64 was) 32 ∧ Blk (w8.alloc (.cells #[.int .u32 x.1.1, .int .u64 x.1.2, .int .i64 x.2.1, .int .i64 x.2.2] 34)) w7.heap.size (prL .i64 .i64 x.2) 32 ∧ Blk (w8.alloc (.cells #[.int .u32 x.1.1, .int .u64 x.1.2, .int .i64 x.2.1, .int .i64 x.2.2] 34)) w8.heap.size (plL x) 34) := ⟨bel8, hq8, hw8, ha8, hx8⟩
          clear C4 H7 b8 bC hp8 hq8 hw8 ha8 hx8 bel8 hh hpv z0 z1 z2 z3 z4
          go_wp2_with fail
          generalize (w8.alloc (.cells #[.int .u32 x.1.1, .int .u64 x.1.2, .int .i64 x.2.1, .int .i64 x.2.2] 34)) = W8 at C5 H8 s0 s1 ⊢
          refine C5.mono ?_
          rintro e w9 ⟨rfl, b9⟩
          have bD : Below W8.heap.size W8 (w9.alloc (.cells #[.int .u32 pv.1.1, .int .u64 pv.1.2, .int .i64 pv.2.1, .int .i64 pv.2.2] 34)) := b9.alloc b9.size _
          have hq9 := H8.out.2.1.below bD H8.out.2.1.lt
          have hw9 := H8.out.2.2.1.below bD H8.out.2.2.1.lt
          have ha9 := H8.out.2.2.2.1.below bD H8.out.2.2.2.1.lt
          have hx9 := H8.out.2.2.2.2.below bD H8.out.2.2.2.2.lt
          obtain ⟨z0, z1, z2, z3, z4⟩ := hq9.five
          obtain ⟨v0, v1, v2, v3⟩ := hx9.four
          have s0 := hw9.cell 0
          have s1 := hw9.cell 1
          have t0 := ha9.cell 0
          have t1 := ha9.cell 1
          simp only [prL, List.getElem?_cons_zero, List.getElem?_cons_succ] at s0 s1 t0 t1
          have H9 : Hid (Below w.heap.size w (w9.alloc (.cells #[.int .u32 pv.1.1, .int .u64 pv.1.2, .int .i64 pv.2.1, .int .i64 pv.2.2] 34))) := by
            have := below_then H8.out.1 bD H8.out.1.size
            exact below_on HB.out.2 this
          have hE := HE.out
          have hA := fun W => eqlA x.2 x.2 W
          have hW := fun W => eqlA was x.2 W
          have hP := fun W => eqlP x x W
          simp only [beq_self_eq_true] at hA hP
          generalize (was == x.2) = wx at hE hW
          clear C5 b9 H8 HE bD hq9 hw9 ha9 hx9
          cases there <;> cases wx <;> cases held <;> first | (go_wp2; go_ret; exact ⟨rfl, H9.out⟩) | (exfalso; simp at hE)

set_option maxRecDepth 100000 in
theorem lifted (os : Os) (started : os.Started) (H : Type) (enc : TypeId × Value → H) :
    ReturnsInHanded {} Try.checked os 5 .any (Rows.lmapLastSpec.pre6 enc Try.prog Try.f5 Rows.lmapLastRow.domain false) (Rows.lmapLastSpec.post enc Try.prog Try.f5 false true false false) := by
  refine returnsInHanded_of_change (C := Try.checked) own started (by kernel_rfl) Try.func5
    (ChangeSpec.witness6 (enc := enc) (C := Try.checked) false ⟨#[], #[.slice none 0 0, .agg #[.bool false, .int .u32 0, .int .u64 0, .int .i64 0, .int .i64 0]], []⟩ 8 (by kernel_rfl) (by kernel_rfl) (by kernel_rfl) (by kernel_rfl)) ?_
  intro W base args ds gs before hval0 hW hcnd _
  have hval : ∀ (j : Nat) t v, Try.f5.params[j]? = some t → args[j]? = some v → Value.okWide Try.prog W .any base t v := hval0
  have hW' := hW
  obtain ⟨p, q, hA0, hV, rfl, hfz, hnd⟩ := hW
  have hA : DataW.TrodAll enc Try.prog W 0 (fun _ => true) true Try.f5.params.toList args.toList ds p := hA0
  rw [Try.params5] at hA hval
  obtain ⟨v0, vs0, d0, ds0, p0, q0, hargs, rfl, rfl, h0, r0⟩ := trodAll_cons hA
  obtain ⟨v1, vs1, d1, ds1, p1, q1, rfl, rfl, rfl, h1, r1⟩ := trodAll_cons r0
  obtain ⟨rfl, rfl, rfl⟩ := trodAll_nil r1
  obtain rfl : args = #[v0, v1] := by cases args; simp_all
  obtain ⟨rfl, rfl⟩ := trodVars_none hV
  obtain ⟨a0, n0, c0, rfl⟩ := okWide_slice Try.underlying22 (hval 0 22 v0 rfl rfl)
  have k0 := h0
  have lt0 : ∀ x ∈ p0, x.block < W.heap.size := by obtain ⟨m, hm⟩ := k0; exact DataW.trod_lt m _ _ _ hm
  obtain ⟨x0, w0⟩ := open_ops h0
  have k1 := h1
  have lt1 : ∀ x ∈ p1, x.block < W.heap.size := by obtain ⟨m, hm⟩ := k1; exact DataW.trod_lt m _ _ _ hm
  obtain ⟨o1, rfl, w1⟩ := open_op (hval 1 36 v1 rfl rfl) h1
  clear hA0 hval0
  refine (walk a0 n0 c0 x0 o1 W w0 w1).mono fun e W' ⟨he, bel⟩ => ?_
  subst he
  exact ⟨_, rfl, _, _, _, [], _, [], hW', trodAll_mk1 (shut_bool Try.underlying4 _), (trodAll_cons_mk (Below.trod laidOut (by kernel_rfl) (of_decide_eq_true (by kernel_rfl)) k0 bel lt0) (trodAll_cons_mk (Below.trod laidOut (by kernel_rfl) (of_decide_eq_true (by kernel_rfl)) k1 bel lt1) trodAll_mk0)), rfl, bel.frame _, fun h => by cases h⟩

theorem over : Rows.lmapLastRow.holds Try.pinned (OpenSpec.ofChange Rows.lmapLastSpec) :=
  OpenClaim.holds_of_wide 5 Try.f5 rfl rfl rfl rfl rfl rfl rfl ⟨rfl, rfl, rfl, rfl, rfl⟩ rfl rfl rfl rfl rfl (by kernel_rfl) Try.func5 (by kernel_rfl)
    (of_decide_eq_true (by kernel_rfl)) (by unfold Func.isWrapper; first | (rw [if_pos (by decide +kernel)]; kernel_rfl) | (rw [if_neg (by decide +kernel)]; exact ⟨rfl, rfl⟩))
    (fun os started H enc _ => lifted os started H enc)

end Go.Proofs.Ytconfkgadmjhhaa.lmapLast
namespace Go.Proofs.Ytconfkgadmjhhaa
/-- The statement. -/
theorem lmapLast_holds : Rows.LmapLastSaid := lmapLast.over
#print axioms lmapLast_holds
end Go.Proofs.Ytconfkgadmjhhaa
