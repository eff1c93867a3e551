/- For every row of at most 150 calls and every tenant: what is put and dropped of other tenants, at other places, makes no difference to it. -/
import Derived.Test.YtconfkgadmjhhaaRows
import Derived.Test.YtconfkgadmjhhaaLmT
import Derived.WalkKit
import Derived.ProofKit
import Derived.OpenShut
import Derived.ShutString
import Derived.ChangeOld
import Derived.Below
namespace Go.Proofs.Ytconfkgadmjhhaa.lmapApart
open Go.ChangeShapes Go.WideShapes Go.ChangeAt Go.RowKit
open Go.ChangeMaps (open_string shut_string)
set_option linter.unusedVariables false

theorem own : ownKnob Try.prog.godebug = none := by kernel_rfl
theorem laidOut : laidOutB Try.prog = true := by kernel_rfl

set_option maxRecDepth 20000 in
set_option maxHeartbeats 16000000 in
theorem walk (a0 : Option Addr) (n0 c0 : Nat) (x0 : List Opn) (a1 : Int) (w : World) (w0 : OpsIn w a0 n0 x0 ∧ OpsF x0) (w1 : (Lit.int .u32 a1).wf = true) :
    Calls Try.prog 7 #[.slice a0 n0 c0, .int .u32 a1] w fun e w' => e = .returned (.bool true) ∧ Below w.heap.size w w' := by
  obtain ⟨⟨hl, hat0⟩, hF⟩ := w0
  subst hl
  have HI : Hid (OpsIn w a0 x0.length x0 ∧ OpsF x0 ∧ Fits32 a1) := ⟨⟨rfl, hat0⟩, hF, by have := bounds_u32 w1; show Fits32 a1; unfold Fits32; omega⟩
  clear hat0 hF w1
  by_cases hgt : 150 < x0.length
  · have hgt' : (150 : Int) < (x0.length : Int) := by omega
    have hgd : decide ((150 : Int) < (x0.length : Int)) = true := decide_eq_true hgt'
    have C := mknown_of w
    go_enter Try.func7, Try.ntmps7
    go_wp2_with fail
    refine C.mono ?_
    rintro e w1 ⟨rfl, b1⟩
    have HE : Hid (Below w.heap.size w w1) := b1
    clear C b1
    go_wp2
    go_ret
    exact ⟨rfl, HE.out⟩
  · have hle : x0.length ≤ 150 := by omega
    have hle' : (x0.length : Int) ≤ 150 := by omega
    have hgd : decide ((150 : Int) < (x0.length : Int)) = false := decide_eq_false (by omega)
    have C := mknown_of w
    go_enter Try.func7, Try.ntmps7
    go_wp2_with fail
    refine C.mono ?_
    rintro e w1 ⟨rfl, bel1⟩
    have C1 := mNew_of w1
    clear C
    go_wp2_with fail
    refine C1.mono ?_
    rintro e w2 ⟨pm, b1, b2, rfl, hP2, bel2, lp, l1, l2⟩
    have C2 := mNew_of w2
    clear C1
    go_wp2_with fail
    refine C2.mono ?_
    rintro e w3 ⟨pn, d1, d2, rfl, hP3, bel3, lq, k1, k2⟩
    have C3 := dmNew_of w3
    clear C2
    go_wp2_with fail
    refine C3.mono ?_
    rintro e w4 ⟨rfl, hD4, bel4⟩
    have s1 := bel1.size
    have s2 := bel2.size
    have s3 := bel3.size
    have HS : Hid (Tri w pm b1 b2 pn d1 d2 w3.heap.size [] [] 0 w4) := by
      have t1 := hP2.m1.lt
      have t2 := hP2.m2.lt
      exact ⟨(hP2.below bel3).below bel4, hP3.below bel4, hD4, by omega, below_on (below_on (below_on bel1 bel2) bel3) bel4, by omega⟩
    clear C3 hP2 hP3 hD4 bel1 bel2 bel3 bel4 lp l1 l2 lq k1 k2 s1 s2 s3
    generalize w3.heap.size = r at HS ⊢
    go_wp2_with fail
    go_loopw [8, 9, 10, 11, 12, 13] (fun i _ _ _ _ _ wr => ∃ (k : Nat) (Sm Sn : List Pl), k ≤ x0.length ∧ i = .int .i64 k ∧ Tri w pm b1 b2 pn d1 d2 r Sm Sn (2 * k) wr ∧ Apart a1 k Sm Sn) (fun i _ _ _ _ _ _ => x0.length - (intOf i).toNat)
    case atStart => exact ⟨0, [], [], by omega, rfl, HS.out, apart_start a1⟩
    case round =>
      obtain ⟨k, Sm, Sn, hk, rfl, hT, hAp⟩ := hrel
      by_cases hlt : k < x0.length
      · have hlt' : (k : Int) < (x0.length : Int) := by omega
        obtain ⟨o, ho⟩ : ∃ o, x0[k]? = some o := ⟨_, List.getElem?_eq_getElem hlt⟩
        obtain ⟨g, off, rfl, hcell⟩ := HI.out.1.2.resolve_left (by omega)
        obtain ⟨y0, y1, y2, y3, y4⟩ := hcell k o ho
        have y0 := (hT.bel.cell (old_block y0)).trans y0
        have y1 := (hT.bel.cell (old_block y1)).trans y1
        have y2 := (hT.bel.cell (old_block y2)).trans y2
        have y3 := (hT.bel.cell (old_block y3)).trans y3
        have y4 := (hT.bel.cell (old_block y4)).trans y4
        have hFo := HI.out.2.1 o (List.mem_of_getElem? ho)
        obtain ⟨dr, x⟩ := o
        simp only at y0 y1 y2 y3 y4 hFo
        have HT : Hid (Tri w pm b1 b2 pn d1 d2 r Sm Sn (2 * k) wr ∧ Apart a1 k Sm Sn ∧ FitsP x) := ⟨hT, hAp, hFo⟩
        clear hcell ho hT hAp hFo
        by_cases htn : x.1.1 = a1
        · have eT : (x.1.1 == a1) = true := by simpa using htn
          have HTN : Hid (x.1.1 = a1) := htn
          clear htn
          have hfx : FitsP ((x.1), (x.2.1, 2 * (k : Int))) := ⟨HT.out.2.2.1, HT.out.2.2.2.1, by show F64 (2 * (k : Int)); unfold F64; omega⟩
          have bV : Below wr.heap.size wr (wr.alloc (.cells #[.bool dr, .int .u32 x.1.1, .int .u64 x.1.2, .int .i64 x.2.1, .int .i64 (2 * (k : Int))] 36)) := (Below.refl _ _).alloc (Nat.le_refl _) _
          have hTV := HT.out.1.below bV
          have hqV : Blk (wr.alloc (.cells #[.bool dr, .int .u32 x.1.1, .int .u64 x.1.2, .int .i64 x.2.1, .int .i64 (2 * (k : Int))] 36)) wr.heap.size (opL (dr, ((x.1), (x.2.1, 2 * (k : Int))))) 36 := Blk.new' rfl rfl
          have C := mdoes_of pn d1 d2 r Sn (2 * k) (dr, ((x.1), (x.2.1, 2 * (k : Int)))) _ hTV.n hTV.d hfx (by omega) (by have := HT.out.2.1.len; omega)
          change Calls Try.prog 11 #[.pointer (some ⟨pn, 0, none⟩), .pointer (some ⟨r, 0, none⟩), .agg #[.bool dr, .int .u32 x.1.1, .int .u64 x.1.2, .int .i64 x.2.1, .int .i64 (2 * (k : Int))]] (wr.alloc (.cells #[.bool dr, .int .u32 x.1.1, .int .u64 x.1.2, .int .i64 x.2.1, .int .i64 (2 * (k : Int))] 36)) _ at C
          have HV : Hid (Tri w pm b1 b2 pn d1 d2 r Sm Sn (2 * k) (wr.alloc (.cells #[.bool dr, .int .u32 x.1.1, .int .u64 x.1.2, .int .i64 x.2.1, .int .i64 (2 * (k : Int))] 36)) ∧ Blk (wr.alloc (.cells #[.bool dr, .int .u32 x.1.1, .int .u64 x.1.2, .int .i64 x.2.1, .int .i64 (2 * (k : Int))] 36)) wr.heap.size (opL (dr, ((x.1), (x.2.1, 2 * (k : Int))))) 36) := ⟨hTV, hqV⟩
          clear bV hTV hqV
          go_wp2_with fail
          generalize wr.alloc (.cells #[.bool dr, .int .u32 x.1.1, .int .u64 x.1.2, .int .i64 x.2.1, .int .i64 (2 * (k : Int))] 36) = V at C HV ⊢
          refine C.mono ?_
          rintro e w4 ⟨rfl, hn4, hd4, o4⟩
          have hq4 : Blk w4 wr.heap.size (opL (dr, ((x.1), (x.2.1, 2 * (k : Int))))) 36 := o4.blk HV.out.2 (fun e => by
            obtain ⟨v, hr⟩ := HV.out.1.d.blk
            rcases e with e | e | e
            · exact HV.out.1.n.m1.no_blk HV.out.2 e
            · exact HV.out.1.n.m2.no_blk HV.out.2 e
            · exact blk_ne HV.out.2 hr (by decide) e)
          have hT4 := HV.out.1.stepN hn4 hd4 o4 (by omega)
          have hT5 := hT4.set hq4 HT.out.1.bel.size ((Out.refl (fun j => j = wr.heap.size) w4).setCell (p := ⟨wr.heap.size, 4, none⟩) (.inl rfl) (.int .i64 (2 * (k : Int))))
          have hq5 : Blk (w4.setCell ⟨wr.heap.size, 4, none⟩ (.int .i64 (2 * (k : Int)))) wr.heap.size (opL (dr, ((x.1), (x.2.1, 2 * (k : Int))))) 36 := hq4.set 4 _
          obtain ⟨z0, z1, z2, z3, z4⟩ := hq4.five
          simp only at z0 z1 z2 z3 z4
          have f4 := hq4.frozen 4
          have H5 : Hid (Tri w pm b1 b2 pn d1 d2 r Sm (doS Sn (dr, ((x.1), (x.2.1, 2 * (k : Int))))) (2 * k + 1) (w4.setCell ⟨wr.heap.size, 4, none⟩ (.int .i64 (2 * (k : Int)))) ∧ Blk (w4.setCell ⟨wr.heap.size, 4, none⟩ (.int .i64 (2 * (k : Int)))) wr.heap.size (opL (dr, ((x.1), (x.2.1, 2 * (k : Int))))) 36) := ⟨hT5, hq5⟩
          have HAP0 := HT.out.2.1.mine HT.out.1.m.good HT.out.1.n.good dr ((x.1), (x.2.1, 2 * (k : Int))) HTN.out rfl
          have HAP : Hid (Apart a1 (k + 1) (doS Sm (dr, ((x.1), (x.2.1, 2 * (k : Int))))) (doS Sn (dr, ((x.1), (x.2.1, 2 * (k : Int)))))) := HAP0
          clear C hn4 hd4 o4 hT4 hT5 hq4 hq5 HV HAP0 y0 y1 y2 y3 y4
          cases dr with
          | true =>
            have CM := mDrop_of pm b1 b2 Sm _ x.1 _ H5.out.1.m HT.out.2.2.1
            go_wp2_with fail
            refine CM.mono ?_
            rintro e W6 ⟨rfl, hm6, o6⟩
            have H6 : Hid (Tri w pm b1 b2 pn d1 d2 r (dropS Sm x.1) (doS Sn (true, ((x.1), (x.2.1, 2 * (k : Int))))) (2 * (k + 1)) W6 ∧ Apart a1 (k + 1) (dropS Sm x.1) (doS Sn (true, ((x.1), (x.2.1, 2 * (k : Int))))) ∧ Blk W6 wr.heap.size (opL (true, ((x.1), (x.2.1, 2 * (k : Int))))) 36) :=
              ⟨(H5.out.1.stepM hm6 o6 (by omega)).mono2 (by omega), HAP.out, o6.blk H5.out.2 (fun e => by rcases e with e | e; exact H5.out.1.m.m1.no_blk H5.out.2 e; exact H5.out.1.m.m2.no_blk H5.out.2 e)⟩
            clear CM hm6 o6
            have hq6 := H6.out.2.2
            obtain ⟨z0, z1, z2, z3, z4⟩ := hq6.five
            have hnf : FitsN (a1, x.1.2) := ⟨HI.out.2.2, HT.out.2.2.1.2⟩
            have CG := mGet_of pm b1 b2 _ _ (a1, x.1.2) _ H6.out.1.m hnf
            have hge := H6.out.2.1.get H6.out.1.m.good H6.out.1.n.good x.1.2
            have hce := H6.out.2.1.cnt H6.out.1.m.good H6.out.1.n.good
            obtain ⟨s, bo, hs1, hs2, _⟩ := get_told (dropS Sm x.1) (a1, x.1.2)
            rw [hs1, hs2] at CG
            simp only at z0 z1 z2 z3 z4
            go_wp2_with fail
            refine CG.mono ?_
            rintro e w7 ⟨rfl, b7⟩
            have bA : Below W6.heap.size W6 (w7.alloc (.cells #[.int .i64 s.1, .int .i64 s.2] 32)) := b7.alloc b7.size _
            have hT7 := H6.out.1.below bA
            have hq7 := hq6.below bA hq6.lt
            have hs7 : Blk (w7.alloc (.cells #[.int .i64 s.1, .int .i64 s.2] 32)) w7.heap.size (prL .i64 .i64 s) 32 := Blk.new' rfl rfl
            obtain ⟨z0, z1, z2, z3, z4⟩ := hq7.five
            simp only at z0 z1 z2 z3 z4
            have CH := mGet_of pn d1 d2 _ _ (a1, x.1.2) _ hT7.n hnf
            rw [← hge, hs1, hs2] at CH
            have H7 : Hid (Tri w pm b1 b2 pn d1 d2 r (dropS Sm x.1) (doS Sn (true, ((x.1), (x.2.1, 2 * (k : Int))))) (2 * (k + 1)) (w7.alloc (.cells #[.int .i64 s.1, .int .i64 s.2] 32)) ∧ Blk (w7.alloc (.cells #[.int .i64 s.1, .int .i64 s.2] 32)) w7.heap.size (prL .i64 .i64 s) 32) := ⟨hT7, hs7⟩
            have HC : Hid (cntS (dropS Sm x.1) a1 = cntS (doS Sn (true, ((x.1), (x.2.1, 2 * (k : Int))))) a1 ∧ Apart a1 (k + 1) (dropS Sm x.1) (doS Sn (true, ((x.1), (x.2.1, 2 * (k : Int)))))) := ⟨hce, H6.out.2.1⟩
            clear CG b7 bA hT7 hq7 hs7 hq6 hge hce hs1 hs2
            go_wp2_with fail
            generalize w7.alloc (.cells #[.int .i64 s.1, .int .i64 s.2] 32) = W7 at CH H7 z0 z1 z2 z3 z4 ⊢
            refine CH.mono ?_
            rintro e w8 ⟨rfl, b8⟩
            have bB : Below W7.heap.size W7 (w8.alloc (.cells #[.int .i64 s.1, .int .i64 s.2] 32)) := b8.alloc b8.size _
            have hT8 := H7.out.1.below bB
            have hs8 := H7.out.2.below bB H7.out.2.lt
            have t0 := hs8.cell 0
            have t1 := hs8.cell 1
            simp only [prL, List.getElem?_cons_zero, List.getElem?_cons_succ] at t0 t1
            have hN := fun W => neqA s s W
            simp only [bne_self_eq_false] at hN
            have CC := mCount_of pm b1 b2 (dropS Sm x.1) _ a1 _ hT8.m (by omega)
            obtain ⟨N, hNc⟩ : ∃ N, cntS (dropS Sm x.1) a1 = N := ⟨_, rfl⟩
            rw [hNc] at CC
            have H8 : Hid (Tri w pm b1 b2 pn d1 d2 r (dropS Sm x.1) (doS Sn (true, ((x.1), (x.2.1, 2 * (k : Int))))) (2 * (k + 1)) (w8.alloc (.cells #[.int .i64 s.1, .int .i64 s.2] 32)) ∧ cntS (doS Sn (true, ((x.1), (x.2.1, 2 * (k : Int))))) a1 = N) := ⟨hT8, HC.out.1.symm.trans hNc⟩
            clear CH b8 bB hT8 hs8 H7 hNc z0 z1 z2 z3 z4
            go_wp2_with fail
            generalize w8.alloc (.cells #[.int .i64 s.1, .int .i64 s.2] 32) = W8 at CC H8 t0 t1 ⊢
            refine CC.mono ?_
            rintro e w9 ⟨rfl, b9⟩
            have hT9 := H8.out.1.below b9
            have CD := mCount_of pn d1 d2 (doS Sn (true, ((x.1), (x.2.1, 2 * (k : Int))))) _ a1 _ hT9.n (by omega)
            rw [H8.out.2] at CD
            have H9 : Hid (Tri w pm b1 b2 pn d1 d2 r (dropS Sm x.1) (doS Sn (true, ((x.1), (x.2.1, 2 * (k : Int))))) (2 * (k + 1)) w9) := hT9
            clear CC b9 hT9 H8 t0 t1
            go_wp2_with fail
            refine CD.mono ?_
            rintro e w10 ⟨rfl, b10⟩
            have HZ : Hid (Tri w pm b1 b2 pn d1 d2 r (dropS Sm x.1) (doS Sn (true, ((x.1), (x.2.1, 2 * (k : Int))))) (2 * (k + 1)) w10) := H9.out.below b10
            clear CD b10 H9
            go_wp2
            go_roundw
            case rel => exact ⟨k + 1, (dropS Sm x.1), (doS Sn (true, ((x.1), (x.2.1, 2 * (k : Int))))), by omega, by go_num, HZ.out, HC.out.2⟩
            case measure => simp [intOf]; omega
          | false =>
            have CM := mPut_of pm b1 b2 Sm _ ((x.1), (x.2.1, 2 * (k : Int))) _ H5.out.1.m hfx (by omega)
            change Calls Try.prog 24 #[.pointer (some ⟨pm, 0, none⟩), .agg #[.int .u32 x.1.1, .int .u64 x.1.2, .int .i64 x.2.1, .int .i64 (2 * (k : Int))]] _ _ at CM
            go_wp2_with fail
            refine CM.mono ?_
            rintro e W6 ⟨rfl, hm6, o6⟩
            have H6 : Hid (Tri w pm b1 b2 pn d1 d2 r (putS Sm ((x.1), (x.2.1, 2 * (k : Int)))) (doS Sn (false, ((x.1), (x.2.1, 2 * (k : Int))))) (2 * (k + 1)) W6 ∧ Apart a1 (k + 1) (putS Sm ((x.1), (x.2.1, 2 * (k : Int)))) (doS Sn (false, ((x.1), (x.2.1, 2 * (k : Int))))) ∧ Blk W6 wr.heap.size (opL (false, ((x.1), (x.2.1, 2 * (k : Int))))) 36) :=
              ⟨(H5.out.1.stepM hm6 o6 (by omega)), HAP.out, o6.blk H5.out.2 (fun e => by rcases e with e | e; exact H5.out.1.m.m1.no_blk H5.out.2 e; exact H5.out.1.m.m2.no_blk H5.out.2 e)⟩
            clear CM hm6 o6
            have hq6 := H6.out.2.2
            obtain ⟨z0, z1, z2, z3, z4⟩ := hq6.five
            have hnf : FitsN (a1, x.1.2) := ⟨HI.out.2.2, HT.out.2.2.1.2⟩
            have CG := mGet_of pm b1 b2 _ _ (a1, x.1.2) _ H6.out.1.m hnf
            have hge := H6.out.2.1.get H6.out.1.m.good H6.out.1.n.good x.1.2
            have hce := H6.out.2.1.cnt H6.out.1.m.good H6.out.1.n.good
            obtain ⟨s, bo, hs1, hs2, _⟩ := get_told (putS Sm ((x.1), (x.2.1, 2 * (k : Int)))) (a1, x.1.2)
            rw [hs1, hs2] at CG
            simp only at z0 z1 z2 z3 z4
            go_wp2_with fail
            refine CG.mono ?_
            rintro e w7 ⟨rfl, b7⟩
            have bA : Below W6.heap.size W6 (w7.alloc (.cells #[.int .i64 s.1, .int .i64 s.2] 32)) := b7.alloc b7.size _
            have hT7 := H6.out.1.below bA
            have hq7 := hq6.below bA hq6.lt
            have hs7 : Blk (w7.alloc (.cells #[.int .i64 s.1, .int .i64 s.2] 32)) w7.heap.size (prL .i64 .i64 s) 32 := Blk.new' rfl rfl
            obtain ⟨z0, z1, z2, z3, z4⟩ := hq7.five
            simp only at z0 z1 z2 z3 z4
            have CH := mGet_of pn d1 d2 _ _ (a1, x.1.2) _ hT7.n hnf
            rw [← hge, hs1, hs2] at CH
            have H7 : Hid (Tri w pm b1 b2 pn d1 d2 r (putS Sm ((x.1), (x.2.1, 2 * (k : Int)))) (doS Sn (false, ((x.1), (x.2.1, 2 * (k : Int))))) (2 * (k + 1)) (w7.alloc (.cells #[.int .i64 s.1, .int .i64 s.2] 32)) ∧ Blk (w7.alloc (.cells #[.int .i64 s.1, .int .i64 s.2] 32)) w7.heap.size (prL .i64 .i64 s) 32) := ⟨hT7, hs7⟩
            have HC : Hid (cntS (putS Sm ((x.1), (x.2.1, 2 * (k : Int)))) a1 = cntS (doS Sn (false, ((x.1), (x.2.1, 2 * (k : Int))))) a1 ∧ Apart a1 (k + 1) (putS Sm ((x.1), (x.2.1, 2 * (k : Int)))) (doS Sn (false, ((x.1), (x.2.1, 2 * (k : Int)))))) := ⟨hce, H6.out.2.1⟩
            clear CG b7 bA hT7 hq7 hs7 hq6 hge hce hs1 hs2
            go_wp2_with fail
            generalize w7.alloc (.cells #[.int .i64 s.1, .int .i64 s.2] 32) = W7 at CH H7 z0 z1 z2 z3 z4 ⊢
            refine CH.mono ?_
            rintro e w8 ⟨rfl, b8⟩
            have bB : Below W7.heap.size W7 (w8.alloc (.cells #[.int .i64 s.1, .int .i64 s.2] 32)) := b8.alloc b8.size _
            have hT8 := H7.out.1.below bB
            have hs8 := H7.out.2.below bB H7.out.2.lt
            have t0 := hs8.cell 0
            have t1 := hs8.cell 1
            simp only [prL, List.getElem?_cons_zero, List.getElem?_cons_succ] at t0 t1
            have hN := fun W => neqA s s W
            simp only [bne_self_eq_false] at hN
            have CC := mCount_of pm b1 b2 (putS Sm ((x.1), (x.2.1, 2 * (k : Int)))) _ a1 _ hT8.m (by omega)
            obtain ⟨N, hNc⟩ : ∃ N, cntS (putS Sm ((x.1), (x.2.1, 2 * (k : Int)))) a1 = N := ⟨_, rfl⟩
            rw [hNc] at CC
            have H8 : Hid (Tri w pm b1 b2 pn d1 d2 r (putS Sm ((x.1), (x.2.1, 2 * (k : Int)))) (doS Sn (false, ((x.1), (x.2.1, 2 * (k : Int))))) (2 * (k + 1)) (w8.alloc (.cells #[.int .i64 s.1, .int .i64 s.2] 32)) ∧ cntS (doS Sn (false, ((x.1), (x.2.1, 2 * (k : Int))))) a1 = N) := ⟨hT8, HC.out.1.symm.trans hNc⟩
            clear CH b8 bB hT8 hs8 H7 hNc z0 z1 z2 z3 z4
            go_wp2_with fail
            generalize w8.alloc (.cells #[.int .i64 s.1, .int .i64 s.2] 32) = W8 at CC H8 t0 t1 ⊢
            refine CC.mono ?_
            rintro e w9 ⟨rfl, b9⟩
            have hT9 := H8.out.1.below b9
            have CD := mCount_of pn d1 d2 (doS Sn (false, ((x.1), (x.2.1, 2 * (k : Int))))) _ a1 _ hT9.n (by omega)
            rw [H8.out.2] at CD
            have H9 : Hid (Tri w pm b1 b2 pn d1 d2 r (putS Sm ((x.1), (x.2.1, 2 * (k : Int)))) (doS Sn (false, ((x.1), (x.2.1, 2 * (k : Int))))) (2 * (k + 1)) w9) := hT9
            clear CC b9 hT9 H8 t0 t1
            go_wp2_with fail
            refine CD.mono ?_
            rintro e w10 ⟨rfl, b10⟩
            have HZ : Hid (Tri w pm b1 b2 pn d1 d2 r (putS Sm ((x.1), (x.2.1, 2 * (k : Int)))) (doS Sn (false, ((x.1), (x.2.1, 2 * (k : Int))))) (2 * (k + 1)) w10) := H9.out.below b10
            clear CD b10 H9
            go_wp2
            go_roundw
            case rel => exact ⟨k + 1, (putS Sm ((x.1), (x.2.1, 2 * (k : Int)))), (doS Sn (false, ((x.1), (x.2.1, 2 * (k : Int))))), by omega, by go_num, HZ.out, HC.out.2⟩
            case measure => simp [intOf]; omega
        · have eT : (x.1.1 == a1) = false := by simpa using htn
          have HTN : Hid (x.1.1 ≠ a1) := htn
          clear htn
          have hfx : FitsP ((x.1), (x.2.1, 2 * (k : Int) + 1)) := ⟨HT.out.2.2.1, HT.out.2.2.2.1, by show F64 (2 * (k : Int) + 1); unfold F64; omega⟩
          have bV : Below wr.heap.size wr (wr.alloc (.cells #[.bool dr, .int .u32 x.1.1, .int .u64 x.1.2, .int .i64 x.2.1, .int .i64 (2 * (k : Int) + 1)] 36)) := (Below.refl _ _).alloc (Nat.le_refl _) _
          have H5 : Hid (Tri w pm b1 b2 pn d1 d2 r Sm Sn (2 * k) (wr.alloc (.cells #[.bool dr, .int .u32 x.1.1, .int .u64 x.1.2, .int .i64 x.2.1, .int .i64 (2 * (k : Int) + 1)] 36)) ∧ Blk (wr.alloc (.cells #[.bool dr, .int .u32 x.1.1, .int .u64 x.1.2, .int .i64 x.2.1, .int .i64 (2 * (k : Int) + 1)] 36)) wr.heap.size (opL (dr, ((x.1), (x.2.1, 2 * (k : Int) + 1)))) 36) := ⟨HT.out.1.below bV, Blk.new' rfl rfl⟩
          have HAP0 := HT.out.2.1.other HT.out.1.m.good dr ((x.1), (x.2.1, 2 * (k : Int) + 1)) HTN.out rfl
          have HAP : Hid (Apart a1 (k + 1) (doS Sm (dr, ((x.1), (x.2.1, 2 * (k : Int) + 1)))) Sn) := HAP0
          clear bV HAP0
          cases dr with
          | true =>
            have CM := mDrop_of pm b1 b2 Sm _ x.1 _ H5.out.1.m HT.out.2.2.1
            go_wp2_with fail
            refine CM.mono ?_
            rintro e W6 ⟨rfl, hm6, o6⟩
            have H6 : Hid (Tri w pm b1 b2 pn d1 d2 r (dropS Sm x.1) Sn (2 * (k + 1)) W6 ∧ Apart a1 (k + 1) (dropS Sm x.1) Sn ∧ Blk W6 wr.heap.size (opL (true, ((x.1), (x.2.1, 2 * (k : Int) + 1)))) 36) :=
              ⟨(H5.out.1.stepM hm6 o6 (by omega)).mono2 (by omega), HAP.out, o6.blk H5.out.2 (fun e => by rcases e with e | e; exact H5.out.1.m.m1.no_blk H5.out.2 e; exact H5.out.1.m.m2.no_blk H5.out.2 e)⟩
            clear CM hm6 o6
            have hq6 := H6.out.2.2
            obtain ⟨z0, z1, z2, z3, z4⟩ := hq6.five
            have hnf : FitsN (a1, x.1.2) := ⟨HI.out.2.2, HT.out.2.2.1.2⟩
            have CG := mGet_of pm b1 b2 _ _ (a1, x.1.2) _ H6.out.1.m hnf
            have hge := H6.out.2.1.get H6.out.1.m.good H6.out.1.n.good x.1.2
            have hce := H6.out.2.1.cnt H6.out.1.m.good H6.out.1.n.good
            obtain ⟨s, bo, hs1, hs2, _⟩ := get_told (dropS Sm x.1) (a1, x.1.2)
            rw [hs1, hs2] at CG
            simp only at z0 z1 z2 z3 z4
            go_wp2_with fail
            refine CG.mono ?_
            rintro e w7 ⟨rfl, b7⟩
            have bA : Below W6.heap.size W6 (w7.alloc (.cells #[.int .i64 s.1, .int .i64 s.2] 32)) := b7.alloc b7.size _
            have hT7 := H6.out.1.below bA
            have hq7 := hq6.below bA hq6.lt
            have hs7 : Blk (w7.alloc (.cells #[.int .i64 s.1, .int .i64 s.2] 32)) w7.heap.size (prL .i64 .i64 s) 32 := Blk.new' rfl rfl
            obtain ⟨z0, z1, z2, z3, z4⟩ := hq7.five
            simp only at z0 z1 z2 z3 z4
            have CH := mGet_of pn d1 d2 _ _ (a1, x.1.2) _ hT7.n hnf
            rw [← hge, hs1, hs2] at CH
            have H7 : Hid (Tri w pm b1 b2 pn d1 d2 r (dropS Sm x.1) Sn (2 * (k + 1)) (w7.alloc (.cells #[.int .i64 s.1, .int .i64 s.2] 32)) ∧ Blk (w7.alloc (.cells #[.int .i64 s.1, .int .i64 s.2] 32)) w7.heap.size (prL .i64 .i64 s) 32) := ⟨hT7, hs7⟩
            have HC : Hid (cntS (dropS Sm x.1) a1 = cntS Sn a1 ∧ Apart a1 (k + 1) (dropS Sm x.1) Sn) := ⟨hce, H6.out.2.1⟩
            clear CG b7 bA hT7 hq7 hs7 hq6 hge hce hs1 hs2
            go_wp2_with fail
            generalize w7.alloc (.cells #[.int .i64 s.1, .int .i64 s.2] 32) = W7 at CH H7 z0 z1 z2 z3 z4 ⊢
            refine CH.mono ?_
            rintro e w8 ⟨rfl, b8⟩
            have bB : Below W7.heap.size W7 (w8.alloc (.cells #[.int .i64 s.1, .int .i64 s.2] 32)) := b8.alloc b8.size _
            have hT8 := H7.out.1.below bB
            have hs8 := H7.out.2.below bB H7.out.2.lt
            have t0 := hs8.cell 0
            have t1 := hs8.cell 1
            simp only [prL, List.getElem?_cons_zero, List.getElem?_cons_succ] at t0 t1
            have hN := fun W => neqA s s W
            simp only [bne_self_eq_false] at hN
            have CC := mCount_of pm b1 b2 (dropS Sm x.1) _ a1 _ hT8.m (by omega)
            obtain ⟨N, hNc⟩ : ∃ N, cntS (dropS Sm x.1) a1 = N := ⟨_, rfl⟩
            rw [hNc] at CC
            have H8 : Hid (Tri w pm b1 b2 pn d1 d2 r (dropS Sm x.1) Sn (2 * (k + 1)) (w8.alloc (.cells #[.int .i64 s.1, .int .i64 s.2] 32)) ∧ cntS Sn a1 = N) := ⟨hT8, HC.out.1.symm.trans hNc⟩
            clear CH b8 bB hT8 hs8 H7 hNc z0 z1 z2 z3 z4
            go_wp2_with fail
            generalize w8.alloc (.cells #[.int .i64 s.1, .int .i64 s.2] 32) = W8 at CC H8 t0 t1 ⊢
            refine CC.mono ?_
            rintro e w9 ⟨rfl, b9⟩
            have hT9 := H8.out.1.below b9
            have CD := mCount_of pn d1 d2 Sn _ a1 _ hT9.n (by omega)
            rw [H8.out.2] at CD
            have H9 : Hid (Tri w pm b1 b2 pn d1 d2 r (dropS Sm x.1) Sn (2 * (k + 1)) w9) := hT9
            clear CC b9 hT9 H8 t0 t1
            go_wp2_with fail
            refine CD.mono ?_
            rintro e w10 ⟨rfl, b10⟩
            have HZ : Hid (Tri w pm b1 b2 pn d1 d2 r (dropS Sm x.1) Sn (2 * (k + 1)) w10) := H9.out.below b10
            clear CD b10 H9
            go_wp2
            go_roundw
            case rel => exact ⟨k + 1, (dropS Sm x.1), Sn, by omega, by go_num, HZ.out, HC.out.2⟩
            case measure => simp [intOf]; omega
          | false =>
            have CM := mPut_of pm b1 b2 Sm _ ((x.1), (x.2.1, 2 * (k : Int) + 1)) _ H5.out.1.m hfx (by omega)
            change Calls Try.prog 24 #[.pointer (some ⟨pm, 0, none⟩), .agg #[.int .u32 x.1.1, .int .u64 x.1.2, .int .i64 x.2.1, .int .i64 (2 * (k : Int) + 1)]] _ _ at CM
            go_wp2_with fail
            refine CM.mono ?_
            rintro e W6 ⟨rfl, hm6, o6⟩
            have H6 : Hid (Tri w pm b1 b2 pn d1 d2 r (putS Sm ((x.1), (x.2.1, 2 * (k : Int) + 1))) Sn (2 * (k + 1)) W6 ∧ Apart a1 (k + 1) (putS Sm ((x.1), (x.2.1, 2 * (k : Int) + 1))) Sn ∧ Blk W6 wr.heap.size (opL (false, ((x.1), (x.2.1, 2 * (k : Int) + 1)))) 36) :=
              ⟨(H5.out.1.stepM hm6 o6 (by omega)).mono2 (by omega), HAP.out, o6.blk H5.out.2 (fun e => by rcases e with e | e; exact H5.out.1.m.m1.no_blk H5.out.2 e; exact H5.out.1.m.m2.no_blk H5.out.2 e)⟩
            clear CM hm6 o6
            have hq6 := H6.out.2.2
            obtain ⟨z0, z1, z2, z3, z4⟩ := hq6.five
            have hnf : FitsN (a1, x.1.2) := ⟨HI.out.2.2, HT.out.2.2.1.2⟩
            have CG := mGet_of pm b1 b2 _ _ (a1, x.1.2) _ H6.out.1.m hnf
            have hge := H6.out.2.1.get H6.out.1.m.good H6.out.1.n.good x.1.2
            have hce := H6.out.2.1.cnt H6.out.1.m.good H6.out.1.n.good
            obtain ⟨s, bo, hs1, hs2, _⟩ := get_told (putS Sm ((x.1), (x.2.1, 2 * (k : Int) + 1))) (a1, x.1.2)
            rw [hs1, hs2] at CG
            simp only at z0 z1 z2 z3 z4
            go_wp2_with fail
            refine CG.mono ?_
            rintro e w7 ⟨rfl, b7⟩
            have bA : Below W6.heap.size W6 (w7.alloc (.cells #[.int .i64 s.1, .int .i64 s.2] 32)) := b7.alloc b7.size _
            have hT7 := H6.out.1.below bA
            have hq7 := hq6.below bA hq6.lt
            have hs7 : Blk (w7.alloc (.cells #[.int .i64 s.1, .int .i64 s.2] 32)) w7.heap.size (prL .i64 .i64 s) 32 := Blk.new' rfl rfl
            obtain ⟨z0, z1, z2, z3, z4⟩ := hq7.five
            simp only at z0 z1 z2 z3 z4
            have CH := mGet_of pn d1 d2 _ _ (a1, x.1.2) _ hT7.n hnf
            rw [← hge, hs1, hs2] at CH
            have H7 : Hid (Tri w pm b1 b2 pn d1 d2 r (putS Sm ((x.1), (x.2.1, 2 * (k : Int) + 1))) Sn (2 * (k + 1)) (w7.alloc (.cells #[.int .i64 s.1, .int .i64 s.2] 32)) ∧ Blk (w7.alloc (.cells #[.int .i64 s.1, .int .i64 s.2] 32)) w7.heap.size (prL .i64 .i64 s) 32) := ⟨hT7, hs7⟩
            have HC : Hid (cntS (putS Sm ((x.1), (x.2.1, 2 * (k : Int) + 1))) a1 = cntS Sn a1 ∧ Apart a1 (k + 1) (putS Sm ((x.1), (x.2.1, 2 * (k : Int) + 1))) Sn) := ⟨hce, H6.out.2.1⟩
            clear CG b7 bA hT7 hq7 hs7 hq6 hge hce hs1 hs2
            go_wp2_with fail
            generalize w7.alloc (.cells #[.int .i64 s.1, .int .i64 s.2] 32) = W7 at CH H7 z0 z1 z2 z3 z4 ⊢
            refine CH.mono ?_
            rintro e w8 ⟨rfl, b8⟩
            have bB : Below W7.heap.size W7 (w8.alloc (.cells #[.int .i64 s.1, .int .i64 s.2] 32)) := b8.alloc b8.size _
            have hT8 := H7.out.1.below bB
            have hs8 := H7.out.2.below bB H7.out.2.lt
            have t0 := hs8.cell 0
            have t1 := hs8.cell 1
            simp only [prL, List.getElem?_cons_zero, List.getElem?_cons_succ] at t0 t1
            have hN := fun W => neqA s s W
            simp only [bne_self_eq_false] at hN
            have CC := mCount_of pm b1 b2 (putS Sm ((x.1), (x.2.1, 2 * (k : Int) + 1))) _ a1 _ hT8.m (by omega)
            obtain ⟨N, hNc⟩ : ∃ N, cntS (putS Sm ((x.1), (x.2.1, 2 * (k : Int) + 1))) a1 = N := ⟨_, rfl⟩
            rw [hNc] at CC
            have H8 : Hid (Tri w pm b1 b2 pn d1 d2 r (putS Sm ((x.1), (x.2.1, 2 * (k : Int) + 1))) Sn (2 * (k + 1)) (w8.alloc (.cells #[.int .i64 s.1, .int .i64 s.2] 32)) ∧ cntS Sn a1 = N) := ⟨hT8, HC.out.1.symm.trans hNc⟩
            clear CH b8 bB hT8 hs8 H7 hNc z0 z1 z2 z3 z4
            go_wp2_with fail
            generalize w8.alloc (.cells #[.int .i64 s.1, .int .i64 s.2] 32) = W8 at CC H8 t0 t1 ⊢
            refine CC.mono ?_
            rintro e w9 ⟨rfl, b9⟩
            have hT9 := H8.out.1.below b9
            have CD := mCount_of pn d1 d2 Sn _ a1 _ hT9.n (by omega)
            rw [H8.out.2] at CD
            have H9 : Hid (Tri w pm b1 b2 pn d1 d2 r (putS Sm ((x.1), (x.2.1, 2 * (k : Int) + 1))) Sn (2 * (k + 1)) w9) := hT9
            clear CC b9 hT9 H8 t0 t1
            go_wp2_with fail
            refine CD.mono ?_
            rintro e w10 ⟨rfl, b10⟩
            have HZ : Hid (Tri w pm b1 b2 pn d1 d2 r (putS Sm ((x.1), (x.2.1, 2 * (k : Int) + 1))) Sn (2 * (k + 1)) w10) := H9.out.below b10
            clear CD b10 H9
            go_wp2
            go_roundw
            case rel => exact ⟨k + 1, (putS Sm ((x.1), (x.2.1, 2 * (k : Int) + 1))), Sn, by omega, by go_num, HZ.out, HC.out.2⟩
            case measure => simp [intOf]; omega
      · have hge : (x0.length : Int) ≤ k := by omega
        have HE : Hid (Below w.heap.size w wr) := hT.bel
        clear hT hAp
        go_wp2
        go_ret
        exact ⟨rfl, HE.out⟩

set_option maxRecDepth 100000 in
theorem lifted (os : Os) (started : os.Started) (H : Type) (enc : TypeId × Value → H) :
    ReturnsInHanded {} Try.checked os 7 .any (Rows.lmapApartSpec.pre6 enc Try.prog Try.f7 Rows.lmapApartRow.domain false) (Rows.lmapApartSpec.post enc Try.prog Try.f7 false true false false) := by
  refine returnsInHanded_of_change (C := Try.checked) own started (by kernel_rfl) Try.func7
    (ChangeSpec.witness6 (enc := enc) (C := Try.checked) false ⟨#[], #[.slice none 0 0, .int .u32 0], []⟩ 8 (by kernel_rfl) (by kernel_rfl) (by kernel_rfl) (by kernel_rfl)) ?_
  intro W base args ds gs before hval0 hW hcnd _
  have hval : ∀ (j : Nat) t v, Try.f7.params[j]? = some t → args[j]? = some v → Value.okWide Try.prog W .any base t v := hval0
  have hW' := hW
  obtain ⟨p, q, hA0, hV, rfl, hfz, hnd⟩ := hW
  have hA : DataW.TrodAll enc Try.prog W 0 (fun _ => true) true Try.f7.params.toList args.toList ds p := hA0
  rw [Try.params7] at hA hval
  obtain ⟨v0, vs0, d0, ds0, p0, q0, hargs, rfl, rfl, h0, r0⟩ := trodAll_cons hA
  obtain ⟨v1, vs1, d1, ds1, p1, q1, rfl, rfl, rfl, h1, r1⟩ := trodAll_cons r0
  obtain ⟨rfl, rfl, rfl⟩ := trodAll_nil r1
  obtain rfl : args = #[v0, v1] := by cases args; simp_all
  obtain ⟨rfl, rfl⟩ := trodVars_none hV
  obtain ⟨a0, n0, c0, rfl⟩ := okWide_slice Try.underlying22 (hval 0 22 v0 rfl rfl)
  have k0 := h0
  have lt0 : ∀ x ∈ p0, x.block < W.heap.size := by obtain ⟨m, hm⟩ := k0; exact DataW.trod_lt m _ _ _ hm
  obtain ⟨x0, w0⟩ := open_ops h0
  obtain ⟨a1, rfl, rfl, rfl, w1⟩ := open_int Try.underlying29 (hval 1 29 v1 rfl rfl) h1
  clear hA0 hval0
  refine (walk a0 n0 c0 x0 a1 W w0 w1).mono fun e W' ⟨he, bel⟩ => ?_
  subst he
  exact ⟨_, rfl, _, _, _, [], _, [], hW', trodAll_mk1 (shut_bool Try.underlying4 _), (trodAll_cons_mk (Below.trod laidOut (by kernel_rfl) (of_decide_eq_true (by kernel_rfl)) k0 bel lt0) (trodAll_cons_mk (shut_int Try.underlying29 w1) trodAll_mk0)), rfl, bel.frame _, fun h => by cases h⟩

theorem over : Rows.lmapApartRow.holds Try.pinned (OpenSpec.ofChange Rows.lmapApartSpec) :=
  OpenClaim.holds_of_wide 7 Try.f7 rfl rfl rfl rfl rfl rfl rfl ⟨rfl, rfl, rfl, rfl, rfl⟩ rfl rfl rfl rfl rfl (by kernel_rfl) Try.func7 (by kernel_rfl)
    (of_decide_eq_true (by kernel_rfl)) (by unfold Func.isWrapper; first | (rw [if_pos (by decide +kernel)]; kernel_rfl) | (rw [if_neg (by decide +kernel)]; exact ⟨rfl, rfl⟩))
    (fun os started H enc _ => lifted os started H enc)

end Go.Proofs.Ytconfkgadmjhhaa.lmapApart
namespace Go.Proofs.Ytconfkgadmjhhaa
/-- The statement. -/
theorem lmapApart_holds : Rows.LmapApartSaid := lmapApart.over
#print axioms lmapApart_holds
end Go.Proofs.Ytconfkgadmjhhaa
