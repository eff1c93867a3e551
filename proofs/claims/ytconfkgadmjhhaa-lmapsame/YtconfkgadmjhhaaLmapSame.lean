/- What the map holds agrees with itself: every place of All is found by Get and by At, no two places are one, Count counts them, and In of every zone holds them all. -/
import Derived.Test.YtconfkgadmjhhaaRows
import Derived.Test.YtconfkgadmjhhaaLmH
import Derived.WalkKit
import Derived.ProofKit
import Derived.OpenShut
import Derived.ShutString
import Derived.ChangeOld
import Derived.Below
namespace Go.Proofs.Ytconfkgadmjhhaa.lmapSame
open Go.ChangeShapes Go.WideShapes Go.ChangeAt Go.RowKit
open Go.ChangeMaps (open_string shut_string)
set_option linter.unusedVariables false

theorem own : ownKnob Try.prog.godebug = none := by kernel_rfl
theorem laidOut : laidOutB Try.prog = true := by kernel_rfl

set_option maxRecDepth 20000 in
set_option maxHeartbeats 16000000 in
theorem walk (a0 : Option Addr) (n0 c0 : Nat) (x0 : List Opn) (w : World) (w0 : OpsIn w a0 n0 x0 ∧ OpsF x0) :
    Calls Try.prog 4 #[.slice a0 n0 c0] w fun e w' => e = .returned (.bool true) ∧ Below w.heap.size w w' := by
  obtain ⟨⟨hl, hat0⟩, hF⟩ := w0
  subst hl
  have HB : Hid (True ∧ Below w.heap.size w w) := ⟨trivial, Below.refl _ _⟩
  have HI : Hid (OpsIn w a0 x0.length x0 ∧ OpsF x0 ∧ True) := ⟨⟨rfl, hat0⟩, hF, trivial⟩
  clear hat0 hF
  by_cases hgt : 150 < x0.length
  · have hgt' : (150 : Int) < (x0.length : Int) := by omega
    have hgd : decide ((150 : Int) < (x0.length : Int)) = true := decide_eq_true hgt'
    have C := mknown_of w
    go_enter Try.func4, Try.ntmps4
    go_wp2_with fail
    refine C.mono ?_
    rintro e w1 ⟨rfl, b1⟩
    have HE : Hid (Below w.heap.size w w1) := below_on HB.out.2 b1
    clear C b1 HB
    go_wp2
    go_ret
    exact ⟨rfl, HE.out⟩
  · have hle : x0.length ≤ 150 := by omega
    have hle' : (x0.length : Int) ≤ 150 := by omega
    have hgd : decide ((150 : Int) < (x0.length : Int)) = false := decide_eq_false (by omega)
    have C := mknown_of w
    go_enter Try.func4, Try.ntmps4
    go_wp2_with fail
    refine C.mono ?_
    rintro e w1 ⟨rfl, bel1⟩
    have C1 := mNew_of w1
    clear C
    go_wp2_with fail
    refine C1.mono ?_
    rintro e w2 ⟨p, b1, b2, rfl, hP2, bel2, lp, l1, l2⟩
    have C2 := dmNew_of w2
    clear C1
    go_wp2_with fail
    refine C2.mono ?_
    rintro e w3 ⟨rfl, hD3, bel3⟩
    have s1 := bel1.size
    have s2 := bel2.size
    have HS : Hid (Both w p b1 b2 w2.heap.size [] 0 w3) := ⟨hP2.below bel3, hD3, below_on (below_on bel1 bel2) bel3, by omega⟩
    clear C2 hP2 hD3 bel1 bel2 bel3 lp l1 l2 s1 s2
    generalize w2.heap.size = r at HS ⊢
    have hmm := @run_makeMap Try.prog
    go_wp2_with fail
    have H0 : Hid (Both w p b1 b2 r [] 0 (w3.alloc (.map #[] 0)) ∧ FMap fZ0 (w3.alloc (.map #[] 0)) w3.heap.size 0 (fun _ => 0) ∧ (b1 ≠ w3.heap.size ∧ b2 ≠ w3.heap.size ∧ w.heap.size ≤ w3.heap.size)) := ⟨HS.out.below ((Below.refl _ _).alloc (Nat.le_refl _) _), FMap.made fZ0 w3, by have h1 := HS.out.lp.m1.lt; have h2 := HS.out.lp.m2.lt; have h3 := HS.out.bel.size; omega⟩
    clear HS hmm
    generalize w3.alloc (.map #[] 0) = W3 at H0 ⊢
    generalize w3.heap.size = bz at H0 ⊢
    go_loopw [6] (fun i wr => ∃ k : Nat, k ≤ x0.length ∧ i = .int .i64 k ∧ Both w p b1 b2 r (goS (x0.take k)) k wr ∧ FMap fZ0 wr bz k (fun z => if inZ (x0.take k) z then 1 else 0)) (fun i _ => x0.length - (intOf i).toNat)
    case atStart => exact ⟨0, by omega, rfl, H0.out.1, H0.out.2.1⟩
    case round =>
      obtain ⟨k, hk, rfl, hBo, hFz⟩ := hrel
      by_cases hlt : k < x0.length
      · have hlt' : (k : Int) < (x0.length : Int) := by omega
        --[
        obtain ⟨o, ho⟩ : ∃ o, x0[k]? = some o := ⟨_, List.getElem?_eq_getElem hlt⟩
        obtain ⟨g, off, rfl, hcell⟩ := HI.out.1.2.resolve_left (by omega)
        obtain ⟨y0, y1, y2, y3, y4⟩ := hcell k o ho
        have hFo := HI.out.2.1 o (List.mem_of_getElem? ho)
        have HYY : Hid (∀ W, Below w.heap.size w W → W.cell? ⟨g, off + k * 5 + 3, none⟩ = some (.int .i64 o.2.2.1)) := fun W hW => (hW.cell (old_block y3)).trans y3
        have y0 := (hBo.bel.cell (old_block y0)).trans y0
        have y1 := (hBo.bel.cell (old_block y1)).trans y1
        have y2 := (hBo.bel.cell (old_block y2)).trans y2
        have y3 := (hBo.bel.cell (old_block y3)).trans y3
        have y4 := (hBo.bel.cell (old_block y4)).trans y4
        have hSl := goS_len x0 HI.out.2.1 k hk
        have C := mdoes_of p b1 b2 r (goS (x0.take k)) k o wr hBo.lp hBo.ld hFo (by omega) (by omega)
        have HST : Hid (goS (x0.take (k + 1)) = doS (goS (x0.take k)) o ∧ x0[k]? = some o ∧ FitsP o.2) := ⟨goS_step x0 k o ho, ho, hFo⟩
        have HBo : Hid (Both w p b1 b2 r (goS (x0.take k)) k wr ∧ FMap fZ0 wr bz k (fun z => if inZ (x0.take k) z then 1 else 0)) := ⟨hBo, hFz⟩
        clear hcell ho hBo hFz hFo
        go_wp2_with fail
        refine C.mono ?_
        rintro e w4 ⟨rfl, hp4, hd4, ho4⟩
        have hN := HBo.out.1.does hp4 hd4 ho4
        rw [← HST.out.1] at hN
        have hz4 : FMap fZ0 w4 bz k (fun z => if inZ (x0.take k) z then 1 else 0) := HBo.out.2.out ho4 (by
          obtain ⟨v, hr⟩ := HBo.out.1.ld.blk
          rintro (e | e | e)
          · exact H0.out.2.2.1 e.symm
          · exact H0.out.2.2.2.1 e.symm
          · exact HBo.out.2.no_blk hr e.symm)
        obtain ⟨w5, hup, hf5, o5⟩ := hz4.put okZ0 (by omega) (x := o.2.2.1) HST.out.2.2.2.1 (v := 1) (by decide)
        change (Instr.mapUpdate 47 (.map (some bz)) (.int .i64 o.2.2.1) (.int .i64 1)).run Try.prog w4 = .ok () w5 at hup
        have y3 := HYY.out w4 hN.bel
        have HN : Hid (Both w p b1 b2 r (goS (x0.take (k + 1))) (k + 1) w5 ∧ FMap fZ0 w5 bz (k + 1) (fun z => if inZ (x0.take (k + 1)) z then 1 else 0)) := by
          refine ⟨hN.other (fun g cur e fr hg => hz4.no_cells hg) H0.out.2.2.1 H0.out.2.2.2.1 H0.out.2.2.2.2 o5, hf5 _ ?_ ?_⟩
          · simp [inZ_step HST.out.2.1]
          · intro z _ hne
            have : (o.2.2.1 == z) = false := by simpa using fun e => hne e.symm
            simp only [inZ_step HST.out.2.1, this, Bool.or_false]
        clear C hp4 hd4 ho4 HBo HST y0 y1 y2 y4 hN hz4 hf5 o5
        go_wp2
        go_roundw
        case rel => exact ⟨k + 1, by omega, by go_num, HN.out⟩
        case measure => simp [intOf]; omega
        --]
      · have hge : (x0.length : Int) ≤ k := by omega
        have hkn : k = x0.length := by omega
        rw [hkn, List.take_length] at hBo hFz
        obtain ⟨S, hS⟩ : ∃ S, S = goS x0 := ⟨_, rfl⟩
        obtain ⟨c, hc⟩ : ∃ c, c = x0.length := ⟨_, rfl⟩
        have hcl : c ≤ 150 := by omega
        have hSl : S.length ≤ 150 := by
          have := goS_len x0 HI.out.2.1 x0.length (Nat.le_refl _)
          rw [List.take_length, ← hS] at this
          omega
        have HQ : Hid (∀ q ∈ S, inZ x0 q.2.1 = true) := fun q hq => goS_zones HI.out.2.1 (by rw [← hS]; exact hq)
        rw [← hS, ← hc] at hBo
        rw [← hc] at hFz
        have C1 := mAll_of p b1 b2 S c wr hBo.lp (by omega)
        have HBo : Hid (Both w p b1 b2 r S c wr ∧ FMap fZ0 wr bz c (fun z => if inZ x0 z then 1 else 0)) := ⟨hBo, hFz⟩
        have hmm := @run_makeMap Try.prog
        clear hBo hFz hS hc hkn
        go_wp2_with fail
        refine C1.mono ?_
        rintro e w5 ⟨aA, nA, cA, rfl, hO5, bel5⟩
        have hnA : S.length = nA := (own_pl hO5).1
        subst hnA
        obtain ⟨W0, hW0⟩ : ∃ W0 : World, W0 = wr := ⟨wr, rfl⟩
        subst hW0
        have H6 : Hid (Sm2 w p b1 b2 r S c bz w5.heap.size (w5.heap.size + 1) aA (fun z => if inZ x0 z then 1 else 0) c 0 (fun _ => 0) (fun _ => 0) ((w5.alloc (.map #[] 0)).alloc (.map #[] 0))) := by
          have bA : Below W0.heap.size W0 (w5.alloc (.map #[] 0)) := bel5.alloc bel5.size _
          have bB : Below W0.heap.size W0 ((w5.alloc (.map #[] 0)).alloc (.map #[] 0)) := bA.alloc bA.size _
          have bC : Below w5.heap.size w5 ((w5.alloc (.map #[] 0)).alloc (.map #[] 0)) := ((Below.refl _ _).alloc (Nat.le_refl _) _).alloc (by simp) _
          have m2 := FMap.made fA0 (w5.alloc (.map #[] 0))
          have e2 : (w5.alloc (.map #[] 0)).heap.size = w5.heap.size + 1 := by simp
          rw [e2] at m2
          have m1 := (FMap.made fC0 w5).same (w' := (w5.alloc (.map #[] 0)).alloc (.map #[] 0)) (Below.heap_alloc _ _ _ (by simp))
          have hs := bel5.size
          have h1 := HBo.out.1.lp.m1.lt
          have h2 := HBo.out.1.lp.m2.lt
          have h3 := HBo.out.2.lt
          have h4 := HBo.out.1.bel.size
          exact ⟨HBo.out.1.below bB, HBo.out.2.below bB, m1, m2, (own_pl hO5).below bC, ⟨H0.out.2.2.1, H0.out.2.2.2.1, by omega, by omega, by omega, by omega, by omega, by omega, by omega⟩, H0.out.2.2.2.2, by omega, by omega⟩
        clear C1 hO5 bel5 HBo H0
        go_wp2_with fail
        clear hmm
        generalize (w5.alloc (.map #[] 0)).alloc (.map #[] 0) = W6 at H6 ⊢
        generalize w5.heap.size + 1 = ba at H6 ⊢
        generalize w5.heap.size = bc at H6 ⊢
        go_loopw [10, 11, 12, 13, 14] (fun i _ _ _ _ wr => ∃ k : Nat, k ≤ S.length ∧ i = .int .i64 k ∧ Sm2 w p b1 b2 r S c bz bc ba aA (fun z => if inZ x0 z then 1 else 0) c (2 * k) (fun t => (cntS (S.take k) t : Nat)) (inA (S.take k)) wr) (fun i _ _ _ _ _ => S.length - (intOf i).toNat)
        case atStart => exact ⟨0, by omega, rfl, H6.out⟩
        case round =>
          obtain ⟨k, hk, rfl, hM⟩ := hrel
          by_cases hlt : k < S.length
          · have hlt' : (k : Int) < (S.length : Int) := by omega
            obtain ⟨y, hy⟩ : ∃ y, S[k]? = some y := ⟨_, List.getElem?_eq_getElem hlt⟩
            obtain ⟨g, rfl, hcs⟩ := hM.pl.2.resolve_left (by omega)
            obtain ⟨y0, y1, y2, y3⟩ := hcs k y hy
            have hym : (y.1, y.2) ∈ S := List.mem_of_getElem? hy
            have hget : getS S y.1 = some y.2 := (getS_some hM.bo.lp.good).2 hym
            have hfit := hM.bo.lp.good.fits y hym
            have CG : ∀ X, LmP X p b1 b2 S c → Calls Try.prog 12 #[.pointer (some ⟨p, 0, none⟩), .int .u32 y.1.1, .int .u64 y.1.2] X fun e w' => e = .returned (.tuple #[.agg #[.int .i64 y.2.1, .int .i64 y.2.2], .bool true]) ∧ Below X.heap.size X w' := by
              intro X hX
              have := mGet_of p b1 b2 S c y.1 X hX hfit.1
              rw [hget] at this
              exact this
            have HM : Hid (Sm2 w p b1 b2 r S c bz bc ba (some ⟨g, 0, none⟩) (fun z => if inZ x0 z then 1 else 0) c (2 * k) (fun t => (cntS (S.take k) t : Nat)) (inA (S.take k)) wr ∧ S[k]? = some y ∧ FitsP y) := ⟨hM, hy, hfit⟩
            clear hcs hym hget hfit hM hy
            go_wp2_with fail
            go_cut [11, 12] (fun s11 s12 X => ∃ q, s11 = .pointer (some ⟨q, 0, none⟩) ∧ s12 = .bool true ∧ Sm2 w p b1 b2 r S c bz bc ba (some ⟨g, 0, none⟩) (fun z => if inZ x0 z then 1 else 0) c (2 * k) (fun t => (cntS (S.take k) t : Nat)) (inA (S.take k)) X ∧ Blk X q (prL .i64 .i64 y.2) 32)
            case first =>
              --[
              have i0 : ∀ o, (wr.alloc o).cell? ⟨g, k * 4, none⟩ = some (.int .u32 y.1.1) := fun o => (((Below.refl wr.heap.size wr).alloc (Nat.le_refl _) o).cell (old_block y0)).trans y0
              have i1 : ∀ o, (wr.alloc o).cell? ⟨g, k * 4 + 1, none⟩ = some (.int .u64 y.1.2) := fun o => (((Below.refl wr.heap.size wr).alloc (Nat.le_refl _) o).cell (old_block y1)).trans y1
              have ng : g ≠ wr.heap.size := by have h1 : g < wr.heap.size := old_block y0; omega
              go_region_held3 (fun X => X.cell? ⟨g, k * 4, none⟩ = some (.int .u32 y.1.1) ∧ X.cell? ⟨g, k * 4 + 1, none⟩ = some (.int .u64 y.1.2)) (first | exact ⟨y0, y1⟩ | exact ⟨j0, j1⟩ | exact ⟨i0 _, i1 _⟩ | exact ⟨l0 _, l1 _⟩ | exact ⟨kept_set (kept_set j0 ng) ng, kept_set (kept_set j1 ng) ng⟩)
                (first
                | (go_simp; go_at_call 12; refine (CG _ HM.out.1.bo.lp.drew).mono ?_; rintro e w7 ⟨rfl, b7⟩; have b7' : Below wr.heap.size wr w7 := ⟨b7.os, b7.tape, b7.output, b7.size, b7.block⟩; have j0 := (b7'.cell (old_block y0)).trans y0; have j1 := (b7'.cell (old_block y1)).trans y1; have l0 := fun o => (((Below.refl w7.heap.size w7).alloc (Nat.le_refl _) o).cell (old_block j0)).trans j0; have l1 := fun o => (((Below.refl w7.heap.size w7).alloc (Nat.le_refl _) o).cell (old_block j1)).trans j1; have H7 : Hid (Below wr.heap.size wr w7) := b7'; clear b7 b7')
                | (go_simp; go_at_call 12; refine (CG _ (HM.out.1.bo.lp.alloc (.cells #[.int .i64 0, .int .i64 0] 32)).drew).mono ?_; rintro e w7 ⟨rfl, b7⟩; have b7' : Below (wr.alloc (.cells #[.int .i64 0, .int .i64 0] 32)).heap.size (wr.alloc (.cells #[.int .i64 0, .int .i64 0] 32)) w7 := ⟨b7.os, b7.tape, b7.output, b7.size, b7.block⟩; have j0 := (b7'.cell (old_block (i0 _))).trans (i0 _); have j1 := (b7'.cell (old_block (i1 _))).trans (i1 _); have hq7 := (Blk.new' (w := wr) (C := #[.int .i64 0, .int .i64 0]) (L := prL .i64 .i64 (0, 0)) (t := 32) rfl rfl).below b7' (by simp); have q0 := hq7.cell 0; have q1 := hq7.cell 1; have qf := fun i => hq7.frozen i; simp only [prL, List.getElem?_cons_zero, List.getElem?_cons_succ] at q0 q1; have H7 : Hid (Below wr.heap.size wr w7 ∧ Blk w7 wr.heap.size (prL .i64 .i64 (0, 0)) 32) := ⟨below_then ((Below.refl wr.heap.size wr).alloc (Nat.le_refl _) _) b7' (by simp), hq7⟩; clear b7 b7' hq7))
              all_goals go_wp2_with fail
              all_goals go_meet
              all_goals first
                | exact ⟨w7.heap.size, rfl, rfl, HM.out.1.below (H7.out.alloc H7.out.size _), Blk.new' rfl rfl⟩
                | exact ⟨wr.heap.size, rfl, rfl, HM.out.1.below ((H7.out.1.setCell (Nat.le_refl _) _).setCell (Nat.le_refl _) _), (H7.out.2.set 0 _).set 1 _⟩
              --]
            case rest =>
              --[
              obtain ⟨q, rfl, rfl, hM2, hq2⟩ := hcut
              have hym : (y.1, y.2) ∈ S := List.mem_of_getElem? HM.out.2.1
              have hat : atS S y.2 = some y.1 := (atS_some hM2.bo.lp.good).2 hym
              have C2 := mAt_of p b1 b2 S c y.2 wc hM2.bo.lp HM.out.2.2.2
              rw [hat] at C2
              have C2 : Calls Try.prog 14 #[.pointer (some ⟨p, 0, none⟩), .agg #[.int .i64 y.2.1, .int .i64 y.2.2]] wc fun e w' => e = .returned (.tuple #[.agg #[.int .u32 y.1.1, .int .u64 y.1.2, .int .i64 y.2.1, .int .i64 y.2.2], .bool true]) ∧ Below wc.heap.size wc w' := C2
              obtain ⟨g', hg', hcs⟩ := hM2.pl.2.resolve_left (by omega)
              obtain rfl : g = g' := by cases hg'; rfl
              obtain ⟨y0, y1, y2, y3⟩ := hcs k y HM.out.2.1
              have H2 : Hid (Sm2 w p b1 b2 r S c bz bc ba (some ⟨g, 0, none⟩) (fun z => if inZ x0 z then 1 else 0) c (2 * k) (fun t => (cntS (S.take k) t : Nat)) (inA (S.take k)) wc ∧ Blk wc q (prL .i64 .i64 y.2) 32) := ⟨hM2, hq2⟩
              clear hym hat hcs hg' hM2 hq2 CG
              go_wp2_with fail
              refine C2.mono ?_
              rintro e w8 ⟨rfl, b8⟩
              have b9 : Below wc.heap.size wc (w8.alloc (.cells #[.int .u32 y.1.1, .int .u64 y.1.2, .int .i64 y.2.1, .int .i64 y.2.2] 34)) := b8.alloc b8.size _
              have H8 : Hid (Sm2 w p b1 b2 r S c bz bc ba (some ⟨g, 0, none⟩) (fun z => if inZ x0 z then 1 else 0) c (2 * k) (fun t => (cntS (S.take k) t : Nat)) (inA (S.take k)) (w8.alloc (.cells #[.int .u32 y.1.1, .int .u64 y.1.2, .int .i64 y.2.1, .int .i64 y.2.2] 34)) ∧ Blk (w8.alloc (.cells #[.int .u32 y.1.1, .int .u64 y.1.2, .int .i64 y.2.1, .int .i64 y.2.2] 34)) q (prL .i64 .i64 y.2) 32 ∧ Blk (w8.alloc (.cells #[.int .u32 y.1.1, .int .u64 y.1.2, .int .i64 y.2.1, .int .i64 y.2.2] 34)) w8.heap.size (plL y) 34) := ⟨H2.out.1.below b9, H2.out.2.below b9 H2.out.2.lt, Blk.new' rfl rfl⟩
              clear C2 b8 b9 H2 y0 y1 y2 y3
              go_wp2_with fail
              generalize w8.alloc (.cells #[.int .u32 y.1.1, .int .u64 y.1.2, .int .i64 y.2.1, .int .i64 y.2.2] 34) = W8 at H8 ⊢
              generalize w8.heap.size = q13 at H8 ⊢
              obtain ⟨g', hg', hcs⟩ := H8.out.1.pl.2.resolve_left (by omega)
              obtain rfl : g = g' := by cases hg'; rfl
              obtain ⟨y0, y1, y2, y3⟩ := hcs k y HM.out.2.1
              obtain ⟨v0, v1, v2, v3⟩ := H8.out.2.2.four
              have t0 := H8.out.2.1.cell 0
              have t1 := H8.out.2.1.cell 1
              simp only [prL, List.getElem?_cons_zero, List.getElem?_cons_succ] at t0 t1
              have y0 : ∀ j, (W8.drewN j).cell? ⟨g, k * 4, none⟩ = some (.int .u32 y.1.1) := fun j => y0
              have y1 : ∀ j, (W8.drewN j).cell? ⟨g, k * 4 + 1, none⟩ = some (.int .u64 y.1.2) := fun j => y1
              have y2 : ∀ j, (W8.drewN j).cell? ⟨g, k * 4 + 2, none⟩ = some (.int .i64 y.2.1) := fun j => y2
              have y3 : ∀ j, (W8.drewN j).cell? ⟨g, k * 4 + 3, none⟩ = some (.int .i64 y.2.2) := fun j => y3
              have v0 : ∀ j, (W8.drewN j).cell? ⟨q13, 0, none⟩ = some (.int .u32 y.1.1) := fun j => v0
              have v1 : ∀ j, (W8.drewN j).cell? ⟨q13, 1, none⟩ = some (.int .u64 y.1.2) := fun j => v1
              have v2 : ∀ j, (W8.drewN j).cell? ⟨q13, 2, none⟩ = some (.int .i64 y.2.1) := fun j => v2
              have v3 : ∀ j, (W8.drewN j).cell? ⟨q13, 3, none⟩ = some (.int .i64 y.2.2) := fun j => v3
              have t0 : ∀ j, (W8.drewN j).cell? ⟨q, 0, none⟩ = some (.int .i64 y.2.1) := fun j => t0
              have t1 : ∀ j, (W8.drewN j).cell? ⟨q, 1, none⟩ = some (.int .i64 y.2.2) := fun j => t1
              have hnA := fun W => neqA y.2 y.2 W
              have hnP := fun W => neqP y y W
              simp only [bne_self_eq_false] at hnA hnP
              have hlk : ∀ j, (Instr.lookup 49 (.map (some ba)) (.agg #[.int .i64 y.2.1, .int .i64 y.2.2]) false).run Try.prog (W8.drewN j) = .ok (.int .i64 0) (W8.drewN j) := fun j => by
                have := (H8.out.1.drewN j).a.look okA0 (x := y.2) HM.out.2.2.2
                rw [inA_new H8.out.1.bo.lp.good HM.out.2.1] at this
                exact this
              clear hcs hg'
              go_quiet (fail)
              rename_i nq
              have H9 : Hid (Sm2 w p b1 b2 r S c bz bc ba (some ⟨g, 0, none⟩) (fun z => if inZ x0 z then 1 else 0) c (2 * k) (fun t => (cntS (S.take k) t : Nat)) (inA (S.take k)) (W8.drewN nq)) := H8.out.1.drewN nq
              have t0 := t0 nq
              have t1 := t1 nq
              clear hlk hnA hnP v0 v1 v2 v3 y0 y1 y2 y3 H8
              generalize W8.drewN nq = W9 at H9 t0 t1 ⊢
              have hk2 : 2 * k + 1 < 100000 := by omega
              obtain ⟨W10, hup, hf10, o10⟩ := H9.out.a.put okA0 (by omega) (x := y.2) HM.out.2.2.2 (v := 1) (by decide)
              change (Instr.mapUpdate 49 (.map (some ba)) (.agg #[.int .i64 y.2.1, .int .i64 y.2.2]) (.int .i64 1)).run Try.prog W9 = .ok () W10 at hup
              have h10 : Sm2 w p b1 b2 r S c bz bc ba (some ⟨g, 0, none⟩) (fun z => if inZ x0 z then 1 else 0) c (2 * k + 1) (fun t => (cntS (S.take k) t : Nat)) (inA (S.take (k + 1))) W10 := H9.out.setA (hf10 _ (by rw [inA_step HM.out.2.1]; simp) (fun s _ hne => by rw [inA_step HM.out.2.1, if_neg (fun e => hne e.symm)])) o10
              obtain ⟨g', hg', hcs⟩ := h10.pl.2.resolve_left (by omega)
              obtain rfl : g = g' := by cases hg'; rfl
              obtain ⟨y0, y1, y2, y3⟩ := hcs k y HM.out.2.1
              obtain ⟨cn, hcn⟩ : ∃ cn : Nat, cn = cntS (S.take k) y.1.1 := ⟨_, rfl⟩
              have hcl2 : cn ≤ 150 := by
                have h1 := cnt_le (S.take k) y.1.1
                have h2 := List.length_take_le k S
                omega
              have hlk : (Instr.lookup 48 (.map (some bc)) (.int .u32 y.1.1) false).run Try.prog W10.drew = .ok (.int .u64 (cn : Nat)) W10.drew := by
                have := h10.drew.c.look okC0 (x := y.1.1) HM.out.2.2.1.1
                rw [hcn]
                exact this
              obtain ⟨W11, hup2, hf11, o11⟩ := h10.drew.c.put okC0 hk2 (x := y.1.1) HM.out.2.2.1.1 (v := (cn : Int) + 1) (WalkArith.wf_u64 (by omega))
              change (Instr.mapUpdate 48 (.map (some bc)) (.int .u32 y.1.1) (.int .u64 ((cn : Int) + 1))).run Try.prog W10.drew = .ok () W11 at hup2
              have H11 : Hid (Sm2 w p b1 b2 r S c bz bc ba (some ⟨g, 0, none⟩) (fun z => if inZ x0 z then 1 else 0) c (2 * (k + 1)) (fun t => (cntS (S.take (k + 1)) t : Nat)) (inA (S.take (k + 1))) W11) := h10.drew.setC (hf11 _ (by simp only [cnt_step HM.out.2.1]; rw [← hcn]; simp) (fun s _ hne => by
                have e : (y.1.1 == s) = false := by simpa using fun e' => hne e'.symm
                simp only [cnt_step HM.out.2.1]
                rw [e]; simp)) o11
              clear hcs hg' hf10 hf11 o10 o11 h10 H9 hcn y1 y2 y3
              go_wp2_with fail
              clear hup t0 t1
              go_region
              all_goals (
                go_wp2
                go_roundw
                case rel => exact ⟨k + 1, by omega, by go_num, H11.out⟩
                case measure => simp [intOf]; omega)
              --]
          · have hge : (S.length : Int) ≤ k := by omega
            obtain rfl : k = S.length := by omega
            rw [List.take_length] at hM
            clear H6
            obtain ⟨W1, hW1⟩ : ∃ W1 : World, W1 = wr := ⟨wr, rfl⟩
            subst hW1
            have H6 : Hid (Sm2 w p b1 b2 r S c bz bc ba aA (fun z => if inZ x0 z then 1 else 0) c (2 * S.length) (fun t => (cntS S t : Nat)) (inA S) W1) := hM
            clear hM
            go_wp2_with fail
            go_loopw [15] (fun i wr => ∃ k : Nat, k ≤ S.length ∧ i = .int .i64 k ∧ Sm2 w p b1 b2 r S c bz bc ba aA (fun z => if inZ x0 z then 1 else 0) c (2 * S.length) (fun t => (cntS S t : Nat)) (inA S) wr) (fun i _ => S.length - (intOf i).toNat)
            case atStart => exact ⟨0, by omega, rfl, H6.out⟩
            case round =>
              obtain ⟨k, hk, rfl, hM⟩ := hrel
              by_cases hlt : k < S.length
              · have hlt' : (k : Int) < (S.length : Int) := by omega
                obtain ⟨y, hy⟩ : ∃ y, S[k]? = some y := ⟨_, List.getElem?_eq_getElem hlt⟩
                obtain ⟨g, rfl, hcs⟩ := hM.pl.2.resolve_left (by omega)
                obtain ⟨y0, y1, y2, y3⟩ := hcs k y hy
                have hfit := hM.bo.lp.good.fits y (List.mem_of_getElem? hy)
                have HL : Hid (∀ X, Sm2 w p b1 b2 r S c bz bc ba (some ⟨g, 0, none⟩) (fun z => if inZ x0 z then 1 else 0) c (2 * S.length) (fun t => (cntS S t : Nat)) (inA S) X → (Instr.lookup 48 (.map (some bc)) (.int .u32 y.1.1) false).run Try.prog X = .ok (.int .u64 (cntS S y.1.1 : Nat)) X) := fun X hX => hX.c.look okC0 hfit.1.1
                have CA := mCount_of p b1 b2 S c y.1.1 wr.drew hM.bo.lp.drew (by omega)
                obtain ⟨N, hN⟩ : ∃ N, N = cntS S y.1.1 := ⟨_, rfl⟩
                rw [← hN] at HL CA
                have HM : Hid (Sm2 w p b1 b2 r S c bz bc ba (some ⟨g, 0, none⟩) (fun z => if inZ x0 z then 1 else 0) c (2 * S.length) (fun t => (cntS S t : Nat)) (inA S) wr) := hM
                have hl0 := HL.out wr hM
                have hl1 := HL.out wr.drew hM.drew
                clear hcs hM hy hfit hN y1 y2 y3
                go_wp2_with fail
                go_region_held3 (fun X => X.cell? ⟨g, k * 4, none⟩ = some (.int .u32 y.1.1)) (first | exact y0 | exact j0)
                  ((go_simp; go_at_call 16; refine CA.mono ?_; rintro e w7 ⟨rfl, b7⟩; have b7' : Below wr.heap.size wr w7 := ⟨b7.os, b7.tape, b7.output, b7.size, b7.block⟩; have j0 := (b7'.cell (old_block y0)).trans y0; have H7 : Hid (Sm2 w p b1 b2 r S c bz bc ba (some ⟨g, 0, none⟩) (fun z => if inZ x0 z then 1 else 0) c (2 * S.length) (fun t => (cntS S t : Nat)) (inA S) w7) := HM.out.below b7'; have hl7 := HL.out w7 H7.out; have hl8 := HL.out w7.drew H7.out.drew; clear b7 b7'))
                all_goals (
                  go_wp2
                  go_roundw
                  case rel => exact ⟨k + 1, by omega, by go_num, H7.out⟩
                  case measure => simp [intOf]; omega)
              · have hge3 : (S.length : Int) ≤ k := by omega
                clear H6
                obtain ⟨W2, hW2⟩ : ∃ W2 : World, W2 = wr := ⟨wr, rfl⟩
                subst hW2
                have H6 : Hid (Sm2 w p b1 b2 r S c bz bc ba aA (zTo x0 0) (c + 0) (2 * S.length) (fun t => (cntS S t : Nat)) (inA S) W2) := by rw [zTo_zero]; exact hM
                clear hM
                go_wp2_with fail
                go_loopw [16, 17, 18] (fun n i _ wr => ∃ k : Nat, k ≤ x0.length ∧ n = .int .i64 (nZ S x0 k : Nat) ∧ i = .int .i64 k ∧ Sm2 w p b1 b2 r S c bz bc ba aA (zTo x0 k) (c + k) (2 * S.length) (fun t => (cntS S t : Nat)) (inA S) wr) (fun _ i _ _ => x0.length - (intOf i).toNat)
                case atStart => exact ⟨0, by omega, by rw [nZ_zero]; rfl, rfl, H6.out⟩
                case round =>
                  obtain ⟨k, hk, rfl, rfl, hM⟩ := hrel
                  have hnl := nZ_le S x0 k
                  by_cases hlt : k < x0.length
                  · have hlt' : (k : Int) < (x0.length : Int) := by omega
                    obtain ⟨o, ho⟩ : ∃ o, x0[k]? = some o := ⟨_, List.getElem?_eq_getElem hlt⟩
                    obtain ⟨g, off, rfl, hcell⟩ := HI.out.1.2.resolve_left (by omega)
                    obtain ⟨y0, y1, y2, y3, y4⟩ := hcell k o ho
                    have hFo := HI.out.2.1 o (List.mem_of_getElem? ho)
                    have y3 := (hM.bo.bel.cell (old_block y3)).trans y3
                    have hz := hM.z.look okZ0 (x := o.2.2.1) hFo.2.1
                    rw [zTo_at ho] at hz
                    change (Instr.lookup 47 (.map (some bz)) (.int .i64 o.2.2.1) false).run Try.prog wr = .ok (.int .i64 (if inZ (x0.take k) o.2.2.1 then 0 else 1)) wr at hz
                    clear hcell y0 y1 y2 y4
                    cases hin : inZ (x0.take k) o.2.2.1 with
                    | true =>
                      rw [hin, if_pos rfl] at hz
                      have HN : Hid (Sm2 w p b1 b2 r S c bz bc ba aA (zTo x0 (k + 1)) (c + (k + 1)) (2 * S.length) (fun t => (cntS S t : Nat)) (inA S) wr ∧ nZ S x0 (k + 1) = nZ S x0 k) := ⟨by rw [zTo_old ho hin]; exact hM.moreZ (by omega), nZ_old ho hin⟩
                      clear hM ho hin
                      go_wp2
                      go_roundw
                      case rel => exact ⟨k + 1, by omega, by rw [HN.out.2], by go_num, HN.out.1⟩
                      case measure => simp [intOf]; omega
                    | false =>
                      rw [hin, if_neg (by decide)] at hz
                      obtain ⟨W7, hup, hf7, o7⟩ := hM.z.put okZ0 (by omega) (x := o.2.2.1) hFo.2.1 (v := 0) (by decide)
                      change (Instr.mapUpdate 47 (.map (some bz)) (.int .i64 o.2.2.1) (.int .i64 0)).run Try.prog wr = .ok () W7 at hup
                      have h7 : Sm2 w p b1 b2 r S c bz bc ba aA (zTo x0 (k + 1)) (c + k + 1) (2 * S.length) (fun t => (cntS S t : Nat)) (inA S) W7 := hM.setZ (hf7 _ (zTo_here ho) (fun s _ hne => zTo_other ho hne)) o7
                      have CI := mIn_of p b1 b2 S c o.2.2.1 W7 h7.bo.lp (by omega)
                      have H7 : Hid (Sm2 w p b1 b2 r S c bz bc ba aA (zTo x0 (k + 1)) (c + k + 1) (2 * S.length) (fun t => (cntS S t : Nat)) (inA S) W7 ∧ x0[k]? = some o ∧ inZ (x0.take k) o.2.2.1 = false) := ⟨h7, ho, hin⟩
                      clear hM ho hin hf7 o7 h7
                      go_wp2_with fail
                      refine CI.mono ?_
                      rintro e w7 ⟨LA, a7, n7, c7, rfl, hI7, hO7, b7⟩
                      obtain rfl : LA.length = n7 := (own_pl hO7).1
                      have hn7 : nZ S x0 (k + 1) = nZ S x0 k + LA.length := by rw [nZ_new H7.out.2.1 H7.out.2.2, hI7.len H7.out.1.bo.lp.good]
                      have hnl7 := nZ_le S x0 (k + 1)
                      have HN : Hid (Sm2 w p b1 b2 r S c bz bc ba aA (zTo x0 (k + 1)) (c + k + 1) (2 * S.length) (fun t => (cntS S t : Nat)) (inA S) w7) := H7.out.1.below b7
                      clear CI hI7 hO7 b7 hup hz y3
                      go_wp2
                      go_roundw
                      case rel => exact ⟨k + 1, by omega, by go_num, by go_num, HN.out⟩
                      case measure => simp [intOf]; omega
                  · have hge4 : (x0.length : Int) ≤ k := by omega
                    obtain rfl : k = x0.length := by omega
                    have hall : nZ S x0 x0.length = S.length := nZ_all HQ.out (Nat.le_refl _)
                    rw [hall]
                    have HE : Hid (Below w.heap.size w wr) := hM.bo.bel
                    clear hM hall hnl
                    go_wp2
                    go_ret
                    exact ⟨rfl, HE.out⟩

set_option maxRecDepth 100000 in
theorem lifted (os : Os) (started : os.Started) (H : Type) (enc : TypeId × Value → H) :
    ReturnsInHanded {} Try.checked os 4 .any (Rows.lmapSameSpec.pre6 enc Try.prog Try.f4 Rows.lmapSameRow.domain false) (Rows.lmapSameSpec.post enc Try.prog Try.f4 false true false false) := by
  refine returnsInHanded_of_change (C := Try.checked) own started (by kernel_rfl) Try.func4
    (ChangeSpec.witness6 (enc := enc) (C := Try.checked) false ⟨#[], #[.slice none 0 0], []⟩ 8 (by kernel_rfl) (by kernel_rfl) (by kernel_rfl) (by kernel_rfl)) ?_
  intro W base args ds gs before hval0 hW hcnd _
  have hval : ∀ (j : Nat) t v, Try.f4.params[j]? = some t → args[j]? = some v → Value.okWide Try.prog W .any base t v := hval0
  have hW' := hW
  obtain ⟨p, q, hA0, hV, rfl, hfz, hnd⟩ := hW
  have hA : DataW.TrodAll enc Try.prog W 0 (fun _ => true) true Try.f4.params.toList args.toList ds p := hA0
  rw [Try.params4] at hA hval
  obtain ⟨v0, vs0, d0, ds0, p0, q0, hargs, rfl, rfl, h0, r0⟩ := trodAll_cons hA
  obtain ⟨rfl, rfl, rfl⟩ := trodAll_nil r0
  obtain rfl : args = #[v0] := by cases args; simp_all
  obtain ⟨rfl, rfl⟩ := trodVars_none hV
  obtain ⟨a0, n0, c0, rfl⟩ := okWide_slice Try.underlying22 (hval 0 22 v0 rfl rfl)
  have k0 := h0
  have lt0 : ∀ x ∈ p0, x.block < W.heap.size := by obtain ⟨m, hm⟩ := k0; exact DataW.trod_lt m _ _ _ hm
  obtain ⟨x0, w0⟩ := open_ops h0
  clear hA0 hval0
  refine (walk a0 n0 c0 x0 W w0).mono fun e W' ⟨he, bel⟩ => ?_
  subst he
  exact ⟨_, rfl, _, _, _, [], _, [], hW', trodAll_mk1 (shut_bool Try.underlying4 _), (trodAll_cons_mk (Below.trod laidOut (by kernel_rfl) (of_decide_eq_true (by kernel_rfl)) k0 bel lt0) trodAll_mk0), rfl, bel.frame _, fun h => by cases h⟩

theorem over : Rows.lmapSameRow.holds Try.pinned (OpenSpec.ofChange Rows.lmapSameSpec) :=
  OpenClaim.holds_of_wide 4 Try.f4 rfl rfl rfl rfl rfl rfl rfl ⟨rfl, rfl, rfl, rfl, rfl⟩ rfl rfl rfl rfl rfl (by kernel_rfl) Try.func4 (by kernel_rfl)
    (of_decide_eq_true (by kernel_rfl)) (by unfold Func.isWrapper; first | (rw [if_pos (by decide +kernel)]; kernel_rfl) | (rw [if_neg (by decide +kernel)]; exact ⟨rfl, rfl⟩))
    (fun os started H enc _ => lifted os started H enc)

end Go.Proofs.Ytconfkgadmjhhaa.lmapSame
namespace Go.Proofs.Ytconfkgadmjhhaa
/-- The statement. -/
theorem lmapSame_holds : Rows.LmapSameSaid := lmapSame.over
#print axioms lmapSame_holds
end Go.Proofs.Ytconfkgadmjhhaa
