/- For every row of at most 150 calls: what is told is new memory: written over, nothing changes. -/
import Derived.Test.YtconfkgadmjhhaaRows
import Derived.Test.YtconfkgadmjhhaaLmZ
import Derived.WalkKit
import Derived.ProofKit
import Derived.OpenShut
import Derived.ShutString
import Derived.ChangeOld
import Derived.Below
namespace Go.Proofs.Ytconfkgadmjhhaa.lmapOwn
open Go.ChangeShapes Go.WideShapes Go.ChangeAt Go.RowKit
open Go.ChangeMaps (open_string shut_string)
set_option linter.unusedVariables false

theorem own : ownKnob Try.prog.godebug = none := by kernel_rfl
theorem laidOut : laidOutB Try.prog = true := by kernel_rfl

set_option maxRecDepth 20000 in
set_option maxHeartbeats 16000000 in
theorem walk (a0 : Option Addr) (n0 c0 : Nat) (x0 : List Opn) (w : World) (w0 : OpsIn w a0 n0 x0 ∧ OpsF x0) :
    Calls Try.prog 6 #[.slice a0 n0 c0] w fun e w' => e = .returned (.bool true) ∧ Below w.heap.size w w' := by
  obtain ⟨⟨hl, hat0⟩, hF⟩ := w0
  subst hl
  have HB : Hid (True ∧ Below w.heap.size w w) := ⟨trivial, Below.refl _ _⟩
  have HI : Hid (OpsIn w a0 x0.length x0 ∧ OpsF x0 ∧ True) := ⟨⟨rfl, hat0⟩, hF, trivial⟩
  clear hat0 hF
  by_cases hgt : 150 < x0.length
  · have hgt' : (150 : Int) < (x0.length : Int) := by omega
    have hgd : decide ((150 : Int) < (x0.length : Int)) = true := decide_eq_true hgt'
    have C := mknown_of w
    go_enter Try.func6, Try.ntmps6
    go_wp2_with fail
    refine C.mono ?_
    rintro e w1 ⟨rfl, b1⟩
    have HE : Hid (Below w.heap.size w w1) := below_on HB.out.2 b1
    clear C b1 HB
    go_wp2
    go_ret
    exact ⟨rfl, HE.out⟩
  · have hle : x0.length ≤ 150 := by omega
    have hle' : (x0.length : Int) ≤ 150 := by omega
    have hgd : decide ((150 : Int) < (x0.length : Int)) = false := decide_eq_false (by omega)
    have C := mknown_of w
    go_enter Try.func6, Try.ntmps6
    go_wp2_with fail
    refine C.mono ?_
    rintro e w1 ⟨rfl, bel1⟩
    have C1 := mNew_of w1
    clear C
    go_wp2_with fail
    refine C1.mono ?_
    rintro e w2 ⟨p, b1, b2, rfl, hP2, bel2, lp, l1, l2⟩
    have C2 := dmNew_of w2
    clear C1
    go_wp2_with fail
    refine C2.mono ?_
    rintro e w3 ⟨rfl, hD3, bel3⟩
    have s1 := bel1.size
    have s2 := bel2.size
    have HS : Hid (Both w p b1 b2 w2.heap.size [] 0 w3) := ⟨hP2.below bel3, hD3, below_on (below_on bel1 bel2) bel3, by omega⟩
    clear C2 hP2 hD3 bel1 bel2 bel3 lp l1 l2 s1 s2
    generalize w2.heap.size = r at HS ⊢
    go_wp2_with fail
    go_loopw [5] (fun i wr => ∃ k : Nat, k ≤ x0.length ∧ i = .int .i64 k ∧ Both w p b1 b2 r (goS (x0.take k)) k wr) (fun i _ => x0.length - (intOf i).toNat)
    case atStart => exact ⟨0, by omega, rfl, HS.out⟩
    case round =>
      obtain ⟨k, hk, rfl, hBo⟩ := hrel
      by_cases hlt : k < x0.length
      · have hlt' : (k : Int) < (x0.length : Int) := by omega
        obtain ⟨o, ho⟩ : ∃ o, x0[k]? = some o := ⟨_, List.getElem?_eq_getElem hlt⟩
        obtain ⟨g, off, rfl, hcell⟩ := HI.out.1.2.resolve_left (by omega)
        obtain ⟨y0, y1, y2, y3, y4⟩ := hcell k o ho
        have y0 := (hBo.bel.cell (old_block y0)).trans y0
        have y1 := (hBo.bel.cell (old_block y1)).trans y1
        have y2 := (hBo.bel.cell (old_block y2)).trans y2
        have y3 := (hBo.bel.cell (old_block y3)).trans y3
        have y4 := (hBo.bel.cell (old_block y4)).trans y4
        have hSl := goS_len x0 HI.out.2.1 k hk
        have C := mdoes_of p b1 b2 r (goS (x0.take k)) k o wr hBo.lp hBo.ld (HI.out.2.1 o (List.mem_of_getElem? ho)) (by omega) (by omega)
        have HST : Hid (goS (x0.take (k + 1)) = doS (goS (x0.take k)) o) := goS_step x0 k o ho
        have HBo : Hid (Both w p b1 b2 r (goS (x0.take k)) k wr) := hBo
        clear hcell ho hBo
        go_wp2_with fail
        refine C.mono ?_
        rintro e w4 ⟨rfl, hp4, hd4, ho4⟩
        have HN : Hid (Both w p b1 b2 r (goS (x0.take (k + 1))) (k + 1) w4) := by rw [HST.out]; exact HBo.out.does hp4 hd4 ho4
        clear C hp4 hd4 ho4 HBo HST y0 y1 y2 y3 y4
        go_wp2
        go_roundw
        case rel => exact ⟨k + 1, by omega, by go_num, HN.out⟩
        case measure => simp [intOf]; omega
      · have hge : (x0.length : Int) ≤ k := by omega
        have hkn : k = x0.length := by omega
        rw [hkn, List.take_length] at hBo
        obtain ⟨S, hS⟩ : ∃ S, S = goS x0 := ⟨_, rfl⟩
        obtain ⟨c, hc⟩ : ∃ c, c = x0.length := ⟨_, rfl⟩
        have hcl : c ≤ 150 := by omega
        have HL : Hid (S.length ≤ 150) := by
          have := goS_len x0 HI.out.2.1 x0.length (Nat.le_refl _)
          rw [List.take_length, ← hS] at this
          show S.length ≤ 150
          omega
        have HQ : Hid (S = goS x0) := hS
        rw [← hS, ← hc] at hBo
        have HBo : Hid (Both w p b1 b2 r S c wr) := hBo
        clear hBo hS hc hkn
        obtain ⟨W0, hW0⟩ : ∃ W0 : World, W0 = wr := ⟨wr, rfl⟩
        subst hW0
        have C1 := mAll_of p b1 b2 S c W0 HBo.out.lp (by omega)
        go_wp2_with fail
        refine C1.mono ?_
        rintro e w5 ⟨aA, nA, cA, rfl, hO5, bel5⟩
        have hnA : S.length = nA := (own_pl hO5).1
        subst hnA
        have HO5 : Hid (w5.ownsRow W0.heap.size 34 4 (.slice aA S.length cA) S.length (plC S) ∧ Below W0.heap.size W0 w5) := ⟨hO5, bel5⟩
        have hSl : S.length ≤ 150 := HL.out
        clear C1 hO5 bel5 HL
        go_wp2_with fail
        go_loopw [7, 8, 9] (fun i _ _ W => ∃ (k : Nat) (L : List Pl), k ≤ S.length ∧ i = .int .i64 k ∧ L.length = S.length ∧ W.ownsRow W0.heap.size 34 4 (.slice aA S.length cA) S.length (plC L) ∧ Below W0.heap.size W0 W) (fun i _ _ _ => S.length - (intOf i).toNat)
        case atStart => exact ⟨0, S, by omega, rfl, rfl, HO5.out⟩
        case round =>
          obtain ⟨W, hW⟩ : ∃ W : World, W = wr := ⟨wr, rfl⟩
          subst hW
          obtain ⟨k, L, hk, rfl, hLl, hO, hB⟩ := hrel
          by_cases hlt : k < S.length
          · have hlt' : (k : Int) < (S.length : Int) := by omega
            obtain ⟨y, hy⟩ : ∃ y, L[k]? = some y := ⟨_, List.getElem?_eq_getElem (by omega)⟩
            have hPl := own_pl hO
            obtain ⟨g, rfl, hcs⟩ := hPl.2.resolve_left (by omega)
            obtain ⟨y0, y1, y2, y3⟩ := hcs k y hy
            have C := mIn_of p b1 b2 S c y.2.1 W (HBo.out.lp.below hB) (by omega)
            have HW : Hid (L.length = S.length ∧ W.ownsRow W0.heap.size 34 4 (.slice (some ⟨g, 0, none⟩) S.length cA) S.length (plC L) ∧ Below W0.heap.size W0 W) := ⟨hLl, hO, hB⟩
            clear hcs hPl hO hB hLl hy
            go_wp2_with fail
            refine C.mono ?_
            rintro e w6 ⟨Lz, aI, nI, cI, rfl, hIs, hO6, bel6⟩
            have hnI : Lz.length = nI := (own_pl hO6).1
            subst hnI
            have hIl : Lz.length ≤ 150 := by
              rw [hIs.len HBo.out.lp.good]
              exact Nat.le_trans (List.length_filter_le _ _) hSl
            have HO6 : Hid (w6.ownsRow W.heap.size 34 4 (.slice aI Lz.length cI) Lz.length (plC Lz) ∧ Below W.heap.size W w6) := ⟨hO6, bel6⟩
            clear C hO6 bel6 hIs y0 y1 y2 y3
            go_wp2_with fail
            go_loopw [9] (fun i X => ∃ (m : Nat) (M : List Pl), m ≤ Lz.length ∧ i = .int .i64 m ∧ M.length = Lz.length ∧ X.ownsRow W.heap.size 34 4 (.slice aI Lz.length cI) Lz.length (plC M) ∧ Below W.heap.size W X) (fun i _ => Lz.length - (intOf i).toNat)
            case atStart => exact ⟨0, Lz, by omega, rfl, rfl, HO6.out⟩
            case round =>
              obtain ⟨X, hX⟩ : ∃ X : World, X = wr := ⟨wr, rfl⟩
              subst hX
              obtain ⟨m, M, hm, rfl, hMl, hOM, hBM⟩ := hrel
              by_cases hlm : m < Lz.length
              · have hlm' : (m : Int) < (Lz.length : Int) := by omega
                obtain ⟨u, hu⟩ : ∃ u, M[m]? = some u := ⟨_, List.getElem?_eq_getElem (by omega)⟩
                obtain ⟨q, rfl, hcs⟩ := (own_pl hOM).2.resolve_left (by omega)
                obtain ⟨u0, u1, u2, u3⟩ := hcs m u hu
                have f0 := fun i => own_frozen hOM i
                have hOM' : X.ownsRow W.heap.size 34 4 (.slice (some ⟨q, 0, none⟩) M.length cI) M.length (plC M) := by rw [hMl]; exact hOM
                have hs4 := own_set4 hOM' m ((99, 0), (0, 0)) (by omega)
                have hq := (hOM.lt q rfl).1
                rw [List.length_set, hMl] at hs4
                have HX : Hid ((set4 X q m ((99, 0), (0, 0))).ownsRow W.heap.size 34 4 (.slice (some ⟨q, 0, none⟩) Lz.length cI) Lz.length (plC (M.set m ((99, 0), (0, 0)))) ∧ Below W.heap.size W (set4 X q m ((99, 0), (0, 0))) ∧ (M.set m ((99, 0), (0, 0))).length = Lz.length) := ⟨hs4, below_set4 hBM hq m _, by rw [List.length_set]; exact hMl⟩
                clear hcs hu hOM hBM hOM' hs4
                go_wp2
                go_roundw
                case rel => exact ⟨m + 1, M.set m ((99, 0), (0, 0)), by omega, by go_num, HX.out.2.2, HX.out.1, HX.out.2.1⟩
                case measure => simp [intOf]; omega
              · have hgm : (Lz.length : Int) ≤ m := by omega
                have hO7 := (below_out Non (show Below W.heap.size W X from hBM)).own HW.out.2.1 (fun _ _ e => e)
                have hB7 := below_then HW.out.2.2 hBM HW.out.2.2.size
                obtain ⟨y, hy⟩ : ∃ y, L[k]? = some y := ⟨_, List.getElem?_eq_getElem (by have := HW.out.1; omega)⟩
                obtain ⟨g2, hg2, hcs⟩ := (own_pl hO7).2.resolve_left (by omega)
                obtain rfl : g = g2 := by cases hg2; rfl
                obtain ⟨y0, y1, y2, y3⟩ := hcs k y hy
                have f0 := fun i => own_frozen hO7 i
                have hO7' : X.ownsRow W0.heap.size 34 4 (.slice (some ⟨g, 0, none⟩) L.length cA) L.length (plC L) := by rw [HW.out.1]; exact hO7
                have hs4 := own_set4 hO7' k ((99, 0), (0, 0)) (by have := HW.out.1; omega)
                have hg := (hO7.lt g rfl).1
                rw [List.length_set, HW.out.1] at hs4
                have HX : Hid ((set4 X g k ((99, 0), (0, 0))).ownsRow W0.heap.size 34 4 (.slice (some ⟨g, 0, none⟩) S.length cA) S.length (plC (L.set k ((99, 0), (0, 0)))) ∧ Below W0.heap.size W0 (set4 X g k ((99, 0), (0, 0))) ∧ (L.set k ((99, 0), (0, 0))).length = S.length) := ⟨hs4, below_set4 hB7 hg k _, by rw [List.length_set]; exact HW.out.1⟩
                clear hcs hO7 hB7 hO7' hs4 hOM hBM hg2 hy
                go_wp2
                go_roundw
                case rel => exact ⟨k + 1, L.set k ((99, 0), (0, 0)), by omega, by go_num, HX.out.2.2, HX.out.1, HX.out.2.1⟩
                case measure => simp [intOf]; omega
          · have hge2 : (S.length : Int) ≤ k := by omega
            have hBo := HBo.out.below hB
            have C2 := mAll_of p b1 b2 S c W hBo.lp (by omega)
            have HB2 : Hid (Both w p b1 b2 r S c W) := hBo
            clear hO hB hBo
            go_wp2_with fail
            refine C2.mono ?_
            rintro e w7 ⟨a7, n7, c7, rfl, hO7, bel7⟩
            have hn7 : S.length = n7 := (own_pl hO7).1
            subst hn7
            have C3 := dmAll_of r S w7 (HB2.out.below bel7).ld (by omega)
            have H7 : Hid (PlIn w7 a7 S.length S ∧ Below w.heap.size w w7) := ⟨own_pl hO7, (HB2.out.below bel7).bel⟩
            clear C2 hO7 bel7
            go_wp2_with fail
            refine C3.mono ?_
            rintro e w8 ⟨a8, c8, rfl, hP8, bel8⟩
            have C4 := samePlaces_of a7 a8 S.length c7 c8 S w8 (H7.out.1.below bel8) hP8 (by omega)
            have H8 : Hid (Below w.heap.size w w8) := below_then H7.out.2 bel8 H7.out.2.size
            clear C3 hP8 bel8
            go_wp2_with fail
            refine C4.mono ?_
            rintro e w9 ⟨rfl, bel9⟩
            have H9 : Hid (Below w.heap.size w w9) := below_then H8.out bel9 H8.out.size
            clear C4 bel9
            go_wp2
            go_ret
            exact ⟨rfl, H9.out⟩

set_option maxRecDepth 100000 in
theorem lifted (os : Os) (started : os.Started) (H : Type) (enc : TypeId × Value → H) :
    ReturnsInHanded {} Try.checked os 6 .any (Rows.lmapOwnSpec.pre6 enc Try.prog Try.f6 Rows.lmapOwnRow.domain false) (Rows.lmapOwnSpec.post enc Try.prog Try.f6 false true false false) := by
  refine returnsInHanded_of_change (C := Try.checked) own started (by kernel_rfl) Try.func6
    (ChangeSpec.witness6 (enc := enc) (C := Try.checked) false ⟨#[], #[.slice none 0 0], []⟩ 8 (by kernel_rfl) (by kernel_rfl) (by kernel_rfl) (by kernel_rfl)) ?_
  intro W base args ds gs before hval0 hW hcnd _
  have hval : ∀ (j : Nat) t v, Try.f6.params[j]? = some t → args[j]? = some v → Value.okWide Try.prog W .any base t v := hval0
  have hW' := hW
  obtain ⟨p, q, hA0, hV, rfl, hfz, hnd⟩ := hW
  have hA : DataW.TrodAll enc Try.prog W 0 (fun _ => true) true Try.f6.params.toList args.toList ds p := hA0
  rw [Try.params6] at hA hval
  obtain ⟨v0, vs0, d0, ds0, p0, q0, hargs, rfl, rfl, h0, r0⟩ := trodAll_cons hA
  obtain ⟨rfl, rfl, rfl⟩ := trodAll_nil r0
  obtain rfl : args = #[v0] := by cases args; simp_all
  obtain ⟨rfl, rfl⟩ := trodVars_none hV
  obtain ⟨a0, n0, c0, rfl⟩ := okWide_slice Try.underlying22 (hval 0 22 v0 rfl rfl)
  have k0 := h0
  have lt0 : ∀ x ∈ p0, x.block < W.heap.size := by obtain ⟨m, hm⟩ := k0; exact DataW.trod_lt m _ _ _ hm
  obtain ⟨x0, w0⟩ := open_ops h0
  clear hA0 hval0
  refine (walk a0 n0 c0 x0 W w0).mono fun e W' ⟨he, bel⟩ => ?_
  subst he
  exact ⟨_, rfl, _, _, _, [], _, [], hW', trodAll_mk1 (shut_bool Try.underlying4 _), (trodAll_cons_mk (Below.trod laidOut (by kernel_rfl) (of_decide_eq_true (by kernel_rfl)) k0 bel lt0) trodAll_mk0), rfl, bel.frame _, fun h => by cases h⟩

theorem over : Rows.lmapOwnRow.holds Try.pinned (OpenSpec.ofChange Rows.lmapOwnSpec) :=
  OpenClaim.holds_of_wide 6 Try.f6 rfl rfl rfl rfl rfl rfl rfl ⟨rfl, rfl, rfl, rfl, rfl⟩ rfl rfl rfl rfl rfl (by kernel_rfl) Try.func6 (by kernel_rfl)
    (of_decide_eq_true (by kernel_rfl)) (by unfold Func.isWrapper; first | (rw [if_pos (by decide +kernel)]; kernel_rfl) | (rw [if_neg (by decide +kernel)]; exact ⟨rfl, rfl⟩))
    (fun os started H enc _ => lifted os started H enc)

end Go.Proofs.Ytconfkgadmjhhaa.lmapOwn
namespace Go.Proofs.Ytconfkgadmjhhaa
/-- The statement. -/
theorem lmapOwn_holds : Rows.LmapOwnSaid := lmapOwn.over
#print axioms lmapOwn_holds
end Go.Proofs.Ytconfkgadmjhhaa
