/- What one call of the document's own keys and more does: the eight numbers behind one more block, in a row of their own. -/
import Derived.Test.YtpliokkmiijieaaDoorRefWords
namespace Go.Proofs.YtpliokkmiijieaaDoor
open Go.RowKit
set_option linter.unusedVariables false

theorem roundK_length : roundK.length = 64 := by kernel_rfl
theorem refkeys_of (w : World) (k : Nat) (hk : w.heap.size = k) :
    Calls Tryd.prog 63 #[] w fun e w' => e = .returned (.slice (some ⟨k, 0, none⟩) 64 64) ∧ Blk w' k (u32s roundK) 23 ∧ Below k w w' ∧ w'.heap.size = k + 1 := by
  subst hk
  go_enter Tryd.func63, Tryd.ntmps63
  go_wp2
  go_ret
  exact ⟨rfl, Blk.new' rfl (by kernel_rfl), (Below.refl _ _).alloc (Nat.le_refl _) _, by simp⟩

def roundsR (S W : List Int) : Nat → List Int
  | 0 => S
  | t + 1 => match roundsR S W t with
    | [a, b, c, d, e, f, g, h] => [(h + big1 e + chI e f g + roundK.getD t 0 + W.getD t 0 + twoI a b c) % 4294967296, a, b, c, (d + (h + big1 e + chI e f g + roundK.getD t 0 + W.getD t 0)) % 4294967296, e, f, g]
    | _ => []
theorem roundsR_eq {S : List Int} (W : List Int) (n : Nat) (hS : S.length = 8) : roundsR S W n = roundsN S W n := by
  induction n with
  | zero => rfl
  | succ n ih =>
    obtain ⟨a, b, c, d, e, f, g, h, hY⟩ := len8 (roundsN_length W n hS)
    rw [roundsR, ih, roundsN, hY]
    simp only [roundI, oneI]
    congr 1
    · omega
    · congr 4
      omega
/-- Eight numbers that lie in a row. -/
def Row8 (w : World) (g : Nat) (S : List Int) : Prop := S.length = 8 ∧ (∀ z ∈ S, Fits32 z) ∧ (∀ i, i < 8 → w.cell? ⟨g, i, none⟩ = some (.int .u32 (S.getD i 0)))
theorem Row8.below {w w' : World} {g B : Nat} {S : List Int} (h : Row8 w g S) (hb : Below B w w') (hg : g < B) : Row8 w' g S := ⟨h.1, h.2.1, fun i hi => by rw [hb.cell hg]; exact h.2.2 i hi⟩
theorem Row8.lt {w : World} {g : Nat} {S : List Int} (h : Row8 w g S) : g < w.heap.size := old_block (h.2.2 0 (by omega))

theorem more_round {S Ws : List Int} {k : Nat} {y0 y1 y2 y3 y4 y5 y6 y7 x1 x2 : Int} (h1 : x1 = roundK.getD k 0) (h2 : x2 = Ws.getD k 0) (h3 : roundsR S Ws k = [y0, y1, y2, y3, y4, y5, y6, y7]) :
    roundsR S Ws (k + 1) = [((y7 + big1 y4 + chI y4 y5 y6 + x1 + x2) % 4294967296 + (big0 y0 + majI y0 y1 y2) % 4294967296) % 4294967296, y0, y1, y2, (y3 + (y7 + big1 y4 + chI y4 y5 y6 + x1 + x2) % 4294967296) % 4294967296, y4, y5, y6] := by
  rw [roundsR, h3, ← h1, ← h2]
  simp only [twoI, List.cons.injEq, and_true, true_and]
  constructor <;> omega
theorem row_next {w2 wr : World} {g gk j : Nat} {S R : List Int} {v : Int} (hcl : ∀ i, i < 8 → wr.cell? ⟨g, i, none⟩ = some (.int .u32 ((addN S R j).getD i 0))) (hfz : ∀ i, i < 8 → wr.frozen? ⟨g, i, none⟩ = false) (hbl : Below (gk + 1) w2 wr) (hg : gk + 1 ≤ g) (hj : j < 8) (hl : (addN S R j).length = 8)
    (hv : v = ((addN S R j).getD j 0 + S.getD j 0) % 4294967296) :
    (∀ i, i < 8 → (wr.setCell ⟨g, j, none⟩ (.int .u32 v)).drew.cell? ⟨g, i, none⟩ = some (.int .u32 ((addN S R (j + 1)).getD i 0))) ∧ (∀ i, i < 8 → (wr.setCell ⟨g, j, none⟩ (.int .u32 v)).drew.frozen? ⟨g, i, none⟩ = false) ∧ Below (gk + 1) w2 (wr.setCell ⟨g, j, none⟩ (.int .u32 v)).drew := by
  refine ⟨fun i hi => ?_, fun i hi => ?_, (hbl.setCell (by exact hg) _).drew⟩
  · rw [World.cell?_drew]
    by_cases h : i = j
    · subst h
      rw [World.cell?_setCell_same _ _ _ (hcl i hi), hv]
      simp [addN, List.getD, hl, hi]
    · rw [World.cell?_setCell_other _ _ _ _ (by intro e; cases e; exact h rfl), hcl i hi]
      have h' : ¬ j = i := fun e => h e.symm
      simp [addN, List.getD, h']
  · have : (wr.setCell ⟨g, j, none⟩ (.int .u32 v)).frozen? ⟨g, i, none⟩ = wr.frozen? ⟨g, i, none⟩ := by simp
    exact this.trans (hfz i hi)
theorem new_row8 {V : World} {n : Nat} {z0 z1 z2 z3 z4 z5 z6 z7 : Int} {L : List Int} {t : TypeId} (hn : V.heap.size = n) (hL : L = [z0, z1, z2, z3, z4, z5, z6, z7]) :
    (∀ i, i < 8 → (V.alloc (.cells #[.int .u32 z0, .int .u32 z1, .int .u32 z2, .int .u32 z3, .int .u32 z4, .int .u32 z5, .int .u32 z6, .int .u32 z7] t)).cell? ⟨n, i, none⟩ = some (.int .u32 (L.getD i 0))) ∧
    (∀ i, i < 8 → (V.alloc (.cells #[.int .u32 z0, .int .u32 z1, .int .u32 z2, .int .u32 z3, .int .u32 z4, .int .u32 z5, .int .u32 z6, .int .u32 z7] t)).frozen? ⟨n, i, none⟩ = false) := by
  subst hL
  have h : Blk (V.alloc (.cells #[.int .u32 z0, .int .u32 z1, .int .u32 z2, .int .u32 z3, .int .u32 z4, .int .u32 z5, .int .u32 z6, .int .u32 z7] t)) n (u32s [z0, z1, z2, z3, z4, z5, z6, z7]) t := Blk.new' hn rfl
  exact ⟨fun i hi => wordAt h i hi, fun i _ => h.frozen i⟩

set_option maxRecDepth 100000 in
set_option maxHeartbeats 2000000 in
theorem refmore_of (gs cs b off c : Nat) (S B : List Int) (w : World) (hS : Row8 w gs S) (hB : B.length = 64) (hcell : ∀ i, i < 64 → w.cell? ⟨b, off + i, none⟩ = some (.int .u8 (B.getD i 0))) (hcs : 8 ≤ cs) :
    Calls Tryd.prog 57 #[.slice (some ⟨gs, 0, none⟩) 8 cs, .slice (some ⟨b, off, none⟩) 64 c] w fun e w' =>
      ∃ g cg, e = .returned (.slice (some ⟨g, 0, none⟩) 8 cg) ∧ 8 ≤ cg ∧ Row8 w' g (addN S (roundsR S (wordsN B 64) 64) 8) ∧ Below w.heap.size w w' := by
  obtain ⟨q, hq⟩ : ∃ q, q = w.heap.size := ⟨_, rfl⟩
  have H : Hid (Row8 w gs S ∧ B.length = 64 ∧ (∀ i, i < 64 → w.cell? ⟨b, off + i, none⟩ = some (.int .u8 (B.getD i 0))) ∧ q = w.heap.size) := ⟨hS, hB, hcell, hq⟩
  rw [← hq]
  clear hS hB hcell hq
  go_enter Tryd.func57, Tryd.ntmps57
  go_upto_region 2 with (go_at_call 62; refine (refwords_of b off c B w H.out.2.1 H.out.2.2.1).mono ?_; rintro e w1 ⟨vw, rfl, ow1, bl1⟩)
  obtain ⟨gw, cw, rfl, hgw, hcw, hgl, hwl, hwc⟩ := own_at ow1 (by omega)
  obtain ⟨Ws, hWs⟩ : ∃ Ws, Ws = wordsN B 64 := ⟨_, rfl⟩
  have HWs : Hid (Ws = wordsN B 64 ∧ Ws.length = 64) := ⟨hWs, by rw [hWs, wordsN_length]⟩
  rw [← hWs] at ow1 hwl hwc
  clear hWs
  have z1 := bl1.size
  obtain ⟨gk, hgk⟩ : ∃ gk, w1.heap.size = gk := ⟨_, rfl⟩
  go_upto_region 3 with (go_at_call 63; refine (refkeys_of w1 gk hgk).mono ?_; rintro e w2 ⟨rfl, k2, bl2, z2⟩)
  have HW : Hid ((∀ i, i < 64 → w2.cell? ⟨gw, i, none⟩ = some (.int .u32 (Ws.getD i 0))) ∧ (∀ i, i < 64 → w2.cell? ⟨gk, i, none⟩ = some (.int .u32 (roundK.getD i 0))) ∧ Below q w w2 ∧ 64 ≤ cw ∧ gw < gk ∧ q ≤ gk ∧ w2.heap.size = gk + 1) := by
    refine ⟨fun i hi => ?_, fun i hi => wordAt k2 i (by rw [roundK_length]; exact hi), ?_, hcw, by omega, by rw [H.out.2.2.2]; omega, z2⟩
    · rw [bl2.cell (by show gw < gk; omega)]; exact hwc i hi
    · rw [H.out.2.2.2]; exact bl1.trans (bl2.mono (by omega))
  clear ow1 bl1 hgw hcw hgl hwl hwc z1 hgk k2 bl2 z2
  obtain ⟨i0, hi0, hz0, hz1, hz2⟩ := info_parts Tryd.zero_u32
  have HI : Hid (Tryd.prog.info? 23 = some i0 ∧ i0.zero = some (.int .u32 0) ∧ i0.size = 1 ∧ i0.bytes = 4) := ⟨hi0, hz0, hz1, hz2⟩
  clear hi0 hz0 hz1 hz2
  go_upto_region 5 with (refine wpList_append_own w2 rfl (.tmp 15) (.tmp 16) 47 rfl (gk + 1) 23 i0 (.int .u32 0) 1 4 Tryd.underlying47 HI.out.1 HI.out.2.1 HI.out.2.2.1 HI.out.2.2.2 rfl (by decide) (.slice none 0 0) 0 [] rfl (World.ownsRow_nil _ _ _ _) ⟨gs, 0, none⟩ 8 cs (u32s S) rfl (by rw [u32s_length, H.out.1.1]) (fun j u hj => by rw [Addr.add_mid, HW.out.2.2.1.cell (by rw [H.out.2.2.2]; exact H.out.1.lt), Nat.zero_add]; have hjl := (List.getElem?_eq_some_iff.1 hj).1; rw [u32s_length, H.out.1.1] at hjl; rw [H.out.1.2.2 j hjl, ← hj, u32s_at (by rw [H.out.1.1]; exact hjl)]) (u32s_one _) (by unfold maxLen; omega) (by omega) (by rw [HW.out.2.2.2.2.2.2]; exact Nat.le_refl _) ?_; intro v' w3 ow3 gr3 _; simp only [Nat.zero_add, List.nil_append] at ow3)
  obtain ⟨gv, cv, rfl, hgv, hcv, _, _, hvc⟩ := own_at ow3 (by omega)
  have fz3 : ∀ i, i < 8 → w3.frozen? ⟨gv, i, none⟩ = false := by
    intro i hi
    rcases ow3.2 with ⟨h, _⟩ | ⟨g', cap, cur, hv, _, hg, _⟩
    · cases h
    · cases hv; simp [World.frozen?, hg]
  have bl3 : Below (gk + 1) w2 w3 := (Below.refl _ _).grown gr3 (by rw [HW.out.2.2.2.2.2.2]; exact Nat.le_refl _) (fun g hg => by cases hg)
  have HV : Hid (gk + 1 ≤ gv ∧ 8 ≤ cv ∧ (∀ i, i < 8 → w3.cell? ⟨gv, i, none⟩ = some (.int .u32 (S.getD i 0))) ∧ (∀ i, i < 8 → w3.frozen? ⟨gv, i, none⟩ = false) ∧ Below (gk + 1) w2 w3) := ⟨hgv, hcv, hvc, fz3, bl3⟩
  clear ow3 gr3 hgv hcv hvc fz3 bl3
  go_wp2
  go_loopw [7, 8] (fun v t wr => ∃ k g cg : Nat, k ≤ 64 ∧ t = .int .i64 k ∧ v = .slice (some ⟨g, 0, none⟩) 8 cg ∧ 8 ≤ cg ∧ gk + 1 ≤ g ∧ (∀ i, i < 8 → wr.cell? ⟨g, i, none⟩ = some (.int .u32 ((roundsR S Ws k).getD i 0))) ∧ (∀ i, i < 8 → wr.frozen? ⟨g, i, none⟩ = false) ∧ Below (gk + 1) w2 wr)
    (fun _ t _ => 64 - (intOf t).toNat)
  case atStart => exact ⟨0, gv, cv, by omega, rfl, rfl, HV.out.2.1, HV.out.1, HV.out.2.2.1, HV.out.2.2.2.1, HV.out.2.2.2.2⟩
  case round =>
    obtain ⟨k, g, cg, hk, rfl, rfl, hcg, hg, hcl, hfz, hbl⟩ := hrel
    have hR8 : (roundsR S Ws k).length = 8 := by rw [roundsR_eq _ _ H.out.1.1]; exact roundsN_length _ _ H.out.1.1
    have hRf : ∀ z ∈ roundsR S Ws k, Fits32 z := by rw [roundsR_eq _ _ H.out.1.1]; exact roundsN_fits _ _ H.out.1.1 H.out.1.2.1
    have HI : Hid (8 ≤ cg ∧ gk + 1 ≤ g ∧ (∀ i, i < 8 → wr.cell? ⟨g, i, none⟩ = some (.int .u32 ((roundsR S Ws k).getD i 0))) ∧ (∀ i, i < 8 → wr.frozen? ⟨g, i, none⟩ = false) ∧ Below (gk + 1) w2 wr ∧ (roundsR S Ws k).length = 8 ∧ ∀ z ∈ roundsR S Ws k, Fits32 z) := ⟨hcg, hg, hcl, hfz, hbl, hR8, hRf⟩
    clear hcg hg hcl hfz hbl hR8 hRf
    by_cases hlt : k < 64
    · have hlt' : (k : Int) < 64 := by omega
      obtain ⟨y0, y1, y2, y3, y4, y5, y6, y7, hY⟩ := len8 HI.out.2.2.2.2.2.1
      have c0 := HI.out.2.2.1 0 (by omega)
      have c1 := HI.out.2.2.1 1 (by omega)
      have c2 := HI.out.2.2.1 2 (by omega)
      have c3 := HI.out.2.2.1 3 (by omega)
      have c4 := HI.out.2.2.1 4 (by omega)
      have c5 := HI.out.2.2.1 5 (by omega)
      have c6 := HI.out.2.2.1 6 (by omega)
      have c7 := HI.out.2.2.1 7 (by omega)
      have hF := HI.out.2.2.2.2.2.2
      rw [hY] at c0 c1 c2 c3 c4 c5 c6 c7 hF
      have F0 : Fits32 y0 := hF y0 (by simp)
      have F4 : Fits32 y4 := hF y4 (by simp)
      replace c0 : wr.cell? ⟨g, 0, none⟩ = some (.int .u32 y0) := c0
      replace c1 : wr.cell? ⟨g, 1, none⟩ = some (.int .u32 y1) := c1
      replace c2 : wr.cell? ⟨g, 2, none⟩ = some (.int .u32 y2) := c2
      replace c3 : wr.cell? ⟨g, 3, none⟩ = some (.int .u32 y3) := c3
      replace c4 : wr.cell? ⟨g, 4, none⟩ = some (.int .u32 y4) := c4
      replace c5 : wr.cell? ⟨g, 5, none⟩ = some (.int .u32 y5) := c5
      replace c6 : wr.cell? ⟨g, 6, none⟩ = some (.int .u32 y6) := c6
      replace c7 : wr.cell? ⟨g, 7, none⟩ = some (.int .u32 y7) := c7
      have cw1 : wr.cell? ⟨gw, k, none⟩ = some (.int .u32 (Ws.getD k 0)) := by rw [HI.out.2.2.2.2.1.cell (by have := HW.out.2.2.2.2.1; show gw < gk + 1; omega)]; exact HW.out.1 k hlt
      have ck1 : wr.cell? ⟨gk, k, none⟩ = some (.int .u32 (roundK.getD k 0)) := by rw [HI.out.2.2.2.2.1.cell (by show gk < gk + 1; omega)]; exact HW.out.2.1 k hlt
      obtain ⟨x1, e1⟩ : ∃ p, p = roundK.getD k 0 := ⟨_, rfl⟩
      obtain ⟨x2, e2⟩ : ∃ p, p = Ws.getD k 0 := ⟨_, rfl⟩
      rw [← e1] at ck1; rw [← e2] at cw1
      have E : Hid (x1 = roundK.getD k 0 ∧ x2 = Ws.getD k 0 ∧ roundsR S Ws k = [y0, y1, y2, y3, y4, y5, y6, y7]) := ⟨e1, e2, hY⟩
      clear e1 e2 hY hF
      have hsg : IntKind.u32.signed = false := rfl
      go_wp2
      go_quiet ((go_at_call 64; exact Calls.quiet_of_same (refror_of _ _ _ (by decide) (by assumption))))
      go_wp2
      obtain ⟨U, hU⟩ : ∃ U, U = wr.drewN nq := ⟨_, rfl⟩
      rw [← hU]
      replace c0 : U.cell? ⟨g, 0, none⟩ = some (.int .u32 y0) := by rw [hU]; exact c0
      replace c1 : U.cell? ⟨g, 1, none⟩ = some (.int .u32 y1) := by rw [hU]; exact c1
      replace c2 : U.cell? ⟨g, 2, none⟩ = some (.int .u32 y2) := by rw [hU]; exact c2
      replace c3 : U.cell? ⟨g, 3, none⟩ = some (.int .u32 y3) := by rw [hU]; exact c3
      replace c4 : U.cell? ⟨g, 4, none⟩ = some (.int .u32 y4) := by rw [hU]; exact c4
      replace c5 : U.cell? ⟨g, 5, none⟩ = some (.int .u32 y5) := by rw [hU]; exact c5
      replace c6 : U.cell? ⟨g, 6, none⟩ = some (.int .u32 y6) := by rw [hU]; exact c6
      replace c7 : U.cell? ⟨g, 7, none⟩ = some (.int .u32 y7) := by rw [hU]; exact c7
      have HU : Hid (U = wr.drewN nq) := hU
      clear hU cw1 ck1
      go_quiet ((go_at_call 64; exact Calls.quiet_of_same (refror_of _ _ _ (by decide) (by assumption))))
      go_wp2
      go_region_held3 (fun w' => w'.cell? ⟨g, 0, none⟩ = some (.int .u32 y0) ∧ w'.cell? ⟨g, 1, none⟩ = some (.int .u32 y1) ∧ w'.cell? ⟨g, 2, none⟩ = some (.int .u32 y2) ∧ w'.cell? ⟨g, 3, none⟩ = some (.int .u32 y3) ∧ w'.cell? ⟨g, 4, none⟩ = some (.int .u32 y4) ∧ w'.cell? ⟨g, 5, none⟩ = some (.int .u32 y5) ∧ w'.cell? ⟨g, 6, none⟩ = some (.int .u32 y6))
        ((go_split_ands; (try simp only [World.cell?_drew, World.cell?_drewN]); (repeat' apply And.intro) <;> first | assumption | exact cell_alloc (by assumption) _)) (fail)
      go_wp2
      go_roundw
      case rel =>
        have e := more_round E.out.1 E.out.2.1 E.out.2.2
        have hz : gk + 1 ≤ wr.heap.size := by have h1 := HI.out.2.2.2.2.1.size; have h2 := HW.out.2.2.2.2.2.2; omega
        have hUz : U.heap.size = wr.heap.size := by rw [HU.out]; rfl
        refine ⟨k + 1, U.heap.size, 8, by omega, by go_num, rfl, by omega, by omega, (new_row8 rfl e).1, (new_row8 rfl e).2, ?_⟩
        have hb : Below (gk + 1) w2 U := by rw [HU.out]; exact below_drewN HI.out.2.2.2.2.1 _
        exact (below_drewN hb _).alloc (by show gk + 1 ≤ U.heap.size; omega) _
      case measure => simp [intOf]; omega
    · obtain ⟨R, hR⟩ : ∃ R, R = roundsR S Ws k := ⟨_, rfl⟩
      have HR : Hid (R = roundsR S (wordsN B 64) 64 ∧ R.length = 8 ∧ ∀ z ∈ R, Fits32 z) := by
        refine ⟨?_, by rw [hR]; exact HI.out.2.2.2.2.2.1, by rw [hR]; exact HI.out.2.2.2.2.2.2⟩
        rw [hR, show k = 64 by omega, HWs.out.1]
      have HJ : Hid (8 ≤ cg ∧ gk + 1 ≤ g ∧ (∀ i, i < 8 → wr.cell? ⟨g, i, none⟩ = some (.int .u32 (R.getD i 0))) ∧ (∀ i, i < 8 → wr.frozen? ⟨g, i, none⟩ = false) ∧ Below (gk + 1) w2 wr) := by
        rw [hR]; exact ⟨HI.out.1, HI.out.2.1, HI.out.2.2.1, HI.out.2.2.2.1, HI.out.2.2.2.2.1⟩
      have hge : (64 : Int) ≤ k := by omega
      clear hR HI HV
      go_wp2
      go_loopw [11] (fun i wr => ∃ j : Nat, j ≤ 8 ∧ i = .int .i64 j ∧ (∀ i, i < 8 → wr.cell? ⟨g, i, none⟩ = some (.int .u32 ((addN S R j).getD i 0))) ∧ (∀ i, i < 8 → wr.frozen? ⟨g, i, none⟩ = false) ∧ Below (gk + 1) w2 wr)
        (fun i _ => 8 - (intOf i).toNat)
      case atStart => exact ⟨0, by omega, rfl, HJ.out.2.2.1, HJ.out.2.2.2.1, HJ.out.2.2.2.2⟩
      case round =>
        obtain ⟨j, hj, rfl, hcl, hfz, hbl⟩ := hrel
        have hlen : (addN S R j).length = 8 := by rw [addN_length]; exact HR.out.2.1
        have HI : Hid ((∀ i, i < 8 → wr.cell? ⟨g, i, none⟩ = some (.int .u32 ((addN S R j).getD i 0))) ∧ (∀ i, i < 8 → wr.frozen? ⟨g, i, none⟩ = false) ∧ Below (gk + 1) w2 wr ∧ (addN S R j).length = 8) := ⟨hcl, hfz, hbl, hlen⟩
        clear hcl hfz hbl hlen
        by_cases hjt : j < 8
        · have hjt' : (j : Int) < 8 := by omega
          have cA := HI.out.1 j hjt
          have fA := HI.out.2.1 j hjt
          have cS : wr.cell? ⟨gs, j, none⟩ = some (.int .u32 (S.getD j 0)) := by
            have hgs : gs < q := by rw [H.out.2.2.2]; exact H.out.1.lt
            rw [HI.out.2.2.1.cell (by have := HW.out.2.2.2.2.2.1; show gs < gk + 1; omega), HW.out.2.2.1.cell (by exact hgs)]
            exact H.out.1.2.2 j hjt
          obtain ⟨x1, e1⟩ : ∃ p, p = S.getD j 0 := ⟨_, rfl⟩
          obtain ⟨x2, e2⟩ : ∃ p, p = (addN S R j).getD j 0 := ⟨_, rfl⟩
          rw [← e1] at cS; rw [← e2] at cA
          have E : Hid (x1 = S.getD j 0 ∧ x2 = (addN S R j).getD j 0) := ⟨e1, e2⟩
          clear e1 e2
          go_wp2
          go_region
          all_goals go_wp2
          go_roundw
          case rel =>
            refine ⟨j + 1, by omega, by go_num, ?_⟩
            have h := row_next HI.out.1 HI.out.2.1 HI.out.2.2.1 HJ.out.2.1 hjt HI.out.2.2.2 (show (x2 + x1) % 4294967296 = ((addN S R j).getD j 0 + S.getD j 0) % 4294967296 by rw [E.out.1, E.out.2])
            exact h
          case measure => simp [intOf]; omega
        · have hge8 : (8 : Int) ≤ j := by omega
          have HF : Hid (Row8 wr g (addN S (roundsR S (wordsN B 64) 64) 8) ∧ Below q w wr) := by
            have hj8 : j = 8 := by omega
            have h := HI.out
            rw [hj8] at h
            refine ⟨?_, HW.out.2.2.1.trans (h.2.2.1.mono (by have := HW.out.2.2.2.2.2.1; omega))⟩
            rw [← HR.out.1]
            exact ⟨h.2.2.2, addN_fits 8 HR.out.2.2, h.1⟩
          go_wp2
          go_ret
          exact ⟨g, cg, rfl, HJ.out.1, HF.out.1, HF.out.2⟩
end Go.Proofs.YtpliokkmiijieaaDoor
