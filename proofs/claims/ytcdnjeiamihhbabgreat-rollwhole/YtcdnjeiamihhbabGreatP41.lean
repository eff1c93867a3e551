/- P41 -/
import Derived.Test.YtcdnjeiamihhbabGreatP36
set_option linter.unusedVariables false
set_option maxRecDepth 4000
namespace Go.Proofs.YtcdnjeiamihhbabGreat
open Go.RowKit
/-- What a law makes of one that is to be put: of so many bytes, unless it is odd. -/
def blkP (S : Nat) (p : Pt) : Pt := if p.x = true ∨ p.d.length % 7 = 6 then p else { p with d := blockB S p.d }
theorem blk_bin {w : World} {g n : Nat} {F : List Int} (h : Blk w g (u8s F) 5) (hn : F.length = n) (hf : ∀ z ∈ F, Fits8 z) (hm : n ≤ maxLen) : BIn w (some ⟨g, 0, none⟩) n F := by
 refine ⟨hn, hm, hf, .inr ⟨g, 0, rfl, fun i hi => ?_⟩⟩
 rw [Nat.zero_add, h.cell]
 simp [u8s, List.getD, show i < F.length by omega]
theorem Tryz.info_put : (Tryz.prog.info? 61).map (·.size) = some 4 := by kernel_rfl
set_option maxHeartbeats 4000000 in
theorem sblock_of (S : Nat) (p : Pt) (A : Option Addr) (L C : Nat) (W : World) (hb : BIn W A L p.d) (hS : S ≤ 10000) (hL : L ≤ 10000) : Calls Tryz.prog 35 #[.int .i64 (S : Nat), .agg #[.int .u32 p.t, .int .u64 p.b, .bool p.x, .slice A L C]] W fun e w' => ∃ A' L' C', e = .returned (.agg #[.int .u32 p.t, .int .u64 p.b, .bool p.x, .slice A' L' C']) ∧ BIn w' A' L' (blkP S p).d ∧ (A' = A ∧ L' = L ∧ C' = C ∨ ∃ q, A' = some ⟨q, 0, none⟩ ∧ W.heap.size ≤ q ∧ q < w'.heap.size ∧ L' = S ∧ C' = S) ∧ Below W.heap.size W w' := by
 by_cases hc : p.x = true ∨ p.d.length % 7 = 6
 ·have hp : blkP S p = p := by unfold blkP; rw [if_pos hc]
  rw [hp]
  have hLl : p.d.length = L := hb.1
  have HB : Hid (∀ X, Below W.heap.size W X → BIn X A L p.d) := fun X hX => hb.below hX
  have HW : Hid (∀ X, X = (W.alloc (.cells #[.int .u32 p.t, .int .u64 p.b, .bool p.x, .slice A L C] 61)).alloc (.cells #[.int .u32 p.t, .int .u64 p.b, .bool p.x, .slice A L C] 61) → Blk X (W.heap.size + 1) [.int .u32 p.t, .int .u64 p.b, .bool p.x, .slice A L C] 61 ∧ Below W.heap.size W X) := by
   rintro X rfl
   exact ⟨Blk.new' (by simp) rfl, ((Below.refl _ _).alloc (Nat.le_refl _) _).alloc (by simp) _⟩
  have fin : Hid (∀ X, Below W.heap.size W X → ∃ A' L' C', Ending.returned (.agg #[.int .u32 p.t, .int .u64 p.b, .bool p.x, .slice A L C]) = .returned (.agg #[.int .u32 p.t, .int .u64 p.b, .bool p.x, .slice A' L' C']) ∧ BIn X A' L' p.d ∧ (A' = A ∧ L' = L ∧ C' = C ∨ ∃ q, A' = some ⟨q, 0, none⟩ ∧ W.heap.size ≤ q ∧ q < X.heap.size ∧ L' = S ∧ C' = S) ∧ Below W.heap.size W X) := fun X hX => ⟨A, L, C, rfl, HB.out X hX, .inl ⟨rfl, rfl, rfl⟩, hX⟩
  clear hb
  cases hx : p.x with
  | true =>
   rw [hx] at HW fin
   clear hc hp
   go_enter Tryz.func35, Tryz.ntmps35
   go_wp2_with fail
   exact bodyPost_ret (results_cell_one (p := 4) (ty := 61) rfl _ _ _ _ _ _ rfl (HW.out _ rfl).1 Tryz.underlying61 rfl Tryz.info_put) rfl (fin.out _ (HW.out _ rfl).2)
  | false =>
   rw [hx] at HW fin
   have h6 : (L : Int) % 7 = 6 := by rcases hc with h | h; rw [hx] at h; cases h; omega
   have h6' : Int.tmod (L : Int) 7 = 6 := by rw [Int.tmod_eq_emod_of_nonneg (by omega)]; exact h6
   clear hc hp
   go_enter Tryz.func35, Tryz.ntmps35
   go_wp2_with fail
   exact bodyPost_ret (results_cell_one (p := 4) (ty := 61) rfl _ _ _ _ _ _ rfl (HW.out _ rfl).1 Tryz.underlying61 rfl Tryz.info_put) rfl (fin.out _ (HW.out _ rfl).2)
 ·have hp : (blkP S p).d = blockB S p.d := by unfold blkP; rw [if_neg hc]
  rw [hp]
  have hLl : p.d.length = L := hb.1
  have hx : p.x = false := by cases h : p.x; rfl; exact (hc (.inl h)).elim
  have h6 : (L : Int) % 7 ≠ 6 := fun e => hc (.inr (by omega))
  have h6' : Int.tmod (L : Int) 7 ≠ 6 := by rw [Int.tmod_eq_emod_of_nonneg (by omega)]; exact h6
  have h6b : (Int.tmod (L : Int) 7 == 6) = false := by simp [h6']
  have h6c : ((L : Int) % 7 == 6) = false := by simp [h6]
  generalize hF : p.d = F at hb hLl
  have hmk := run_make_row' (P := Tryz.prog) 51 5 (.int .u8 0) 1 Tryz.underlying51 Tryz.zero_u8 rfl .i64 .i64 S (by omega) (by omega)
  obtain ⟨q, hq⟩ : ∃ q, q = W.heap.size := ⟨_, rfl⟩
  have HW : Hid (∀ X, X = ((W.alloc (.cells #[.int .u32 p.t, .int .u64 p.b, .bool false, .slice A L C] 61)).alloc (.cells #[.int .u32 0, .int .u64 0, .bool false, .slice none 0 0] 61)).alloc (.cells (madeCells #[.int .u8 0] S) 5) → Blk X q [.int .u32 p.t, .int .u64 p.b, .bool false, .slice A L C] 61 ∧ Blk X (q + 1) [.int .u32 0, .int .u64 0, .bool false, .slice none 0 0] 61 ∧ Blk X (q + 1 + 1) (u8s (blockTo S F 0)) 5 ∧ Below W.heap.size W X) := by
   rintro X rfl
   have e1 : (W.alloc (.cells #[.int .u32 p.t, .int .u64 p.b, .bool false, .slice A L C] 61)).heap.size = q + 1 := by simp [hq]
   have e2 : ((W.alloc (.cells #[.int .u32 p.t, .int .u64 p.b, .bool false, .slice A L C] 61)).alloc (.cells #[.int .u32 0, .int .u64 0, .bool false, .slice none 0 0] 61)).heap.size = q + 1 + 1 := by simp [hq]
   have b3 := made_bytes S ((W.alloc (.cells #[.int .u32 p.t, .int .u64 p.b, .bool false, .slice A L C] 61)).alloc (.cells #[.int .u32 0, .int .u64 0, .bool false, .slice none 0 0] 61))
   rw [e2] at b3
   exact ⟨((Blk.new' hq.symm rfl).alloc _).alloc _, (Blk.new' e1 rfl).alloc _, by simpa [blockTo] using b3, (((Below.refl _ _).alloc (Nat.le_refl _) _).alloc (by simp) _).alloc (by simp; omega) _⟩
  have H : Hid (BIn W A L F ∧ q = W.heap.size ∧ F.length = L) := ⟨hb, hq, hLl⟩
  rw [hx]
  clear hc hb hp hx hF
  go_enter Tryz.func35, Tryz.ntmps35
  go_wp2_with fail
  rw [← hq]
  generalize hX : World.alloc (World.alloc (World.alloc W _) _) _ = X
  have H0 := HW.out X hX.symm
  have HX : Hid (Blk X q [.int .u32 p.t, .int .u64 p.b, .bool false, .slice A L C] 61 ∧ Blk X (q + 1) [.int .u32 0, .int .u64 0, .bool false, .slice none 0 0] 61 ∧ Blk X (q + 1 + 1) (u8s (blockTo S F 0)) 5 ∧ Below W.heap.size W X) := H0
  clear hX HW H0 hq hmk
  go_loopw [6] (fun x wr => ∃ j : Nat, x = .int .i64 j ∧ j ≤ S ∧ j ≤ L ∧ Blk wr q [.int .u32 p.t, .int .u64 p.b, .bool false, .slice A L C] 61 ∧ Blk wr (q + 1) [.int .u32 0, .int .u64 0, .bool false, .slice none 0 0] 61 ∧ Blk wr (q + 1 + 1) (u8s (blockTo S F j)) 5 ∧ Below W.heap.size W wr) (fun x wr => S - (intOf x).toNat)
  case atStart => exact ⟨0, rfl, Nat.zero_le _, Nat.zero_le _, HX.out⟩
  case round =>
   obtain ⟨j, rfl, hj, hjn, hbp, hbr, hbk, hbl⟩ := hrel
   have x3 : wr.cell? ⟨q, 3, none⟩ = some (.slice A L C) := hbp.cell 3
   by_cases h12 : j < S ∧ j < L
   ·obtain ⟨h1, h2⟩ := h12
    obtain ⟨x, hx⟩ : ∃ x, F[j]? = some x := ⟨F[j]'(by rw [H.out.2.2]; exact h2), by simp⟩
    have hin := H.out.1.below hbl
    obtain ⟨b, off, rfl, hc⟩ := hin.2.2.2.resolve_left (by omega)
    have cx := hc j h2
    have ex : F.getD j 0 = x := by simp [List.getD, hx]
    rw [ex] at cx
    have h1' : (j : Int) < S := by omega
    have h2' : (j : Int) < L := by omega
    have hw : IntKind.i64.wrap ((j : Int) + 1) = (j : Int) + 1 := by rw [IntKind.wrap_i64]; omega
    have cq : (wr.cell? ⟨q + 1 + 1, j, none⟩) = some (.int .u8 ((blockTo S F j).getD j 0)) := by
     rw [hbk.cell]
     have : j < (blockTo S F j).length := by rw [blockTo_length (by omega) (by rw [H.out.2.2]; omega)]; exact h1
     simp [u8s, List.getD, this]
    have fq := hbk.frozen j
    have hqW := H.out.2.1
    have n1 : q ≠ q + 1 + 1 := by omega
    have n2 : q + 1 ≠ q + 1 + 1 := by omega
    have HN : Hid (Blk (wr.setCell ⟨q + 1 + 1, j, none⟩ (.int .u8 x)) q [.int .u32 p.t, .int .u64 p.b, .bool false, .slice (some ⟨b, off, none⟩) L C] 61 ∧ Blk (wr.setCell ⟨q + 1 + 1, j, none⟩ (.int .u8 x)) (q + 1) [.int .u32 0, .int .u64 0, .bool false, .slice none 0 0] 61 ∧ Blk (wr.setCell ⟨q + 1 + 1, j, none⟩ (.int .u8 x)) (q + 1 + 1) (u8s (blockTo S F (j + 1))) 5 ∧ Below W.heap.size W (wr.setCell ⟨q + 1 + 1, j, none⟩ (.int .u8 x))) := by
     refine ⟨hbp.set_other n1 _, hbr.set_other n2 _, ?_, hbl.setCell (p := ⟨q + 1 + 1, j, none⟩) (by show W.heap.size ≤ q + 1 + 1; omega) _⟩
     have := hbk.set j (.int .u8 x)
     rw [← blockTo_next h1 hx]
     simpa [u8s, List.map_set] using this
    generalize (blockTo S F j).getD j 0 = y at cq
    clear hbk hbl hin hc ex hbp hbr hqW n1 n2
    go_wp2
    all_goals (
     go_roundw
     case rel => exact ⟨j + 1, by simp, by omega, by omega, HN.out⟩
     case measure => simp [intOf]; omega)
   ·have e := blockTo_all (S := S) (F := F) hj (by rw [H.out.2.2]; exact hjn) (by rw [H.out.2.2]; omega)
    rw [e] at hbk
    have HN : Hid (Blk wr q [.int .u32 p.t, .int .u64 p.b, .bool false, .slice A L C] 61 ∧ Blk wr (q + 1) [.int .u32 0, .int .u64 0, .bool false, .slice none 0 0] 61 ∧ Blk wr (q + 1 + 1) (u8s (blockB S F)) 5 ∧ Below W.heap.size W wr) := ⟨hbp, hbr, hbk, hbl⟩
    have y0 := hbp.cell 0
    have y1 := hbp.cell 1
    have y2 := hbp.cell 2
    have f0 := hbp.frozen 3
    have z0 := hbr.cell 0
    have z1 := hbr.cell 1
    have z2 := hbr.cell 2
    have z3 := hbr.cell 3
    have g0 := hbr.frozen 0
    have g1 := hbr.frozen 1
    have g2 := hbr.frozen 2
    have g3 := hbr.frozen 3
    have n1 : q ≠ q + 1 := by omega
    have n2 : q + 1 ≠ q := by omega
    simp only [List.getElem?_cons_zero, List.getElem?_cons_succ] at y0 y1 y2 z0 z1 z2 z3
    have hk : S ≤ j ∨ (j < S ∧ L ≤ j) := by omega
    clear hbp hbr hbk hbl e h12
    rcases hk with hk | ⟨hk1, hk2⟩
    ·have hk' : ¬ (j : Int) < S := by omega
     go_wp2
     have hfin := ((((HN.out.2.1.set_other (a := ⟨q, 3, none⟩) n2 (.slice (some ⟨q + 1 + 1, 0, none⟩) S S)).set 0 (.int .u32 p.t)).set 1 (.int .u64 p.b)).set 2 (.bool false)).set 3 (.slice (some ⟨q + 1 + 1, 0, none⟩) S S)
     have hqW := H.out.2.1
     have hbl : Below W.heap.size W (((((wr.setCell ⟨q, 3, none⟩ (.slice (some ⟨q + 1 + 1, 0, none⟩) S S)).setCell ⟨q + 1, 0, none⟩ (.int .u32 p.t)).setCell ⟨q + 1, 1, none⟩ (.int .u64 p.b)).setCell ⟨q + 1, 2, none⟩ (.bool false)).setCell ⟨q + 1, 3, none⟩ (.slice (some ⟨q + 1 + 1, 0, none⟩) S S)) := by
      repeat refine Below.setCell ?_ (by simp; omega) _
      exact HN.out.2.2.2
     have hbk := (((((HN.out.2.2.1.set_other (a := ⟨q, 3, none⟩) (by show q + 1 + 1 ≠ q; omega) (.slice (some ⟨q + 1 + 1, 0, none⟩) S S)).set_other (a := ⟨q + 1, 0, none⟩) (by show q + 1 + 1 ≠ q + 1; omega) (.int .u32 p.t)).set_other (a := ⟨q + 1, 1, none⟩) (by show q + 1 + 1 ≠ q + 1; omega) (.int .u64 p.b)).set_other (a := ⟨q + 1, 2, none⟩) (by show q + 1 + 1 ≠ q + 1; omega) (.bool false)).set_other (a := ⟨q + 1, 3, none⟩) (by show q + 1 + 1 ≠ q + 1; omega) (.slice (some ⟨q + 1 + 1, 0, none⟩) S S))
     have hbin : BIn (((((wr.setCell ⟨q, 3, none⟩ (.slice (some ⟨q + 1 + 1, 0, none⟩) S S)).setCell ⟨q + 1, 0, none⟩ (.int .u32 p.t)).setCell ⟨q + 1, 1, none⟩ (.int .u64 p.b)).setCell ⟨q + 1, 2, none⟩ (.bool false)).setCell ⟨q + 1, 3, none⟩ (.slice (some ⟨q + 1 + 1, 0, none⟩) S S)) (some ⟨q + 1 + 1, 0, none⟩) S (blockB S F) := blk_bin hbk (blockB_length S F) (blockB_fits H.out.1.2.2.1) (by unfold maxLen; omega)
     exact bodyPost_ret (results_cell_one (p := 4) (ty := 61) rfl _ _ _ _ _ _ rfl hfin Tryz.underlying61 rfl Tryz.info_put) rfl ⟨_, _, _, rfl, hbin, .inr ⟨_, rfl, by omega, hbk.lt, rfl, rfl⟩, hbl⟩
    ·have hk' : (j : Int) < S := by omega
     have hk2' : ¬ (j : Int) < L := by omega
     go_wp2
     have hfin := ((((HN.out.2.1.set_other (a := ⟨q, 3, none⟩) n2 (.slice (some ⟨q + 1 + 1, 0, none⟩) S S)).set 0 (.int .u32 p.t)).set 1 (.int .u64 p.b)).set 2 (.bool false)).set 3 (.slice (some ⟨q + 1 + 1, 0, none⟩) S S)
     have hqW := H.out.2.1
     have hbl : Below W.heap.size W (((((wr.setCell ⟨q, 3, none⟩ (.slice (some ⟨q + 1 + 1, 0, none⟩) S S)).setCell ⟨q + 1, 0, none⟩ (.int .u32 p.t)).setCell ⟨q + 1, 1, none⟩ (.int .u64 p.b)).setCell ⟨q + 1, 2, none⟩ (.bool false)).setCell ⟨q + 1, 3, none⟩ (.slice (some ⟨q + 1 + 1, 0, none⟩) S S)) := by
      repeat refine Below.setCell ?_ (by simp; omega) _
      exact HN.out.2.2.2
     have hbk := (((((HN.out.2.2.1.set_other (a := ⟨q, 3, none⟩) (by show q + 1 + 1 ≠ q; omega) (.slice (some ⟨q + 1 + 1, 0, none⟩) S S)).set_other (a := ⟨q + 1, 0, none⟩) (by show q + 1 + 1 ≠ q + 1; omega) (.int .u32 p.t)).set_other (a := ⟨q + 1, 1, none⟩) (by show q + 1 + 1 ≠ q + 1; omega) (.int .u64 p.b)).set_other (a := ⟨q + 1, 2, none⟩) (by show q + 1 + 1 ≠ q + 1; omega) (.bool false)).set_other (a := ⟨q + 1, 3, none⟩) (by show q + 1 + 1 ≠ q + 1; omega) (.slice (some ⟨q + 1 + 1, 0, none⟩) S S))
     have hbin : BIn (((((wr.setCell ⟨q, 3, none⟩ (.slice (some ⟨q + 1 + 1, 0, none⟩) S S)).setCell ⟨q + 1, 0, none⟩ (.int .u32 p.t)).setCell ⟨q + 1, 1, none⟩ (.int .u64 p.b)).setCell ⟨q + 1, 2, none⟩ (.bool false)).setCell ⟨q + 1, 3, none⟩ (.slice (some ⟨q + 1 + 1, 0, none⟩) S S)) (some ⟨q + 1 + 1, 0, none⟩) S (blockB S F) := blk_bin hbk (blockB_length S F) (blockB_fits H.out.1.2.2.1) (by unfold maxLen; omega)
     exact bodyPost_ret (results_cell_one (p := 4) (ty := 61) rfl _ _ _ _ _ _ rfl hfin Tryz.underlying61 rfl Tryz.info_put) rfl ⟨_, _, _, rfl, hbin, .inr ⟨_, rfl, by omega, hbk.lt, rfl, rfl⟩, hbl⟩
section
/-- The data of one, all in X. -/
def PtD (X : Nat → Prop) (w : World) (p : Pt) (v : Value) : Prop := ∃ A L C, v = .slice A L C ∧ BIn w A L p.d ∧ (A = none → L = 0 ∧ C = 0) ∧ L ≤ 10000 ∧ (L ≠ 0 → ∀ y, A.map (·.block) = some y → X y) ∧ p.Fits
def PsD (X : Nat → Prop) (w : World) (l : List Pt) (vs : List Value) : Prop := vs.length = l.length ∧ ∀ (i : Nat) (p : Pt) (v : Value), l[i]? = some p → vs[i]? = some v → PtD X w p v
def ptsC : List Pt → List Value → List Value
 | p :: l, v :: vs => ptL p v ++ ptsC l vs
 | _, _ => []
theorem ptsC_snoc : ∀ (l : List Pt) (vs : List Value) (p : Pt) (v : Value), vs.length = l.length → ptsC l vs ++ ptL p v = ptsC (l ++ [p]) (vs ++ [v])
 | [], [], p, v, _ => by simp [ptsC]
 | [], _ :: _, _, _, h => by simp at h
 | _ :: _, [], _, _, h => by simp at h
 | q :: l, u :: vs, p, v, h => by
  have := ptsC_snoc l vs p v (by simpa using h)
  simp [ptsC, ← this]
theorem ptsC_get : ∀ (l : List Pt) (vs : List Value) (i : Nat) (p : Pt) (v : Value) (j : Nat), l[i]? = some p → vs[i]? = some v → j < 4 → (ptsC l vs)[i * 4 + j]? = (ptL p v)[j]?
 | [], _, i, p, v, j, h, _, _ => by simp at h
 | _ :: _, [], i, p, v, j, _, h, _ => by simp at h
 | q :: l, u :: vs, 0, p, v, j, h1, h2, hj => by
  simp at h1 h2; subst h1; subst h2
  simp only [ptsC, Nat.zero_mul, Nat.zero_add]
  rw [List.getElem?_append_left (by simp [ptL]; omega)]
 | q :: l, u :: vs, i + 1, p, v, j, h1, h2, hj => by
  have := ptsC_get l vs i p v j (by simpa using h1) (by simpa using h2) hj
  simp only [ptsC]
  rw [List.getElem?_append_right (by simp [ptL]; omega)]
  rw [show (i + 1) * 4 + j - (ptL q u).length = i * 4 + j by simp [ptL]; omega]
  exact this
section
variable {X Y O : Nat → Prop} {w w' : World} {l : List Pt} {vs : List Value}
theorem PtD.out {p : Pt} {v : Value} (h : PtD X w p v) (ho : Out O w w') (hO : ∀ x, X x → ¬ O x) : PtD X w' p v := by
 obtain ⟨A, L, C, h1, h2, h3, h4, h5, h6⟩ := h
 exact ⟨A, L, C, h1, h2.out ho (fun hn y hy => hO y (h5 hn y hy)), h3, h4, h5, h6⟩
theorem PtD.wider {p : Pt} {v : Value} (h : PtD X w p v) (hY : ∀ x, X x → Y x) : PtD Y w p v := by
 obtain ⟨A, L, C, h1, h2, h3, h4, h5, h6⟩ := h
 exact ⟨A, L, C, h1, h2, h3, h4, fun hn y hy => hY y (h5 hn y hy), h6⟩
theorem PsD.out (h : PsD X w l vs) (ho : Out O w w') (hO : ∀ x, X x → ¬ O x) : PsD X w' l vs := ⟨h.1, fun i p v h1 h2 => (h.2 i p v h1 h2).out ho hO⟩
theorem PsD.below (h : PsD X w l vs) (hb : Below w.heap.size w w') : PsD X w' l vs := h.out (below_out Non hb) (fun _ _ e => e)
theorem PsD.wider (h : PsD X w l vs) (hY : ∀ x, X x → Y x) : PsD Y w l vs := ⟨h.1, fun i p v h1 h2 => (h.2 i p v h1 h2).wider hY⟩
theorem PsD.nil : PsD X w [] [] := ⟨rfl, fun i p v h => by simp at h⟩
theorem PsD.snoc (h : PsD X w l vs) {p : Pt} {v : Value} (hd : PtD X w p v) : PsD X w (l ++ [p]) (vs ++ [v]) := by
 refine ⟨by simp [h.1], fun i q u h1 h2 => ?_⟩
 by_cases hlt : i < l.length
 ·rw [List.getElem?_append_left hlt] at h1
  rw [List.getElem?_append_left (by rw [h.1]; exact hlt)] at h2
  exact h.2 i q u h1 h2
 ·have hi : i = l.length := by have := (List.getElem?_eq_some_iff.1 h1).1; simp at this; omega
  subst hi
  simp at h1
  rw [← h.1] at h2
  simp at h2
  subst h1; subst h2
  exact hd
/-- A row of the call's own is a list in memory. -/
theorem own_pts {B n C : Nat} {A : Option Addr} (ho : w.ownsRow B 61 4 (.slice A n C) n (ptsC l vs)) (hd : PsD X w l vs) (hn : l.length = n) (hm : n ≤ 1000) (hX : ∀ g, A.map (·.block) = some g → X g) : PtsIn X w A n l := by
 refine ⟨hn, hm, ?_⟩
 rcases ho.2 with ⟨hv, h0⟩ | ⟨g, cap, cur, hv, r⟩
 ·exact .inl h0
 ·simp only [Value.slice.injEq] at hv
  obtain ⟨rfl, _, _⟩ := hv
  refine .inr ⟨g, 0, rfl, hX g rfl, fun i p hp => ?_⟩
  have hi := (List.getElem?_eq_some_iff.1 hp).1
  obtain ⟨v, hv⟩ : ∃ v, vs[i]? = some v := ⟨vs[i]'(by rw [hd.1]; exact hi), by simp⟩
  obtain ⟨A, L, C', rfl, h2, h3, h4, h5, h6⟩ := hd.2 i p v hp hv
  refine ⟨A, L, C', fun j u hu => ?_, h2, h3, h4, h5, h6⟩
  have hj : j < 4 := by have := (List.getElem?_eq_some_iff.1 hu).1; simpa [ptL] using this
  have := ho.cells (g := g) rfl (i * 4 + j) u (by rw [ptsC_get l vs i p _ j hp hv hj]; exact hu)
  rw [Addr.add_mid] at this
  rw [show 0 + i * 4 + j = 0 + (i * 4 + j) by omega]
  exact this
end
theorem Tryz.zero_put : (Tryz.prog.info? 61).map (fun i => (i.zero, i.size, i.bytes)) = some (some (.agg #[.int .u32 0, .int .u64 0, .bool false, .slice none 0 0]), 4, 48) := by kernel_rfl
theorem ptL_one (p : Pt) (a : Option Addr) (n c : Nat) : ∀ v ∈ ptL p (.slice a n c), v.oneCell' = true := by
 intro v hv; simp only [ptL, List.mem_cons, List.not_mem_nil, or_false] at hv; rcases hv with rfl | rfl | rfl | rfl <;> rfl
theorem app_put {W : World} {a : Option Addr} {n c : Nat} {xs : List Value} (h : W.ownsRow 0 61 4 (.slice a n c) n xs) (p : Pt) (a1 : Option Addr) (n1 c1 : Nat) (hle : n + 1 ≤ 100000) :
  ∃ a' c' w', (Builtin.append_ #[32, 32] 32 #[.slice a n c, .slice (some ⟨W.heap.size, 0, none⟩) 1 1]).run Tryz.prog (W.alloc (.cells #[.int .u32 p.t, .int .u64 p.b, .bool p.x, .slice a1 n1 c1] 61)) = .ok (.slice a' (n + 1) c') w' ∧ w'.ownsRow 0 61 4 (.slice a' (n + 1) c') (n + 1) (xs ++ ptL p (.slice a1 n1 c1)) ∧ Out (fun k => (Value.slice a n c).ownBlock = some k) W w' ∧ ((Value.slice a' (n + 1) c').ownBlock = (Value.slice a n c).ownBlock ∨ ∀ g, (Value.slice a' (n + 1) c').ownBlock = some g → W.heap.size ≤ g) := by
 have h1 := h.alloc (.cells (ptL p (.slice a1 n1 c1)).toArray 61)
 obtain ⟨v', w', hrun, hown', hgrow, hbl⟩ := run_app (e := 61) (t := 32) (ty := 32) (size := 4) (bytes := 48) Tryz.underlying32 Tryz.zero_put rfl (by decide) (by decide) h1 ⟨W.heap.size, 0, none⟩ 1 1 (ptL p (.slice a1 n1 c1)) rfl (by
  intro j u hj
  rw [Addr.add_mid, Nat.zero_add, World.cell?_alloc_mark]
  simpa using hj) (ptL_one p a1 n1 c1) (by omega)
 obtain ⟨a', c', rfl⟩ : ∃ a' c', v' = .slice a' (n + 1) c' := own_slice hown'
 refine ⟨a', c', w', hrun, hown', ((Out.refl (fun k => (Value.slice a n c).ownBlock = some k) W).alloc _).grown hgrow (fun k hk => .inl hk), ?_⟩
 rcases hbl with h | h
 ·exact .inl h
 ·exact .inr fun g hg => by have := h g hg; simp at this; omega
/-- A row of the call's own that grows, its data in X and in new memory. -/
structure RS (X : Nat → Prop) (q : Nat) (W wr : World) (A : Option Addr) (j C : Nat) (l : List Pt) : Prop where
 ow : ∃ vs, wr.ownsRow 0 61 4 (.slice A j C) j (ptsC l vs) ∧ ∃ Z : Nat → Prop, PsD Z wr l vs ∧ (∀ x, Z x → (X x ∨ q ≤ x) ∧ x < wr.heap.size) ∧ (∀ g, (Value.slice A j C).ownBlock = some g → ¬ Z g)
 hi : ∀ g, (Value.slice A j C).ownBlock = some g → q ≤ g
 bel : Below q W wr
section
variable {X : Nat → Prop} {q : Nat} {W wr w' : World} {A : Option Addr} {j C : Nat} {l : List Pt}
theorem RS.start (X : Nat → Prop) (W : World) : RS X W.heap.size W W none 0 0 [] := ⟨⟨[], World.ownsRow_nil _ _ _ _, fun _ => False, PsD.nil, fun _ h => h.elim, fun _ _ h => h⟩, (fun g h => by cases h), Below.refl _ _⟩
theorem RS.below (h : RS X q W wr A j C l) (hq : q ≤ wr.heap.size) (hb : Below wr.heap.size wr w') : RS X q W w' A j C l := by
 obtain ⟨⟨vs, ho, Z, h1, h2, h3⟩, hi, bel⟩ := h
 exact ⟨⟨vs, (below_out Non hb).own ho (fun _ _ e => e), Z, h1.below hb, fun x hx => ⟨(h2 x hx).1, Nat.lt_of_lt_of_le (h2 x hx).2 hb.size⟩, h3⟩, hi, bel.trans (hb.mono hq)⟩
/-- One more: its data in X, or in a block that is new. -/
theorem RS.more {A' : Option Addr} {C' : Nat} {p : Pt} {a1 : Option Addr} {n1 c1 : Nat} {w1 : World} (h : RS X q W wr A j C l) (hq : q ≤ wr.heap.size) (hX : ∀ x, X x → x < q) (hb1 : Below wr.heap.size wr w1)
  (hd : BIn w1 a1 n1 p.d ∧ (a1 = none → n1 = 0 ∧ c1 = 0) ∧ n1 ≤ 10000 ∧ p.Fits) (ha : n1 ≠ 0 → ∀ y, a1.map (·.block) = some y → X y ∨ (wr.heap.size ≤ y ∧ y < w1.heap.size))
  (hrun : ∃ w2, w2 = w' ∧ ∀ vs, w1.ownsRow 0 61 4 (.slice A j C) j (ptsC l vs) → w2.ownsRow 0 61 4 (.slice A' (j + 1) C') (j + 1) (ptsC l vs ++ ptL p (.slice a1 n1 c1))) (ho : Out (fun k => (Value.slice A j C).ownBlock = some k) w1 w') (hbl : (Value.slice A' (j + 1) C').ownBlock = (Value.slice A j C).ownBlock ∨ ∀ g, (Value.slice A' (j + 1) C').ownBlock = some g → w1.heap.size ≤ g) :
  RS X q W w' A' (j + 1) C' (l ++ [p]) := by
 have hw := h.below hq hb1
 obtain ⟨⟨vs, how, Z, h1, h2, h3⟩, hi, bel⟩ := h
 obtain ⟨w2, rfl, hr⟩ := hrun
 have ow1 := (below_out Non hb1).own how (fun _ _ e => e)
 have hlt : ∀ g, (Value.slice A j C).ownBlock = some g → g < wr.heap.size := fun g hg => (how.lt g hg).2
 have hs1 := hb1.size
 have hs2 := ho.size
 have hx : ∀ y, n1 ≠ 0 → a1.map (·.block) = some y → (Value.slice A j C).ownBlock = some y → False := fun y hn hy hg => by
  rcases ha hn y hy with h | h
  ·have := hX y h; have := hi y hg; omega
  ·have := hlt y hg; omega
 refine ⟨⟨vs ++ [.slice a1 n1 c1], by rw [← ptsC_snoc l vs p _ h1.1]; exact hr vs ow1, fun x => Z x ∨ (n1 ≠ 0 ∧ a1.map (·.block) = some x), ?_, ?_, ?_⟩, ?_, ?_⟩
 ·refine PsD.snoc (((h1.below hb1).out ho (fun x hx hg => h3 x hg hx)).wider (fun x hx => .inl hx)) ⟨a1, n1, c1, rfl, hd.1.out ho (fun hn b hb he => hx b hn hb he), hd.2.1, hd.2.2.1, fun hn y hy => .inr ⟨hn, hy⟩, hd.2.2.2⟩
 ·rintro x (hx | ⟨hn, hx⟩)
  ·have := h2 x hx; exact ⟨this.1, by omega⟩
  ·rcases ha hn x hx with h | h
   ·have := hX x h; exact ⟨.inl h, by omega⟩
   ·exact ⟨.inr (by omega), by omega⟩
 ·rintro g hg (hz | ⟨hn, hz⟩)
  ·rcases hbl with e | e
   ·exact h3 g (by rw [← e]; exact hg) hz
   ·have := e g hg; have := (h2 g hz).2; omega
  ·rcases hbl with e | e
   ·exact hx g hn hz (by rw [← e]; exact hg)
   ·have := e g hg
    rcases ha hn g hz with h | h
    ·have := hX g h; omega
    ·omega
 ·intro g hg
  rcases hbl with e | e
  ·exact hi g (by rw [← e]; exact hg)
  ·have := e g hg; omega
 ·exact (bel.trans (hb1.mono hq)).trans (ho.below (by omega) (fun k hk => hi k hk))
theorem RS.pts (h : RS X q W wr A j C l) (hn : l.length = j) (hm : j ≤ 1000) : PtsIn (fun x => (X x ∨ q ≤ x) ∧ x < wr.heap.size) wr A j l := by
 obtain ⟨⟨vs, ho, Z, h1, h2, h3⟩, hi, bel⟩ := h
 refine own_pts ho (h1.wider h2) hn hm (fun g hg => ?_)
 have hg' : (Value.slice A j C).ownBlock = some g := by
  rcases ho.2 with ⟨hv, h0⟩ | ⟨g', cap, cur, hv, r⟩
  ·simp only [Value.slice.injEq] at hv; rw [hv.1] at hg; cases hg
  ·simp only [Value.slice.injEq] at hv; rw [hv.1] at hg ⊢; simp only [Option.map_some, Option.some.injEq] at hg; subst hg; rfl
 exact ⟨.inr (hi g hg'), (ho.lt g hg').2⟩
theorem RS.cap (h : RS X q W wr A j C l) : j ≤ C := by
 obtain ⟨⟨vs, ho, _⟩, _⟩ := h
 exact (own_cap ho).1
end
set_option maxHeartbeats 2000000 in
theorem sblocks_of (S : Nat) (a : Option Addr) (n c : Nat) (l : List Pt) (X : Nat → Prop) (W : World) (hl : PtsIn X W a n l) (hS : S ≤ 10000) (hX : ∀ x, X x → x < W.heap.size) : Calls Tryz.prog 9 #[.int .i64 (S : Nat), .slice a n c] W fun e w' => ∃ A C, e = .returned (.slice A n C) ∧ RS X W.heap.size W w' A n C (l.map (blkP S)) := by
 have hn1 := hl.2.1
 have H : Hid (PtsIn X W a n l ∧ (∀ x, X x → x < W.heap.size)) := ⟨hl, hX⟩
 clear hl hX
 go_enter Tryz.func9, Tryz.ntmps9
 go_wp2_with fail
 go_loopw [5, 6] (fun v x wr => ∃ (j : Nat) (A : Option Addr) (C : Nat), v = .slice A j C ∧ x = .int .i64 j ∧ j ≤ n ∧ RS X W.heap.size W wr A j C ((l.take j).map (blkP S))) (fun _ x _ => n - (intOf x).toNat)
 case atStart => exact ⟨0, none, 0, rfl, rfl, Nat.zero_le _, by simpa using RS.start X W⟩
 case round =>
  obtain ⟨j, A, C, rfl, rfl, hj, hw⟩ := hrel
  rcases Nat.lt_or_ge j n with hlt | hge
  ·have hj' : (j : Int) < n := by omega
   have hwj : IntKind.i64.wrap ((j : Int) + 1) = (j : Int) + 1 := by rw [IntKind.wrap_i64]; omega
   obtain ⟨p, b, off, hp, rfl, hb, A1, L1, C1, hcl, hbin, hnil, hL1, hX1, hfit⟩ := (H.out.1.below hw.bel).at X hlt
   have x0 : wr.cell? ⟨b, off + j * 4, none⟩ = some (.int .u32 p.t) := hcl 0 _ rfl
   have x1 : wr.cell? ⟨b, off + j * 4 + 1, none⟩ = some (.int .u64 p.b) := hcl 1 _ rfl
   have x2 : wr.cell? ⟨b, off + j * 4 + 2, none⟩ = some (.bool p.x) := hcl 2 _ rfl
   have x3 : wr.cell? ⟨b, off + j * 4 + 3, none⟩ = some (.slice A1 L1 C1) := hcl 3 _ rfl
   have HN : Hid ((l.take (j + 1)).map (blkP S) = (l.take j).map (blkP S) ++ [blkP S p]) := by show _ = _; rw [take_snoc hp]; simp
   have hpx : (blkP S p).t = p.t ∧ (blkP S p).b = p.b ∧ (blkP S p).x = p.x ∧ (blkP S p).Fits := by
    unfold blkP
    split
    ·exact ⟨rfl, rfl, rfl, hfit⟩
    ·exact ⟨rfl, rfl, rfl, hfit.1, hfit.2.1, blockB_fits hfit.2.2⟩
   have HB : Hid (Calls Tryz.prog 35 #[.int .i64 (S : Nat), .agg #[.int .u32 p.t, .int .u64 p.b, .bool p.x, .slice A1 L1 C1]] wr fun e w1 => ∃ a1 n1 c1, e = .returned (.agg #[.int .u32 p.t, .int .u64 p.b, .bool p.x, .slice a1 n1 c1]) ∧ ∃ a9 c9 w9, (Builtin.append_ #[32, 32] 32 #[.slice A j C, .slice (some ⟨w1.heap.size, 0, none⟩) 1 1]).run Tryz.prog (w1.alloc (.cells #[.int .u32 p.t, .int .u64 p.b, .bool p.x, .slice a1 n1 c1] 61)) = .ok (.slice a9 (j + 1) c9) w9 ∧ RS X W.heap.size W w9 a9 (j + 1) c9 ((l.take (j + 1)).map (blkP S))) := by
    refine (sblock_of S p A1 L1 C1 wr hbin hS hL1).mono ?_
    rintro e w1 ⟨a1, n1, c1, rfl, k1, k2, k3⟩
    refine ⟨a1, n1, c1, rfl, ?_⟩
    have hw1 := hw.below hw.bel.size k3
    obtain ⟨⟨vs, ho, _⟩, _⟩ := hw1
    obtain ⟨a9, c9, w9, e9, o9, b9, g9⟩ := app_put ho (blkP S p) a1 n1 c1 (by omega)
    rw [hpx.1, hpx.2.1, hpx.2.2.1] at e9
    refine ⟨a9, c9, w9, e9, ?_⟩
    rw [HN.out]
    refine hw.more (c1 := c1) hw.bel.size H.out.2 k3 ⟨k1, ?_, ?_, hpx.2.2.2⟩ ?_ ⟨w9, rfl, fun vs' ho' => ?_⟩ b9 g9
    ·rcases k2 with ⟨rfl, rfl, rfl⟩ | ⟨q', rfl, _⟩
     ·exact hnil
     ·intro h; cases h
    ·rcases k2 with ⟨rfl, rfl, rfl⟩ | ⟨q', rfl, _, _, rfl, rfl⟩
     ·exact hL1
     ·exact hS
    ·intro hn y hy
     rcases k2 with ⟨rfl, rfl, rfl⟩ | ⟨q', rfl, h1, h2, rfl, rfl⟩
     ·exact .inl (hX1 hn y hy)
     ·simp only [Option.map_some, Option.some.injEq] at hy
      subst hy
      exact .inr ⟨h1, h2⟩
    ·obtain ⟨a8, c8, w8, e8, o8, _⟩ := app_put ho' (blkP S p) a1 n1 c1 (by omega)
     rw [hpx.1, hpx.2.1, hpx.2.2.1] at e8
     rw [e9] at e8
     cases e8
     exact o8
   clear hcl hbin hnil hL1 hX1 hfit hp hb hw hpx
   go_wp2_with (first
    | (go_at_call 35; refine HB.out.mono ?_; rintro e w1 ⟨a1, n1, c1, rfl, a9, c9, w9, e9, s9⟩)
    | (at_builtin; refine wpList_append_run rfl _ _ 32 32 rfl _ _ rfl rfl _ _ e9 ?_))
   have H9 : Hid (RS X W.heap.size W w9 a9 (j + 1) c9 ((l.take (j + 1)).map (blkP S))) := s9
   clear s9 e9
   go_wp2
   go_roundw
   case rel => exact ⟨j + 1, a9, c9, rfl, by simp, by omega, H9.out⟩
   case measure => simp [intOf]; omega
  ·obtain rfl : j = n := by omega
   have HT : Hid (RS X W.heap.size W wr A j C (l.map (blkP S))) := by
    rw [List.take_of_length_le (by rw [H.out.1.1]; exact Nat.le_refl _)] at hw
    exact hw
   clear hw
   go_wp2
   go_ret
   exact ⟨A, C, rfl, HT.out⟩
end
end Go.Proofs.YtcdnjeiamihhbabGreat
