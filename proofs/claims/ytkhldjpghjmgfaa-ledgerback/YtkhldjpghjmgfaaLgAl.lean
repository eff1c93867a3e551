/- All: what every tenant uses, in the order of the names. -/
import Derived.Test.YtkhldjpghjmgfaaLgSr
import Derived.Test.YtkhldjpghjmgfaaLgD
import Derived.Laws.MakeOwn
namespace Go.Proofs.Ytkhldjpghjmgfaa
open Go.RowKit Go.Sort
set_option linter.unusedVariables false
set_option maxRecDepth 4000

def uC (x : Int × Int) : List Value := [.int .u32 x.1, .int .u64 x.2]
theorem uC_length (x : Int × Int) : (uC x).length = 2 := rfl
theorem uC_one (x : Int × Int) : ∀ v ∈ uC x, v.oneCell' = true := by
  intro v hv
  unfold uC at hv
  rcases List.mem_cons.1 hv with rfl | hv
  · rfl
  · rcases List.mem_cons.1 hv with rfl | hv
    · rfl
    · cases hv
def allS (Q : Qs) (u : Int → Int) : List (Int × Int) := Q.map (fun p => (p.1, u p.1))
theorem allS_length (Q : Qs) (u : Int → Int) : (allS Q u).length = Q.length := by simp [allS]
theorem Try.zero_used : (Try.prog.info? 66).map (fun i => (i.zero, i.size, i.bytes)) = some (some (.agg #[.int .u32 0, .int .u64 0]), 2, 16) := by kernel_rfl
theorem make_used (N : Nat) (hN : N ≤ 1000) (w : World) : ∃ Z : Array Value, (Instr.makeSlice 40 (.int .i64 0) (.int .i64 N)).run Try.prog w = .ok (.slice (some ⟨w.heap.size, 0, none⟩) 0 N) (w.alloc (.cells Z 66)) ∧ Z.size = N * 2 := by
  obtain ⟨i0, hi, hz0, hz1, hz2⟩ := info_parts Try.zero_used
  have := run_make (P := Try.prog) w 40 66 i0 _ Try.underlying40 hi hz0 .i64 .i64 0 N (by omega) (by omega) (by rw [hz2]; omega) (by omega)
  refine ⟨_, this, ?_⟩
  simp [madeCells, hz1]
theorem app_used {W : World} {B : Nat} {a : Option Addr} {n cc : Nat} {xs : List (Int × Int)} (h : W.ownsRow B 66 2 (.slice a n cc) n (rowC uC xs)) (x y : Int) (hn : n ≤ 100000) (hB : B ≤ W.heap.size) :
    ∃ g' cc' W', (Builtin.append_ #[40, 40] 40 #[.slice a n cc, .slice (some ⟨W.heap.size, 0, none⟩) 1 1]).run Try.prog (W.alloc (.cells #[.int .u32 x, .int .u64 y] 66)) = .ok (.slice (some ⟨g', 0, none⟩) (n + 1) cc') W' ∧
      W'.ownsRow B 66 2 (.slice (some ⟨g', 0, none⟩) (n + 1) cc') (n + 1) (rowC uC (xs ++ [(x, y)])) ∧ W.grownBy W' (Value.slice a n cc).ownBlock :=
  app_one Try.underlying40 Try.zero_used rfl (by decide) (by decide) uC_length uC_one h (x, y) _ rfl hn hB _ rfl
theorem own_two {w w' : World} {B B' e e' s s' n n' : Nat} {v v' : Value} {xs xs' : List Value} (h : w.ownsRow B e s v n xs) (h' : w.ownsRow B' e' s' v' n' xs') (hne : e ≠ e') (hg : w.grownBy w' v'.ownBlock) : w'.ownsRow B e s v n xs := by
  refine h.kept hg ?_
  cases hv : v.ownBlock with
  | none => exact .inl rfl
  | some g =>
    refine .inr (fun e2 => ?_)
    obtain ⟨c1, h1⟩ := own_at_block h hv
    obtain ⟨c2, h2⟩ := own_at_block h' e2.symm
    rw [h1] at h2
    cases h2
    exact hne rfl
theorem take_snoc {α : Type} {l : List α} {k : Nat} {x : α} (h : l[k]? = some x) : l.take (k + 1) = l.take k ++ [x] := by rw [List.take_add_one, h]; rfl

theorem lAll_of (w : World) (p b1 b2 n m : Nat) (Q : Qs) (u : Int → Int) (h : LP w p b1 b2 n m Q u) (hl : Q.length ≤ 1000) :
    Calls Try.prog 21 #[.pointer (some ⟨p, 0, none⟩)] w fun e w' => ∃ v, e = .returned v ∧ w'.ownsRow w.heap.size 66 2 v Q.length (rowC uC (allS Q u)) ∧ Below w.heap.size w w' := by
  obtain ⟨N, hN⟩ : ∃ N, N = Q.length := ⟨_, rfl⟩
  rw [← hN] at hl ⊢
  obtain ⟨Z, hmk, hZ⟩ := make_used N hl w
  have hlen : (Builtin.len_ #[53] 3 #[.map (some b1)]).run Try.prog w = .ok (.int .i64 N) w := by rw [hN]; exact h.hq.len 3
  obtain ⟨W1, hW1⟩ : ∃ W1, W1 = w.alloc (.cells Z 66) := ⟨_, rfl⟩
  obtain ⟨W2, hW2⟩ : ∃ W2, W2 = W1.alloc (.cells #[.map (some b1)] 53) := ⟨_, rfl⟩
  have hB1 : Below w.heap.size w W1 := by rw [hW1]; exact (Below.refl _ w).alloc (Nat.le_refl _) _
  have hB2 : Below w.heap.size w W2 := by rw [hW2]; exact hB1.alloc hB1.size _
  have hO : W1.ownsRow w.heap.size 66 2 (.slice (some ⟨w.heap.size, 0, none⟩) 0 N) 0 (rowC uC ((allS Q u).take 0)) := by rw [hW1]; exact World.ownsRow_made w Z N (Nat.le_refl _) (by unfold maxLen; omega) hZ
  have hO2 : W2.ownsRow w.heap.size 66 2 (.slice (some ⟨w.heap.size, 0, none⟩) 0 N) 0 (rowC uC ((allS Q u).take 0)) := by rw [hW2]; exact hO.alloc _
  have k1 := keys_of (some b1) W1
  have k2 := sorted_of W1.heap.size b1 n Q h.ri h.qf (by omega) W2 (by rw [hW2]; simp) (by rw [hW2]; exact (Boxed.new _ _ _).cell) (h.below hB2).hq
  rw [← hW1] at hmk
  rw [← hW2] at k1
  rw [← hN] at k2
  have c0 := h.hp.cell 0
  have d0 := (h.below hB1).hp.cell 0
  simp only [List.getElem?_cons_zero] at c0 d0
  have HH : Hid (LP w p b1 b2 n m Q u ∧ N = Q.length ∧ N ≤ 1000) := ⟨h, hN, hl⟩
  have HO : Hid (W2.ownsRow w.heap.size 66 2 (.slice (some ⟨w.heap.size, 0, none⟩) 0 N) 0 (rowC uC ((allS Q u).take 0)) ∧ Below w.heap.size w W2) := ⟨hO2, hB2⟩
  clear hO hO2 hB1 hB2 h hN hl hZ hW1 hW2
  go_enter Try.func21, Try.ntmps21
  go_wp2_with first
    | (go_at_call 34; refine k1.mono ?_; clear k1; rintro e w1 ⟨rfl, hw1⟩; replace hw1 := hw1.symm; subst hw1)
    | (go_at_call 33; refine k2.mono ?_; clear k2; rintro e w3 ⟨v, rfl, hr3, hb3⟩; obtain ⟨a, c, rfl⟩ := own_slice hr3; have H3 : Hid (_ ∧ _) := ⟨hr3, hb3⟩; clear hr3 hb3)
  have hnn : (0 : Int) ≤ N := by omega
  go_loopw [3, 19] (fun vo vi wr => ∃ (i : Nat) (A : Option Addr) (C : Nat), vo = .slice A i C ∧ vi = .int .i64 i ∧ i ≤ N ∧ wr.ownsRow w.heap.size 66 2 (.slice A i C) i (rowC uC ((allS Q u).take i)) ∧ Below w.heap.size w wr ∧ wr.ownsRow w.heap.size 33 1 (.slice a N c) N (rowC wC (idsQ Q))) (fun _ vi _ => N - (intOf vi).toNat)
  case atStart =>
    have hB3 := HO.out.2.trans (H3.out.2.mono HO.out.2.size)
    refine ⟨0, _, _, rfl, rfl, by omega, ?_, hB3, own_base H3.out.1 (fun g hg => Nat.le_trans HO.out.2.size (H3.out.1.lt g hg).1)⟩
    exact (below_out Non H3.out.2).own HO.out.1 (fun _ _ e => e)
  case round =>
    obtain ⟨i, A, C, rfl, rfl, hi, hown, hB, hrow⟩ := hrel
    by_cases hlt : i < N
    · have hlt' : (i : Int) < N := by omega
      obtain ⟨x, hx⟩ : ∃ x, Q[i]? = some x := ⟨Q[i]'(by have := HH.out.2.1; omega), List.getElem?_eq_getElem _⟩
      obtain ⟨g, rfl, hg⟩ := (own_row wC_length (by decide) hrow).2.resolve_left (by omega)
      have z0 := hg i x.1 (by simp [idsQ, hx]) 0 _ rfl
      rw [Nat.mul_one, Nat.add_zero] at z0
      have hL := HH.out.1.below hB
      have hfx : FitsW x.1 := (hL.qf x (List.mem_of_getElem? hx)).1
      have hlk := hL.hu.look hfx
      have e1 := hL.hp.cell 1
      simp only [List.getElem?_cons_succ, List.getElem?_cons_zero] at e1
      obtain ⟨g', cc', W', qr, qo, qg⟩ := app_used hown x.1 (u x.1) (by have := HH.out.2.2; omega) hB.size
      have HN : Hid (W'.ownsRow w.heap.size 66 2 (.slice (some ⟨g', 0, none⟩) (i + 1) cc') (i + 1) (rowC uC ((allS Q u).take (i + 1))) ∧ Below w.heap.size w W' ∧ W'.ownsRow w.heap.size 33 1 (.slice (some ⟨g, 0, none⟩) N c) N (rowC wC (idsQ Q))) := by
        refine ⟨?_, hB.grown qg hB.size (fun k e => (hown.lt k e).1), own_two hrow hown (by decide) qg⟩
        rw [take_snoc (x := (x.1, u x.1)) (by simp [allS, hx])]; exact qo
      clear qo qg hown hrow hB hg hL hfx hx hi
      generalize u x.1 = y at hlk qr
      generalize x.1 = xx at z0 hlk qr
      have i0 : (0 : Int) ≤ i := by omega
      have i1 : (i : Int) ≤ 1000 := by have := HH.out.2.2; omega
      go_wp2_with (first | (at_builtin; refine wpList_append_run rfl _ _ 40 40 rfl _ _ rfl rfl _ _ qr ?_) | go_in)
      go_roundw
      case rel => exact ⟨i + 1, _, _, rfl, by go_num, by omega, HN.out⟩
      case measure =>
        have kw : IntKind.i64.wrap ((i : Int) + 1) = i + 1 := by rw [IntKind.wrap_i64]; omega
        first | (simp only [intOf]; omega) | (simp only [intOf]; rw [show wrap64 ((i : Int) + 1) = i + 1 from kw]; omega)
    · have hiN : i = N := by omega
      subst hiN
      have HN : Hid (wr.ownsRow w.heap.size 66 2 (.slice A i C) i (rowC uC (allS Q u)) ∧ Below w.heap.size w wr) := by
        have e : (allS Q u).take i = allS Q u := List.take_of_length_le (by rw [allS_length]; have := HH.out.2.1; omega)
        rw [e] at hown
        exact ⟨hown, hB⟩
      clear hown hB hrow hi
      go_wp2
      go_ret
      exact ⟨_, rfl, HN.out⟩
end Go.Proofs.Ytkhldjpghjmgfaa
