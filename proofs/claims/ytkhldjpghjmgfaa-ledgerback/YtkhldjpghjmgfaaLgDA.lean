/- The document's All; SameUsed. -/
import Derived.Test.YtkhldjpghjmgfaaLgAl
import Derived.Deep.RegionHeld3
namespace Go.Proofs.Ytkhldjpghjmgfaa
open Go.RowKit Go.Sort
set_option linter.unusedVariables false
set_option maxRecDepth 4000

theorem LD.slice {w : World} {B r : Nat} {Q : Qs} {u : Int → Int} (h : LD w B r Q u) : ∃ a c, w.cell? ⟨r, 0, none⟩ = some (.slice a Q.length c) := by
  obtain ⟨a, n, c, hb, hr⟩ := h.row
  obtain ⟨hn, _⟩ := own_row rC_length (by decide) hr
  rw [rwS_length] at hn
  subst hn
  exact ⟨a, c, hb.cell 0⟩
theorem dlAll_of (w : World) (B r : Nat) (Q : Qs) (u : Int → Int) (h : LD w B r Q u) (hl : Q.length ≤ 1000) :
    Calls Try.prog 22 #[.pointer (some ⟨r, 0, none⟩)] w fun e w' => ∃ v, e = .returned v ∧ w'.ownsRow w.heap.size 66 2 v Q.length (rowC uC (allS Q u)) ∧ Below w.heap.size w w' := by
  obtain ⟨N, hN⟩ : ∃ N, N = Q.length := ⟨_, rfl⟩
  rw [← hN] at hl ⊢
  have HH : Hid (LD w B r Q u ∧ N = Q.length ∧ N ≤ 1000) := ⟨h, hN, hl⟩
  clear h hN hl
  go_enter Try.func22, Try.ntmps22
  go_wp2
  go_loopw [3, 4] (fun vo vi wr => ∃ (i : Nat) (A : Option Addr) (C : Nat), vo = .slice A i C ∧ vi = .int .i64 i ∧ i ≤ N ∧ wr.ownsRow w.heap.size 66 2 (.slice A i C) i (rowC uC ((allS Q u).take i)) ∧ Below w.heap.size w wr) (fun _ vi _ => N - (intOf vi).toNat)
  case atStart => exact ⟨0, none, 0, rfl, rfl, by omega, World.ownsRow_nil _ _ _ _, Below.refl _ _⟩
  case round =>
    obtain ⟨i, A, C, rfl, rfl, hi, hown, hB⟩ := hrel
    have hL := HH.out.1.below hB
    by_cases hlt : i < N
    · have hlt' : (i : Int) < N := by omega
      obtain ⟨⟨x, q⟩, hx⟩ : ∃ x, Q[i]? = some x := ⟨Q[i]'(by have := HH.out.2.1; omega), List.getElem?_eq_getElem _⟩
      obtain ⟨g, c, e0, _, e1, _, e2, _, _, _⟩ := HH.out.1.at hx
      rw [← HH.out.2.1] at e0
      have HC : ∀ X, Below w.heap.size w X → X.cell? ⟨r, 0, none⟩ = some (.slice (some ⟨g, 0, none⟩) N c) ∧ X.cell? ⟨g, i * 3, none⟩ = some (.int .u32 x) ∧ X.cell? ⟨g, i * 3 + 2, none⟩ = some (.int .u64 (u x)) :=
        fun X hX => ⟨(hX.cell (old_block e0)).trans e0, (hX.cell (old_block e1)).trans e1, (hX.cell (old_block e2)).trans e2⟩
      clear e0 e1 e2
      obtain ⟨c0, c1, c2⟩ := HC wr hB
      obtain ⟨g', cc', W', qr, qo, qg⟩ := app_used (W := wr.drew) hown x (u x) (by have := HH.out.2.2; omega) hB.size
      have qr2 : (Builtin.append_ #[40, 40] 40 #[.slice A i C, .slice (some ⟨wr.heap.size, 0, none⟩) 1 1]).run Try.prog (wr.alloc (.cells #[.int .u32 x, .int .u64 (u x)] 66)).drew = .ok (.slice (some ⟨g', 0, none⟩) (i + 1) cc') W' := qr
      have HN : Hid (W'.ownsRow w.heap.size 66 2 (.slice (some ⟨g', 0, none⟩) (i + 1) cc') (i + 1) (rowC uC ((allS Q u).take (i + 1))) ∧ Below w.heap.size w W') := by
        refine ⟨?_, (hB.trans (drewN_below _ wr 1)).grown qg (hB.trans (drewN_below _ wr 1)).size (fun k e => (hown.lt k e).1)⟩
        rw [take_snoc (x := (x, u x)) (by simp [allS, hx])]; exact qo
      have va := fun o => HC _ (hB.alloc hB.size o)
      have wa := HC _ HN.out.2
      clear qo qg qr hown hB hL hx hi HC
      generalize u x = y at c2 qr2 va wa
      have i0 : (0 : Int) ≤ i := by omega
      have i1 : (i : Int) ≤ 1000 := by have := HH.out.2.2; omega
      go_wp2_with fail
      go_region_held3 (fun X => X.cell? ⟨r, 0, none⟩ = some (.slice (some ⟨g, 0, none⟩) N c) ∧ X.cell? ⟨g, i * 3, none⟩ = some (.int .u32 x) ∧ X.cell? ⟨g, i * 3 + 2, none⟩ = some (.int .u64 y)) (first | exact ⟨c0, c1, c2⟩ | exact va _ | exact wa) (refine cstep_append_run rfl (.tmp 14) (.tmp 32) 40 40 rfl _ _ rfl rfl _ _ qr2 ?_)
      all_goals go_wp2
      all_goals (
        go_roundw
        case rel => exact ⟨i + 1, _, _, rfl, by go_num, by omega, HN.out⟩
        case measure =>
          have kw : IntKind.i64.wrap ((i : Int) + 1) = i + 1 := by rw [IntKind.wrap_i64]; omega
          first | (simp only [intOf]; omega) | (simp only [intOf]; rw [show wrap64 ((i : Int) + 1) = i + 1 from kw]; omega))
    · have hiN : i = N := by omega
      subst hiN
      obtain ⟨a, c, c0⟩ := hL.slice
      rw [← HH.out.2.1] at c0
      have HN : Hid (wr.ownsRow w.heap.size 66 2 (.slice A i C) i (rowC uC (allS Q u)) ∧ Below w.heap.size w wr) := by
        have e : (allS Q u).take i = allS Q u := List.take_of_length_le (by rw [allS_length]; have := HH.out.2.1; omega)
        rw [e] at hown
        exact ⟨hown, hB⟩
      clear hown hB hi hL
      go_wp2
      go_ret
      exact ⟨_, rfl, HN.out⟩
theorem neqU (x y : Int) (W : World) : (Go.binOp .neq 66 (.agg #[.int .u32 x, .int .u64 y]) (.agg #[.int .u32 x, .int .u64 y])).run Try.prog W = .ok (.bool false) W := by
  go_simp
/-- Two equal rows. -/
theorem sameUsed_of (a b : Option Addr) (n c1 c2 B1 B2 : Nat) (L : List (Int × Int)) (w : World) (h1 : w.ownsRow B1 66 2 (.slice a n c1) n (rowC uC L)) (h2 : w.ownsRow B2 66 2 (.slice b n c2) n (rowC uC L)) (hn : n ≤ 1000) :
    Calls Try.prog 20 #[.slice a n c1, .slice b n c2] w fun e w' => e = .returned (.bool true) ∧ ∃ j, w' = w.drewN j := by
  have H1 : Hid (L.length = n ∧ (n = 0 ∨ ∃ g, a = some ⟨g, 0, none⟩ ∧ ∀ i x, L[i]? = some x → w.rangeAt g (i * 2) (uC x))) := own_row uC_length (by decide) h1
  have H2 : Hid (L.length = n ∧ (n = 0 ∨ ∃ g, b = some ⟨g, 0, none⟩ ∧ ∀ i x, L[i]? = some x → w.rangeAt g (i * 2) (uC x))) := own_row uC_length (by decide) h2
  clear h1 h2
  go_enter Try.func20, Try.ntmps20
  go_wp2
  go_loopw [5] (fun i wr => ∃ k j : Nat, k ≤ n ∧ i = .int .i64 k ∧ wr = w.drewN j) (fun i _ => n - (intOf i).toNat)
  case atStart => exact ⟨0, 0, by omega, rfl, rfl⟩
  case round =>
    obtain ⟨k, j, hk, rfl, rfl⟩ := hrel
    by_cases hlt : k < n
    · have hlt' : (k : Int) < n := by omega
      obtain ⟨⟨x, y⟩, hy⟩ : ∃ y, L[k]? = some y := ⟨_, List.getElem?_eq_getElem (by have := H1.out.1; omega)⟩
      obtain ⟨g, rfl, hc⟩ := H1.out.2.resolve_left (by omega)
      obtain ⟨g', rfl, hc'⟩ := H2.out.2.resolve_left (by omega)
      have y0 : ∀ i, (w.drewN i).cell? ⟨g, k * 2, none⟩ = some (.int .u32 x) := fun i => hc k _ hy 0 _ rfl
      have y1 : ∀ i, (w.drewN i).cell? ⟨g, k * 2 + 1, none⟩ = some (.int .u64 y) := fun i => hc k _ hy 1 _ rfl
      have z0 : ∀ i, (w.drewN i).cell? ⟨g', k * 2, none⟩ = some (.int .u32 x) := fun i => hc' k _ hy 0 _ rfl
      have z1 : ∀ i, (w.drewN i).cell? ⟨g', k * 2 + 1, none⟩ = some (.int .u64 y) := fun i => hc' k _ hy 1 _ rfl
      have hq := fun W => neqU x y W
      clear hc hc' hy
      go_wp2_with fail
      go_quiet (fail)
      try simp only [World.drewN_drewN]
      go_wp2
      go_roundw
      case rel => exact ⟨k + 1, _, by omega, by go_num, rfl⟩
      case measure => simp [intOf]; omega
    · have hge : (n : Int) ≤ k := by omega
      go_wp2
      go_ret
      exact ⟨rfl, _, rfl⟩
end Go.Proofs.Ytkhldjpghjmgfaa
