/- A pivot is chosen: which one does not matter. -/
import Derived.Test.YtkhldjpghjmgfaaSoB
namespace Go.Proofs.Ytkhldjpghjmgfaa
open Go.RowKit Go.Sort
set_option linter.unusedVariables false
set_option maxRecDepth 4000

/-- The row, and a count of exchanges behind a pointer. -/
structure SQ (W w : World) (B g n cap q : Nat) (d : Array Int) (s : Int) : Prop where
  sr : SR W w B g n cap d
  bk : Blk w q [.int .i64 s] 3
  lo : W.heap.size ≤ q
  b0 : 0 ≤ s
section
variable {W w w' : World} {B g n cap q : Nat} {d : Array Int} {s : Int}
theorem SQ.same (h : SQ W w B g n cap q d s) (e1 : w'.heap = w.heap) (e2 : w'.os = w.os) (e3 : w'.tape = w.tape) (e4 : w'.output = w.output) : SQ W w' B g n cap q d s :=
  ⟨h.sr.same e1 e2 e3 e4, by have := h.bk; unfold Blk at this ⊢; rw [e1]; exact this, h.lo, h.b0⟩
theorem SQ.ne (h : SQ W w B g n cap q d s) : g ≠ q := by have := h.sr.lt; have := h.lo; omega
theorem SQ.set (h : SQ W w B g n cap q d s) {t : Int} (ht : 0 ≤ t) : SQ W (w.setCell ⟨q, 0, none⟩ (.int .i64 t)) B g n cap q d t := by
  refine ⟨⟨?_, h.sr.out.setCell (p := ⟨q, 0, none⟩) (.inr h.lo) _, h.sr.lt⟩, h.bk.set 0 _, h.lo, ht⟩
  exact (Out.setCell (O := InB q) (Out.refl _ w) (p := ⟨q, 0, none⟩) (.inl rfl) (.int .i64 t)).own h.sr.own (fun g' hg' => by
    have : g' = g := by
      have e : (Value.slice (some ⟨g, 0, none⟩) n cap).ownBlock = some g := rfl
      rw [e] at hg'; cases hg'; rfl
    subst this
    exact fun e => h.ne e)
end
theorem order2_of (W : World) (B g n cap q a b : Nat) (d : Array Int) (s : Int) (w : World) (h : SQ W w B g n cap q d s) (ha : a < n) (hb : b < n) (hn : n ≤ 1000) (hs : s ≤ 100) :
    Calls Try.prog 61 #[.slice (some ⟨g, 0, none⟩) n cap, .int .i64 a, .int .i64 b, .pointer (some ⟨q, 0, none⟩)] w fun e w' => ∃ (x y : Nat) (s' : Int), e = .returned (.tuple #[.int .i64 x, .int .i64 y]) ∧ ((x = a ∧ y = b) ∨ (x = b ∧ y = a)) ∧ s' ≤ s + 1 ∧ SQ W w' B g n cap q d s' := by
  have b0a : (0 : Int) ≤ a := by omega
  have b1a : (a : Int) < n := by omega
  have b0b : (0 : Int) ≤ b := by omega
  have b1b : (b : Int) < n := by omega
  have c0 := h.sr.cell hb
  have c1 := h.sr.cell ha
  have z0 := h.bk.cell 0
  have z1 := h.bk.frozen 0
  simp only [List.getElem?_cons_zero] at z0
  have hs0 := h.b0
  have HS : Hid (SQ W w B g n cap q d s) := h
  have hL := less_of d[b]! d[a]!
  clear h
  generalize d[b]! = x at c0 hL
  generalize d[a]! = y at c1 hL
  have zS : w.cell? ⟨g, b, none⟩ = some (.int .u32 x) ∧ w.cell? ⟨g, a, none⟩ = some (.int .u32 y) := ⟨c0, c1⟩
  by_cases hl : ltInt x y = true
  · rw [hl] at hL
    have HT : Hid (SQ W (w.setCell ⟨q, 0, none⟩ (.int .i64 (s + 1))) B g n cap q d (s + 1)) := HS.out.set (by omega)
    have k1 : IntKind.i64.wrap (s + 1) = s + 1 := by rw [IntKind.wrap_i64]; omega
    go_enter Try.func61, Try.ntmps61
    go_wp2_with fail
    go_region_held3 (fun X => X.cell? ⟨g, b, none⟩ = some (.int .u32 x) ∧ X.cell? ⟨g, a, none⟩ = some (.int .u32 y)) (exact zS)
      ((go_simp; go_at_call 50; refine (hL _).mono ?_; rintro e w11 ⟨rfl, hw11⟩; replace hw11 := hw11.symm; subst hw11))
    all_goals go_wp2
    all_goals go_ret2
    all_goals exact ⟨b, a, s + 1, rfl, .inr ⟨rfl, rfl⟩, Int.le_refl _, HT.out.same rfl rfl rfl rfl⟩
  · have hl3 : ltInt x y = false := by simpa using hl
    rw [hl3] at hL
    go_enter Try.func61, Try.ntmps61
    go_wp2_with fail
    go_region_held3 (fun X => X.cell? ⟨g, b, none⟩ = some (.int .u32 x) ∧ X.cell? ⟨g, a, none⟩ = some (.int .u32 y)) (exact zS)
      ((go_simp; go_at_call 50; refine (hL _).mono ?_; rintro e w11 ⟨rfl, hw11⟩; replace hw11 := hw11.symm; subst hw11))
    all_goals go_wp2
    all_goals go_ret2
    all_goals exact ⟨a, b, s, rfl, .inl ⟨rfl, rfl⟩, by omega, HS.out.same rfl rfl rfl rfl⟩
theorem median_of (W : World) (B g n cap q a b c : Nat) (d : Array Int) (s : Int) (w : World) (h : SQ W w B g n cap q d s) (ha : a < n) (hb : b < n) (hc : c < n) (hn : n ≤ 1000) (hs : s ≤ 90) :
    Calls Try.prog 59 #[.slice (some ⟨g, 0, none⟩) n cap, .int .i64 a, .int .i64 b, .int .i64 c, .pointer (some ⟨q, 0, none⟩)] w fun e w' => ∃ (x : Nat) (s' : Int), e = .returned (.int .i64 x) ∧ (x = a ∨ x = b ∨ x = c) ∧ s' ≤ s + 3 ∧ SQ W w' B g n cap q d s' := by
  have c1 := order2_of W B g n cap q a b d s w h ha hb hn (by omega)
  go_enter Try.func59, Try.ntmps59
  go_wp2_with (go_at_call 61; refine c1.mono ?_; clear c1; rintro e w1 ⟨x1, y1, s1, rfl, h1, l1, q1⟩)
  have c1 := order2_of W B g n cap q y1 c d s1 w1 q1 (by omega) hc hn (by omega)
  go_wp2_with (go_at_call 61; refine c1.mono ?_; clear c1; rintro e w2 ⟨x2, y2, s2, rfl, h2, l2, q2⟩)
  have c1 := order2_of W B g n cap q x1 x2 d s2 w2 q2 (by omega) (by omega) hn (by omega)
  go_wp2_with (go_at_call 61; refine c1.mono ?_; clear c1; rintro e w3 ⟨x3, y3, s3, rfl, h3, l3, q3⟩)
  go_ret
  exact ⟨y3, s3, rfl, by omega, by omega, q3⟩
theorem medAdj_of (W : World) (B g n cap q a : Nat) (d : Array Int) (s : Int) (w : World) (h : SQ W w B g n cap q d s) (ha : 1 ≤ a) (hb : a + 1 < n) (hn : n ≤ 1000) (hs : s ≤ 90) :
    Calls Try.prog 58 #[.slice (some ⟨g, 0, none⟩) n cap, .int .i64 a, .pointer (some ⟨q, 0, none⟩)] w fun e w' => ∃ (x : Nat) (s' : Int), e = .returned (.int .i64 x) ∧ (a - 1 ≤ x ∧ x ≤ a + 1) ∧ s' ≤ s + 3 ∧ SQ W w' B g n cap q d s' := by
  obtain ⟨m, hm⟩ : ∃ m, m + 1 = a := ⟨a - 1, by omega⟩
  obtain ⟨p, hp⟩ : ∃ p, p = a + 1 := ⟨_, rfl⟩
  have k1 : IntKind.i64.wrap ((a : Int) - 1) = m := by rw [IntKind.wrap_i64]; omega
  have k2 : IntKind.i64.wrap ((a : Int) + 1) = p := by rw [IntKind.wrap_i64]; omega
  have c1 := median_of W B g n cap q m a p d s w h (by omega) (by omega) (by omega) hn hs
  have HM : Hid (m + 1 = a ∧ p = a + 1) := ⟨hm, hp⟩
  clear h hm hp
  go_enter Try.func58, Try.ntmps58
  go_wp2_with (go_at_call 59; refine c1.mono ?_; rintro e w1 ⟨x1, s1, rfl, h1, l1, q1⟩)
  go_ret
  exact ⟨x1, s1, rfl, by have := HM.out; omega, l1, q1⟩
end Go.Proofs.Ytkhldjpghjmgfaa
