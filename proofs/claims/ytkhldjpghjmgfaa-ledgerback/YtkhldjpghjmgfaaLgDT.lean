/- The document's: Used, Left, Take, Give. -/
import Derived.Test.YtkhldjpghjmgfaaLgD
namespace Go.Proofs.Ytkhldjpghjmgfaa
open Go.RowKit
set_option linter.unusedVariables false
set_option maxRecDepth 4000

/-- Nothing but the document's rows may have changed. -/
def DocOut (B : Nat) (w w' : World) : Prop := ∃ g, Out (InB g) w w' ∧ B ≤ g ∧ (g < w.heap.size → ∃ cur, w.heap[g]? = some (.cells cur 63 (0, 0)))
theorem DocOut.below {B : Nat} {w w' : World} (h : DocOut B w w') (hB : B ≤ w.heap.size) : Below B w w' := by
  obtain ⟨g, h1, h2, _⟩ := h
  exact h1.below hB (by rintro j rfl; exact h2)
theorem LP.doc {w w' : World} {p b1 b2 n m B : Nat} {Q : Qs} {u : Int → Int} (h : LP w p b1 b2 n m Q u) (ho : DocOut B w w') : LP w' p b1 b2 n m Q u := by
  obtain ⟨g, h1, h2, h3⟩ := ho
  have key : ∀ k, k < w.heap.size → (∀ cur, w.heap[k]? ≠ some (.cells cur 63 (0, 0))) → ¬ InB g k := by
    rintro k hk hc rfl
    obtain ⟨cur, hcur⟩ := h3 hk
    exact hc cur hcur
  refine h.out h1 (key p h.hp.lt ?_) (key b1 h.hq.lt ?_) (key b2 h.hu.lt ?_)
  · intro cur e
    have := h.hp
    unfold Blk at this
    rw [this] at e
    cases e
  · intro cur e; exact h.hq.no_cells e rfl
  · intro cur e; exact h.hu.no_cells e rfl
theorem quoI_none {Q : Qs} {t : Int} (h : getQ Q t = none) : quoI Q t = 0 := by unfold quoI; rw [h]; rfl
theorem quoI_some {Q : Qs} {t q : Int} (h : getQ Q t = some q) : quoI Q t = q := by unfold quoI; rw [h]; rfl
theorem dlUsed_of (B r : Nat) (Q : Qs) (u : Int → Int) (t : Int) (w : World) (h : LD w B r Q u) (hl : Q.length ≤ 1000) :
    Calls Try.prog 17 #[.pointer (some ⟨r, 0, none⟩), .int .u32 t] w fun e w' => e = .returned (.int .u64 (u t)) ∧ ∃ j, w' = w.drewN j := by
  have c1 := dlat_of B r Q u t w h hl
  cases hg : getQ Q t with
  | none =>
    have hz : u t = 0 := by have := h.wi t; rw [quoI_none hg] at this; omega
    rw [atQ_none hg] at c1
    rw [hz]
    clear h hg hz
    go_enter Try.func17, Try.ntmps17
    go_wp2_with (go_at_call 32; refine c1.mono ?_; rintro e w1 ⟨rfl, rfl⟩)
    go_ret
    exact ⟨rfl, 0, rfl⟩
  | some q =>
    obtain ⟨j, e1, hj, _⟩ := atQ_some (k := 0) hg
    rw [e1, Nat.zero_add] at c1
    obtain ⟨g, c, k0, _, k1, k2, k3, _⟩ := h.at hj
    have hlt : (j : Int) < Q.length := by have := (List.getElem?_eq_some_iff.1 hj).1; omega
    clear h hg e1 hj
    go_enter Try.func17, Try.ntmps17
    go_wp2_with (go_at_call 32; refine c1.mono ?_; rintro e w1 ⟨rfl, rfl⟩)
    go_ret
    exact ⟨rfl, 0, rfl⟩
theorem dlLeft_of (B r : Nat) (Q : Qs) (u : Int → Int) (t : Int) (w : World) (h : LD w B r Q u) (hl : Q.length ≤ 1000) :
    Calls Try.prog 19 #[.pointer (some ⟨r, 0, none⟩), .int .u32 t] w fun e w' => e = .returned (.int .u64 (quoI Q t - u t)) ∧ ∃ j, w' = w.drewN j := by
  have c1 := dlat_of B r Q u t w h hl
  have hb := quoI_fits h.qf t
  have hw := h.wi t
  unfold FitsQ at hb
  cases hg : getQ Q t with
  | none =>
    have hz : quoI Q t - u t = 0 := by rw [quoI_none hg] at hw ⊢; omega
    rw [atQ_none hg] at c1
    rw [hz]
    clear h hg hz
    go_enter Try.func19, Try.ntmps19
    go_wp2_with (go_at_call 32; refine c1.mono ?_; rintro e w1 ⟨rfl, rfl⟩)
    go_ret
    exact ⟨rfl, 0, rfl⟩
  | some q =>
    obtain ⟨j, e1, hj, _⟩ := atQ_some (k := 0) hg
    rw [e1, Nat.zero_add] at c1
    rw [quoI_some hg] at hb hw ⊢
    obtain ⟨g, c, k0, _, k1, k2, k3, _⟩ := h.at hj
    have hlt : (j : Int) < Q.length := by have := (List.getElem?_eq_some_iff.1 hj).1; omega
    have d0 : w.drew.cell? ⟨r, 0, none⟩ = _ := k0
    have d2 : w.drew.cell? ⟨g, j * 3 + 1, none⟩ = _ := k2
    have d3 : w.drew.cell? ⟨g, j * 3 + 2, none⟩ = _ := k3
    clear h hg e1 hj
    go_enter Try.func19, Try.ntmps19
    go_wp2_with (go_at_call 32; refine c1.mono ?_; rintro e w1 ⟨rfl, rfl⟩)
    go_region
    all_goals go_wp2
    all_goals go_ret
    all_goals exact ⟨by go_num, 1, rfl⟩
theorem LD.blk {w : World} {B r : Nat} {Q : Qs} {u : Int → Int} (h : LD w B r Q u) {g n c : Nat} (k : w.cell? ⟨r, 0, none⟩ = some (.slice (some ⟨g, 0, none⟩) n c)) : ∃ cur, w.heap[g]? = some (.cells cur 63 (0, 0)) := by
  obtain ⟨a, n', c', hb, hr⟩ := h.row
  have := hb.cell 0
  rw [k] at this
  cases this
  exact own_at_block hr rfl
theorem dlTake_of (B r : Nat) (Q : Qs) (u : Int → Int) (t c : Int) (w : World) (h : LD w B r Q u) (hl : Q.length ≤ 1000) (hc : FitsQ c) :
    Calls Try.prog 31 #[.pointer (some ⟨r, 0, none⟩), .int .u32 t, .int .u64 c] w fun e w' => e = .returned (.bool (okL Q u (false, t, c))) ∧ LD w' B r Q (doL Q u (false, t, c)) ∧ DocOut B w w' := by
  have ho : okL Q u (false, t, c) = decide (c ≤ quoI Q t - u t) := rfl
  have hd : doL Q u (false, t, c) = if okL Q u (false, t, c) then upd u t (u t + c) else u := rfl
  rw [ho] at hd ⊢
  rw [hd]
  have c1 := dlat_of B r Q u t w h hl
  have hb := quoI_fits h.qf t
  have hw := h.wi t
  unfold FitsQ at hb hc
  have hBs : B ≤ w.heap.size := by obtain ⟨a, n, cc, hb, _⟩ := h.row; have := hb.lt; have := h.rb; omega
  have stay : Hid (∀ j, LD (w.drewN j) B r Q u ∧ DocOut B w (w.drewN j)) := fun j => ⟨h.drewN j, w.heap.size, drewN_out _ _ _, hBs, fun hcur => by omega⟩
  cases hg : getQ Q t with
  | none =>
    have hz : u t = 0 := by rw [quoI_none hg] at hw; omega
    have hqz := quoI_none hg
    rw [atQ_none hg] at c1
    by_cases hc0 : c = 0
    · subst hc0
      have e1 : decide ((0 : Int) ≤ quoI Q t - u t) = true := by apply decide_eq_true; omega
      have e2 : upd u t (u t + 0) = u := by rw [hz]; exact upd_zero hz
      rw [e1, if_pos rfl, e2]
      clear h hg hz hqz e1 e2 ho hd
      go_enter Try.func31, Try.ntmps31
      go_wp2_with (go_at_call 32; refine c1.mono ?_; rintro e w1 ⟨rfl, rfl⟩)
      go_ret
      exact ⟨rfl, stay.out 0⟩
    · have e1 : decide (c ≤ quoI Q t - u t) = false := by apply decide_eq_false; omega
      rw [e1, if_neg (by simp)]
      clear h hg hz hqz e1 ho hd
      go_enter Try.func31, Try.ntmps31
      go_wp2_with (go_at_call 32; refine c1.mono ?_; rintro e w1 ⟨rfl, rfl⟩)
      go_ret
      exact ⟨by simp [hc0], stay.out 0⟩
  | some q =>
    obtain ⟨j, e1, hj, _⟩ := atQ_some (k := 0) hg
    rw [e1, Nat.zero_add] at c1
    rw [quoI_some hg] at hb hw ⊢
    obtain ⟨g, cc, k0, kne, k1, k2, k3, kf, kB, kput⟩ := h.at hj
    rw [quoI_some hg] at kput
    have hlt : (j : Int) < Q.length := by have := (List.getElem?_eq_some_iff.1 hj).1; omega
    have d0 : w.drew.cell? ⟨r, 0, none⟩ = _ := k0
    have d2 : w.drew.cell? ⟨g, j * 3 + 1, none⟩ = _ := k2
    have d3 : w.drew.cell? ⟨g, j * 3 + 2, none⟩ = _ := k3
    have df : w.drew.frozen? ⟨g, j * 3 + 2, none⟩ = _ := kf
    have hblk : ∃ cur, w.heap[g]? = some (.cells cur 63 (0, 0)) := h.blk k0
    by_cases hx : c ≤ q - u t
    · rw [decide_eq_true hx, if_pos rfl]
      have fin : Hid (∀ j', LD ((w.drewN j').setCell ⟨g, j * 3 + 2, none⟩ (.int .u64 (u t + c))) B r Q (upd u t (u t + c)) ∧ DocOut B w ((w.drewN j').setCell ⟨g, j * 3 + 2, none⟩ (.int .u64 (u t + c)))) := fun j' => by
        obtain ⟨g', cc', k0', _, _, _, _, _, _, kput'⟩ := (h.drewN j').at hj
        have e0 : (w.drewN j').cell? ⟨r, 0, none⟩ = _ := k0
        rw [e0] at k0'
        cases k0'
        refine ⟨kput' _ (by omega) (by rw [quoI_some hg]; omega), g, (drewN_out (InB g) w j').setCell (p := ⟨g, j * 3 + 2, none⟩) (.inl rfl) _, kB, fun _ => hblk⟩
      clear h hg e1 hj kput hblk
      go_enter Try.func31, Try.ntmps31
      go_wp2_with (go_at_call 32; refine c1.mono ?_; rintro e w1 ⟨rfl, rfl⟩)
      go_region
      all_goals go_wp2
      all_goals go_ret
      all_goals exact ⟨rfl, fin.out 1⟩
    · rw [decide_eq_false hx, if_neg (by simp)]
      clear h hg e1 hj kput hblk
      go_enter Try.func31, Try.ntmps31
      go_wp2_with (go_at_call 32; refine c1.mono ?_; rintro e w1 ⟨rfl, rfl⟩)
      go_region
      all_goals go_wp2
      all_goals go_ret
      all_goals exact ⟨rfl, stay.out 1⟩
theorem dlGive_of (B r : Nat) (Q : Qs) (u : Int → Int) (t c : Int) (w : World) (h : LD w B r Q u) (hl : Q.length ≤ 1000) (hc : FitsQ c) :
    Calls Try.prog 30 #[.pointer (some ⟨r, 0, none⟩), .int .u32 t, .int .u64 c] w fun e w' => e = .returned (.bool (okL Q u (true, t, c))) ∧ LD w' B r Q (doL Q u (true, t, c)) ∧ DocOut B w w' := by
  have ho : okL Q u (true, t, c) = decide (c ≤ u t) := rfl
  have hd : doL Q u (true, t, c) = if okL Q u (true, t, c) then upd u t (u t - c) else u := rfl
  rw [ho] at hd ⊢
  rw [hd]
  have c1 := dlat_of B r Q u t w h hl
  have hb := quoI_fits h.qf t
  have hw := h.wi t
  unfold FitsQ at hb hc
  have hBs : B ≤ w.heap.size := by obtain ⟨a, n, cc, hb, _⟩ := h.row; have := hb.lt; have := h.rb; omega
  have stay : Hid (∀ j, LD (w.drewN j) B r Q u ∧ DocOut B w (w.drewN j)) := fun j => ⟨h.drewN j, w.heap.size, drewN_out _ _ _, hBs, fun hcur => by omega⟩
  cases hg : getQ Q t with
  | none =>
    have hz : u t = 0 := by rw [quoI_none hg] at hw; omega
    have hqz := quoI_none hg
    rw [atQ_none hg] at c1
    by_cases hc0 : c = 0
    · subst hc0
      have e1 : decide ((0 : Int) ≤ u t) = true := by apply decide_eq_true; omega
      have e2 : upd u t (u t - 0) = u := by rw [hz]; exact upd_zero hz
      rw [e1, if_pos rfl, e2]
      clear h hg hz hqz e1 e2 ho hd
      go_enter Try.func30, Try.ntmps30
      go_wp2_with (go_at_call 32; refine c1.mono ?_; rintro e w1 ⟨rfl, rfl⟩)
      go_ret
      exact ⟨rfl, stay.out 0⟩
    · have e1 : decide (c ≤ u t) = false := by apply decide_eq_false; omega
      rw [e1, if_neg (by simp)]
      clear h hg hz hqz e1 ho hd
      go_enter Try.func30, Try.ntmps30
      go_wp2_with (go_at_call 32; refine c1.mono ?_; rintro e w1 ⟨rfl, rfl⟩)
      go_ret
      exact ⟨by simp [hc0], stay.out 0⟩
  | some q =>
    obtain ⟨j, e1, hj, _⟩ := atQ_some (k := 0) hg
    rw [e1, Nat.zero_add] at c1
    rw [quoI_some hg] at hb hw
    obtain ⟨g, cc, k0, kne, k1, k2, k3, kf, kB, kput⟩ := h.at hj
    rw [quoI_some hg] at kput
    have hlt : (j : Int) < Q.length := by have := (List.getElem?_eq_some_iff.1 hj).1; omega
    have d0 : w.drew.cell? ⟨r, 0, none⟩ = _ := k0
    have d2 : w.drew.cell? ⟨g, j * 3 + 1, none⟩ = _ := k2
    have d3 : w.drew.cell? ⟨g, j * 3 + 2, none⟩ = _ := k3
    have df : w.drew.frozen? ⟨g, j * 3 + 2, none⟩ = _ := kf
    have hblk : ∃ cur, w.heap[g]? = some (.cells cur 63 (0, 0)) := h.blk k0
    by_cases hx : c ≤ u t
    · rw [decide_eq_true hx, if_pos rfl]
      have fin : Hid (∀ j', LD ((w.drewN j').setCell ⟨g, j * 3 + 2, none⟩ (.int .u64 (u t - c))) B r Q (upd u t (u t - c)) ∧ DocOut B w ((w.drewN j').setCell ⟨g, j * 3 + 2, none⟩ (.int .u64 (u t - c)))) := fun j' => by
        obtain ⟨g', cc', k0', _, _, _, _, _, _, kput'⟩ := (h.drewN j').at hj
        have e0 : (w.drewN j').cell? ⟨r, 0, none⟩ = _ := k0
        rw [e0] at k0'
        cases k0'
        refine ⟨kput' _ (by omega) (by rw [quoI_some hg]; omega), g, (drewN_out (InB g) w j').setCell (p := ⟨g, j * 3 + 2, none⟩) (.inl rfl) _, kB, fun _ => hblk⟩
      clear h hg e1 hj kput hblk
      go_enter Try.func30, Try.ntmps30
      go_wp2_with (go_at_call 32; refine c1.mono ?_; rintro e w1 ⟨rfl, rfl⟩)
      all_goals go_wp2
      all_goals go_ret
      all_goals exact ⟨rfl, fin.out 0⟩
    · rw [decide_eq_false hx, if_neg (by simp)]
      clear h hg e1 hj kput hblk
      go_enter Try.func30, Try.ntmps30
      go_wp2_with (go_at_call 32; refine c1.mono ?_; rintro e w1 ⟨rfl, rfl⟩)
      all_goals go_wp2
      all_goals go_ret
      all_goals exact ⟨rfl, stay.out 0⟩
end Go.Proofs.Ytkhldjpghjmgfaa
