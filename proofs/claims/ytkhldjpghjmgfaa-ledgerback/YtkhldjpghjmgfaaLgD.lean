/- The document's ledger in memory; what its calls tell, and do. -/
import Derived.Test.YtkhldjpghjmgfaaLgTn
import Derived.Test.YtkhldjpghjmgfaaLgRow
namespace Go.Proofs.Ytkhldjpghjmgfaa
open Go.RowKit
set_option linter.unusedVariables false
set_option maxRecDepth 4000

abbrev Rw := Int × Int × Int
def rC (x : Rw) : List Value := [.int .u32 x.1, .int .u64 x.2.1, .int .u64 x.2.2]
theorem rC_length (x : Rw) : (rC x).length = 3 := rfl
theorem rC_one (x : Rw) : ∀ v ∈ rC x, v.oneCell' = true := by
  intro v hv
  simp only [rC, List.mem_cons, List.not_mem_nil, or_false] at hv
  rcases hv with rfl | rfl | rfl <;> rfl
/-- The document's rows. -/
def rwS (Q : Qs) (u : Int → Int) : List Rw := Q.map fun x => (x.1, x.2, u x.1)
theorem rwS_length (Q : Qs) (u : Int → Int) : (rwS Q u).length = Q.length := by simp [rwS]
theorem rwS_at {Q : Qs} {u : Int → Int} {k : Nat} {x : Int × Int} (h : Q[k]? = some x) : (rwS Q u)[k]? = some (x.1, x.2, u x.1) := by simp [rwS, h]
/-- Behind r. -/
structure LD (w : World) (B r : Nat) (Q : Qs) (u : Int → Int) : Prop where
  row : ∃ a n c, Blk w r [.slice a n c] 61 ∧ w.ownsRow B 63 3 (.slice a n c) n (rowC rC (rwS Q u))
  rb : B ≤ r
  ri : Rise Q
  qf : QF Q
  wi : Within Q u
section
variable {w w' : World} {B r : Nat} {Q : Qs} {u : Int → Int}
theorem LD.out {O : Nat → Prop} (h : LD w B r Q u) (ho : Out O w w') (hn : ∀ g cur e fr, w.heap[g]? = some (.cells cur e fr) → B ≤ g → ¬ O g) : LD w' B r Q u := by
  obtain ⟨a, n, c, hb, hr⟩ := h.row
  exact ⟨⟨a, n, c, ho.blk hb (hn _ _ _ _ hb h.rb), ho.own hr (fun g hg => by obtain ⟨cur, hc⟩ := own_at_block hr hg; exact hn _ _ _ _ hc (hr.lt g hg).1)⟩, h.rb, h.ri, h.qf, h.wi⟩
theorem LD.below (h : LD w B r Q u) (hb : Below w.heap.size w w') : LD w' B r Q u := h.out (below_out Non hb) (fun _ _ _ _ _ _ e => e)
theorem LD.drewN (h : LD w B r Q u) (j : Nat) : LD (w.drewN j) B r Q u := h.out (drewN_out Non w j) (fun _ _ _ _ _ _ e => e)
/-- What the program's ledger does leaves the document's as it is. -/
theorem LD.prog {p b1 b2 n m : Nat} {Q' : Qs} {u' : Int → Int} (h : LD w B r Q u) (hp : LP w p b1 b2 n m Q' u') (ho : Out (InB b2) w w') : LD w' B r Q u := h.out ho (fun g cur e fr hg _ => by
  rintro rfl
  exact hp.hu.no_cells hg rfl)
end
/-- A tenant's place among the rows; -1: there is none. -/
def atQ : Qs → Int → Nat → Int
  | [], _, _ => -1
  | (j, _) :: t, i, k => if j = i then k else atQ t i (k + 1)
theorem atQ_cons (j r : Int) (t : Qs) (i : Int) (k : Nat) : atQ ((j, r) :: t) i k = if j = i then (k : Int) else atQ t i (k + 1) := rfl
theorem atQ_none {Q : Qs} {i : Int} {k : Nat} (h : getQ Q i = none) : atQ Q i k = -1 := by
  induction Q generalizing k with
  | nil => rfl
  | cons y t ih =>
    obtain ⟨j, r⟩ := y
    unfold getQ at h
    unfold atQ
    split at h
    · cases h
    · rename_i hj; rw [if_neg hj]; exact ih h
theorem atQ_some {Q : Qs} {i q : Int} {k : Nat} (h : getQ Q i = some q) : ∃ j : Nat, atQ Q i k = ((k + j : Nat) : Int) ∧ Q[j]? = some (i, q) ∧ ∀ l x, l < j → Q[l]? = some x → x.1 ≠ i := by
  induction Q generalizing k with
  | nil => cases h
  | cons y t ih =>
    obtain ⟨j, r⟩ := y
    unfold getQ at h
    unfold atQ
    split at h
    · rename_i hj
      cases h
      rw [if_pos hj]
      exact ⟨0, by simp, by simp [hj], fun l x hl => by omega⟩
    · rename_i hj
      rw [if_neg hj]
      obtain ⟨j', h1, h2, h3⟩ := ih (k := k + 1) h
      refine ⟨j' + 1, by rw [h1]; congr 1; omega, by simpa using h2, fun l x hl hx => ?_⟩
      cases l with
      | zero => simp at hx; rw [← hx]; exact hj
      | succ l => exact h3 l x (by omega) (by simpa using hx)
theorem rise_one {Q : Qs} (h : Rise Q) {k j : Nat} {x y : Int × Int} (hx : Q[k]? = some x) (hy : Q[j]? = some y) (he : x.1 = y.1) : k = j := by
  obtain ⟨h1, e1⟩ := List.getElem?_eq_some_iff.1 hx
  obtain ⟨h2, e2⟩ := List.getElem?_eq_some_iff.1 hy
  have hp := List.pairwise_iff_getElem.1 h
  rcases Nat.lt_trichotomy k j with hl | hl | hl
  · have := hp k j h1 h2 hl
    rw [e1, e2] at this; omega
  · exact hl
  · have := hp j k h2 h1 hl
    rw [e1, e2] at this; omega
theorem dlat_of (B r : Nat) (Q : Qs) (u : Int → Int) (t : Int) (w : World) (h : LD w B r Q u) (hl : Q.length ≤ 1000) :
    Calls Try.prog 32 #[.pointer (some ⟨r, 0, none⟩), .int .u32 t] w fun e w' => e = .returned (.int .i64 (atQ Q t 0)) ∧ w' = w := by
  obtain ⟨a, n, c, hb, hr⟩ := h.row
  obtain ⟨hn, hc⟩ := own_row rC_length (by decide) hr
  rw [rwS_length] at hn
  subst hn
  have c0 := hb.cell 0
  simp only [List.getElem?_cons_zero] at c0
  have H : Hid (Q.length = 0 ∨ ∃ g, a = some ⟨g, 0, none⟩ ∧ ∀ i x, (rwS Q u)[i]? = some x → w.rangeAt g (i * 3) (rC x)) := hc
  clear hb hr hc h
  go_enter Try.func32, Try.ntmps32
  go_wp2
  go_loopw [5] (fun i wr => ∃ k : Nat, k ≤ Q.length ∧ i = .int .i64 k ∧ atQ Q t 0 = atQ (Q.drop k) t k ∧ wr = w) (fun i _ => Q.length - (intOf i).toNat)
  case atStart => exact ⟨0, by omega, rfl, rfl, rfl⟩
  case round =>
    obtain ⟨k, hk, rfl, hA, rfl⟩ := hrel
    have HA : Hid (atQ Q t 0 = atQ (Q.drop k) t k) := hA
    clear hA
    by_cases hlt : k < Q.length
    · have hlt' : (k : Int) < Q.length := by omega
      obtain ⟨g, rfl, hc⟩ := H.out.resolve_left (by omega)
      obtain ⟨x, hx⟩ : ∃ x, Q[k]? = some x := ⟨_, List.getElem?_eq_getElem hlt⟩
      have hd : Q.drop k = x :: Q.drop (k + 1) := by
        rw [List.drop_eq_getElem_cons hlt]
        congr 1
        exact (List.getElem?_eq_some_iff.1 hx).2
      have d0 := hc k _ (rwS_at hx) 0 _ rfl
      obtain ⟨j, q⟩ := x
      simp only [Nat.add_zero] at d0
      by_cases he : j = t
      · have HE : Hid (atQ Q t 0 = (k : Int)) := by show _ = _; rw [HA.out, hd, atQ_cons, if_pos he]
        clear hd hx hc
        go_wp2
        go_ret
        exact ⟨by rw [HE.out]; rfl, rfl⟩
      · have HE : Hid (atQ Q t 0 = atQ (Q.drop (k + 1)) t (k + 1)) := by show _ = _; rw [HA.out, hd, atQ_cons, if_neg he]
        clear hd hx hc
        go_wp2
        go_roundw
        case rel => exact ⟨k + 1, by omega, by go_num, HE.out, trivial⟩
        case measure => simp [intOf]; omega
    · have hlt' : ¬ ((k : Int) < Q.length) := by omega
      have HE : Hid (atQ Q t 0 = -1) := by show _ = _; rw [HA.out, List.drop_eq_nil_of_le (by omega)]; rfl
      go_wp2
      go_ret
      exact ⟨by rw [HE.out]; rfl, rfl⟩
/-- One row's cells. -/
theorem LD.at {w : World} {B r : Nat} {Q : Qs} {u : Int → Int} (h : LD w B r Q u) {j : Nat} {i q : Int} (hj : Q[j]? = some (i, q)) : ∃ g c, w.cell? ⟨r, 0, none⟩ = some (.slice (some ⟨g, 0, none⟩) Q.length c) ∧ g ≠ r ∧ w.cell? ⟨g, j * 3, none⟩ = some (.int .u32 i) ∧ w.cell? ⟨g, j * 3 + 1, none⟩ = some (.int .u64 q) ∧ w.cell? ⟨g, j * 3 + 2, none⟩ = some (.int .u64 (u i)) ∧ w.frozen? ⟨g, j * 3 + 2, none⟩ = false ∧ B ≤ g ∧
    ∀ v, 0 ≤ v → v ≤ quoI Q i → LD (w.setCell ⟨g, j * 3 + 2, none⟩ (.int .u64 v)) B r Q (upd u i v) := by
  obtain ⟨a, n, c, hb, hr⟩ := h.row
  obtain ⟨hn, hc⟩ := own_row rC_length (by decide) hr
  rw [rwS_length] at hn
  subst hn
  have hlt : j < Q.length := (List.getElem?_eq_some_iff.1 hj).1
  obtain ⟨g, rfl, hc2⟩ := hc.resolve_left (by omega)
  have hrow := hc2 j _ (rwS_at hj)
  have hgr : g ≠ r := fun e => own_ne hb hr (by decide) (by rw [← e]; rfl)
  have c0 := hb.cell 0
  have hgB := (hr.lt g rfl).1
  refine ⟨g, c, c0, hgr, hrow 0 _ rfl, hrow 1 _ rfl, hrow 2 _ rfl, ?_, hgB, fun v hv hq => ?_⟩
  · rcases hr.2 with ⟨hv, _⟩ | ⟨g', cap, cur, hv, _, hh, _⟩
    · cases hv
    · cases hv
      simp [World.frozen?, hh]
  · refine ⟨⟨_, _, _, hb.set_other (fun e => hgr e.symm) _, own_put rC_length hr rfl _ ?_ ?_⟩, h.rb, h.ri, h.qf, ?_⟩
    · apply List.ext_getElem?
      intro l
      rw [List.getElem?_set]
      by_cases hl : l < Q.length * 3
      · have hi : l / 3 < Q.length := by omega
        have e : l / 3 * 3 + l % 3 = l := by omega
        obtain ⟨x, hx⟩ : ∃ x, Q[l / 3]? = some x := ⟨_, List.getElem?_eq_getElem hi⟩
        have h1 := rowC_at rC_length _ _ _ (l % 3) (rwS_at (u := u) hx) (by omega)
        have h2 := rowC_at rC_length _ _ _ (l % 3) (rwS_at (u := upd u i v) hx) (by omega)
        rw [e] at h1 h2
        rw [h2, h1]
        by_cases hxi : x.1 = i
        · have hjl : l / 3 = j := by
            obtain ⟨xi, xq⟩ := x
            exact rise_one h.ri hx hj hxi
          by_cases hl2 : j * 3 + 2 = l
          · rw [if_pos hl2, if_pos (by rw [rowC_length rC_length, rwS_length]; omega)]
            have : l % 3 = 2 := by omega
            rw [this, hxi, upd_same]; rfl
          · rw [if_neg hl2]
            have : l % 3 = 0 ∨ l % 3 = 1 := by omega
            rcases this with e | e <;> rw [e] <;> rfl
        · rw [if_neg (fun e2 => hxi (by
            have e3 : l / 3 = j := by omega
            rw [e3, hj] at hx; cases hx; rfl)), upd_other _ _ hxi]
      · have n1 : (rowC rC (rwS Q u))[l]? = none := List.getElem?_eq_none (by rw [rowC_length rC_length, rwS_length]; omega)
        have n2 : (rowC rC (rwS Q (upd u i v)))[l]? = none := List.getElem?_eq_none (by rw [rowC_length rC_length, rwS_length]; omega)
        rw [n1, n2, if_neg (by omega)]
    · omega
    · intro k
      by_cases hk : k = i
      · subst hk; rw [upd_same]; exact ⟨hv, hq⟩
      · rw [upd_other _ _ hk]; exact h.wi k
end Go.Proofs.Ytkhldjpghjmgfaa
