/- Both pipes while bytes of the law's own are written over; a row that All told while it is written over. -/
import Derived.Test.YthmhphjblglcoaaPiB
namespace Go.Proofs.Ythmhphjblglcoaa
open Go.RowKit
set_option linter.unusedVariables false
set_option maxRecDepth 4000
structure BX (X : Nat → Prop) (w V : World) (b d : Nat) (L : List Pq) : Prop where
  p : PP X V b L
  r : PD X V d L
  bel : Below w.heap.size w V
  hb : w.heap.size ≤ b
  hd : w.heap.size ≤ d
/-- A block of bytes that may be written. -/
def OwnB (V : World) (g n : Nat) : Prop := ∃ cs, Blk V g cs 5 ∧ ∀ k, k < n → ∃ x, cs[k]? = some (.int .u8 x)
section
variable {X : Nat → Prop} {w V V' : World} {b d g n : Nat} {L : List Pq}
theorem OwnB.at (h : OwnB V g n) {k : Nat} (hk : k < n) : ∃ x, V.cell? ⟨g, k, none⟩ = some (.int .u8 x) ∧ V.frozen? ⟨g, k, none⟩ = false := by
  obtain ⟨cs, h1, h2⟩ := h
  obtain ⟨x, hx⟩ := h2 k hk
  exact ⟨x, by rw [h1.cell]; exact hx, h1.frozen k⟩
theorem OwnB.set (h : OwnB V g n) (g' k : Nat) (y : Int) : OwnB (V.setCell ⟨g', k, none⟩ (.int .u8 y)) g n := by
  obtain ⟨cs, h1, h2⟩ := h
  by_cases e : g = g'
  · subst e
    refine ⟨_, h1.set k _, fun i hi => ?_⟩
    obtain ⟨x, hx⟩ := h2 i hi
    rw [List.getElem?_set]
    by_cases hik : k = i
    · rw [if_pos hik, if_pos (by subst hik; exact (List.getElem?_eq_some_iff.1 hx).1)]; exact ⟨y, rfl⟩
    · rw [if_neg hik]; exact ⟨x, hx⟩
  · exact ⟨cs, h1.set_other e _, h2⟩
theorem OwnB.out {O : Nat → Prop} (h : OwnB V g n) (ho : Out O V V') (hg : ¬ O g) : OwnB V' g n := by
  obtain ⟨cs, h1, h2⟩ := h
  exact ⟨cs, ho.blk h1 hg, h2⟩
theorem OwnB.blk (h : OwnB V g n) : ∃ cs, Blk V g cs 5 := by obtain ⟨cs, h1, _⟩ := h; exact ⟨cs, h1⟩
theorem BX.wider {Y : Nat → Prop} (h : BX X w V b d L) (hY : ∀ x, X x → x < V.heap.size → Y x) : BX Y w V b d L := ⟨h.p.wider hY, h.r.wider hY, h.bel, h.hb, h.hd⟩
theorem BX.below (h : BX X w V b d L) (hb : Below V.heap.size V V') : BX X w V' b d L := ⟨h.p.below hb, h.r.below hb, h.bel.trans (hb.mono h.bel.size), h.hb, h.hd⟩
theorem BX.byte (h : BX X w V b d L) {k : Nat} {y : Int} (hq : OwnB V g n) (hX : ¬ X g) (hg : w.heap.size ≤ g) : BX X w (V.setCell ⟨g, k, none⟩ (.int .u8 y)) b d L := by
  obtain ⟨cs, hq, _⟩ := hq
  have ho := Out.setCell (O := fun x => x = g) (p := ⟨g, k, none⟩) (Out.refl _ V) (.inl rfl) (.int .u8 y)
  have e1 : V.heap[g]? = some (.cells cs.toArray 5 (0, 0)) := hq
  refine ⟨h.p.out ho (fun e => ?_) (fun c cur hx _ e => hX (by rw [← e]; exact hx)), h.r.out ho (fun c cur t hc ht e => ?_), h.bel.setCell (p := ⟨g, k, none⟩) hg _, h.hb, h.hd⟩
  · obtain ⟨_, cs', vs, h2, _⟩ := h.p
    exact blk_type h2 (c := g) e1 pipe_not_u8 e.symm
  · have e' : c = g := e
    subst e'
    rw [hc] at e1
    simp only [Option.some.injEq, Obj.cells.injEq] at e1
    obtain ⟨_, e2, _⟩ := e1
    rcases ht with ⟨_, hx⟩ | ht | ht
    · exact hX hx
    · exact absurd (e2.symm.trans ht) (by decide)
    · exact absurd (e2.symm.trans ht) (by decide)
/-- One is put into both, out of data of the law's own the one time. -/
theorem bx_add {w1 : World} (p : Pq) (A A1 : Option Addr) (k C C1 : Nat) (h : B2 w V b d L L) (hb1 : Below V.heap.size V w1) (hD : DIn w A k C p.2) (hD1 : DIn w1 A1 k C1 p.2) (hk : k ≤ 100) (hf : p.1.Fits) :
    Calls Try.prog 13 #[.pointer (some ⟨b, 0, none⟩), .agg #[.int .u16 p.1.fl, .int .u16 p.1.kd, .int .u64 p.1.ck, .int .u64 p.1.ofs, .int .u32 p.1.ln, .slice A1 k C1]] w1 fun e w2 => ∃ r, e = .returned (.bool r) ∧ Below w.heap.size w w2 ∧
      Calls Try.prog 14 #[.pointer (some ⟨d, 0, none⟩), .agg #[.int .u16 p.1.fl, .int .u16 p.1.kd, .int .u64 p.1.ck, .int .u64 p.1.ofs, .int .u32 p.1.ln, .slice A k C]] w2 fun e w3 => ∃ r, e = .returned (.bool r) ∧ BX (fun x => x < V.heap.size ∨ w1.heap.size ≤ x) w w3 b d (addL L p) ∧ ∀ g n, OwnB w1 g n → OwnB w3 g n := by
  have hB : B2 w w1 b d L L := h.below hb1
  have hp1 : PP (fun x => x < V.heap.size ∨ w1.heap.size ≤ x) w1 b L := (h.p.wider (Y := fun x => x < V.heap.size ∨ w1.heap.size ≤ x) (fun x _ hx => .inl hx)).below hb1
  have hr1 : PD (fun x => x < V.heap.size ∨ w1.heap.size ≤ x) w1 d L := (h.r.wider (Y := fun x => x < V.heap.size ∨ w1.heap.size ≤ x) (fun x _ hx => .inl hx)).below hb1
  refine (pAdd_of p A1 k C1 hp1 hD1 hk hf (fun x hx => .inr hx)).mono ?_
  rintro e w2 ⟨rfl, h2, o2⟩
  have hB2 : B2 w w2 b d (addL L p) L := hB.setP (h2.wider (fun _ _ _ => trivial)) o2
  have hr2 : PD (fun x => x < V.heap.size ∨ w1.heap.size ≤ x) w2 d L := by
    refine hr1.out o2 (fun c cur t hc ht e => ?_)
    obtain ⟨_, cs, vs, k2, _⟩ := hB.p
    have e' : c = b := e
    subst e'
    have e1 : w1.heap[c]? = some (.cells cs.toArray 49 (0, 0)) := k2
    rw [hc] at e1
    simp only [Option.some.injEq, Obj.cells.injEq] at e1
    obtain ⟨_, e2, _⟩ := e1
    rcases ht with ⟨ht, _⟩ | ht | ht
    · exact absurd (e2.symm.trans ht) (by decide)
    · exact absurd (e2.symm.trans ht) (by decide)
    · exact absurd (e2.symm.trans ht) (by decide)
  refine ⟨_, rfl, hB2.bel, ?_⟩
  refine (dpAdd_of p A k C hr2 (hD.below hB2.bel) hk hf (fun x hx => .inr (by have := o2.size; omega))).mono ?_
  rintro e w3 ⟨rfl, h3, o3⟩
  have hB3 : B2 w w3 b d (addL L p) (addL L p) := hB2.setR (h3.wider (fun _ _ _ => trivial)) o3
  have hp3 : PP (fun x => x < V.heap.size ∨ w1.heap.size ≤ x) w3 b (addL L p) := by
    refine h2.out o3 (fun e => ?_) (fun c cur _ hc e => ?_)
    · rcases e with e | ⟨_, cur, hc⟩
      · exact hB2.bd e
      · exact no_pipe hB2.p hc rfl
    · rcases e with e | ⟨_, cur', hc'⟩
      · obtain ⟨_, v, us, k2, _⟩ := hB2.r
        exact blk_type k2 hc dpipe_not_u8 e
      · rw [hc] at hc'
        simp only [Option.some.injEq, Obj.cells.injEq] at hc'
        exact absurd hc'.2.1 (by decide)
  refine ⟨_, rfl, ⟨hp3, h3, hB3.bel, hB3.hb, hB3.hd⟩, fun g n ho => ?_⟩
  obtain ⟨cs, hc⟩ := ho.blk
  have e1 : w1.heap[g]? = some (.cells cs.toArray 5 (0, 0)) := hc
  have q2 : OwnB w2 g n := ho.out o2 (fun e => by
    obtain ⟨_, cs', vs, k2, _⟩ := hB.p
    exact blk_type k2 e1 pipe_not_u8 e)
  obtain ⟨cs2, hc2⟩ := q2.blk
  have e2 : w2.heap[g]? = some (.cells cs2.toArray 5 (0, 0)) := hc2
  refine q2.out o3 (fun e => ?_)
  rcases e with e | ⟨_, cur', hc'⟩
  · obtain ⟨_, v, us, k2, _⟩ := hB2.r
    exact blk_type k2 e2 dpipe_not_u8 e
  · rw [e2] at hc'
    simp only [Option.some.injEq, Obj.cells.injEq] at hc'
    exact absurd hc'.2.1 (by decide)
end
/-- A row that All told, of which the places from i on stand yet. -/
structure AllW (V wr : World) (g n : Nat) (vs : List Value) (i : Nat) : Prop where
  row : ∃ cs, Blk wr g cs 34 ∧ n * 6 ≤ cs.length ∧ ∀ j v, i ≤ j → vs[j]? = some v → cs[j * 6 + 5]? = some v
  hi : V.heap.size ≤ g
  ln : vs.length = n
  dat : ∀ (j : Nat) (v : Value), vs[j]? = some v → ∃ A k C, v = .slice A k C ∧ k ≤ 100 ∧ (k ≠ 0 → ∃ q, A = some ⟨q, 0, none⟩ ∧ V.heap.size ≤ q ∧ OwnB wr q k)
  bel : Below V.heap.size V wr
section
variable {V wr : World} {g n i : Nat} {vs : List Value}
theorem AllW.byte {q m k : Nat} {y : Int} (h : AllW V wr g n vs i) (hq : OwnB wr q m) (hqV : V.heap.size ≤ q) : AllW V (wr.setCell ⟨q, k, none⟩ (.int .u8 y)) g n vs i := by
  obtain ⟨⟨cs, h1, h2, h3⟩, h4, h5, h6, h7⟩ := h
  obtain ⟨cq, hcq⟩ := hq.blk
  have hne : g ≠ q := by
    rintro rfl
    have e1 : wr.heap[g]? = some (.cells cs.toArray 34 (0, 0)) := h1
    have e2 : wr.heap[g]? = some (.cells cq.toArray 5 (0, 0)) := hcq
    rw [e1] at e2
    simp only [Option.some.injEq, Obj.cells.injEq] at e2
    exact absurd e2.2.1 (by decide)
  refine ⟨⟨cs, h1.set_other (a := ⟨q, k, none⟩) hne _, h2, h3⟩, h4, h5, fun j v hv => ?_, h7.setCell (p := ⟨q, k, none⟩) hqV _⟩
  obtain ⟨A, k', C, e, hk, hd⟩ := h6 j v hv
  exact ⟨A, k', C, e, hk, fun hn => by obtain ⟨q', e', hV, ho⟩ := hd hn; exact ⟨q', e', hV, ho.set q k y⟩⟩
theorem AllW.zero (h : AllW V wr g n vs i) (hi : i < n) : wr.there g (i * 6) 6 ∧ AllW V (wr.setCells g (i * 6) (rqL rq0 (.slice none 0 0))) g n vs (i + 1) := by
  obtain ⟨⟨cs, h1, h2, h3⟩, h4, h5, h6, h7⟩ := h
  refine ⟨h1.there _ _ (by omega), ⟨_, h1.setCells _ _ _ _ (by rw [rqL_length]; omega), by rw [length_splice _ _ _ (by rw [rqL_length]; omega)]; exact h2, fun j v hj hv => ?_⟩, h4, h5, fun j v hv => ?_, below_setCells h4 _ _ _ h7⟩
  · have hjl := (List.getElem?_eq_some_iff.1 hv).1
    rw [splice_hi (by rw [rqL_length]; omega) (by rw [rqL_length]; omega)]
    exact h3 j v (by omega) hv
  · obtain ⟨A, k', C, e, hk, hd⟩ := h6 j v hv
    refine ⟨A, k', C, e, hk, fun hn => ?_⟩
    obtain ⟨q', e', hV, ho⟩ := hd hn
    refine ⟨q', e', hV, ho.out (out_setCells (fun x => x = g) rfl _ _ _ (Out.refl _ _)) (fun e => ?_)⟩
    obtain ⟨cq, hcq⟩ := ho.blk
    have e1 : wr.heap[g]? = some (.cells cs.toArray 34 (0, 0)) := h1
    have e2 : wr.heap[g]? = some (.cells cq.toArray 5 (0, 0)) := by rw [← e]; exact hcq
    rw [e1] at e2
    simp only [Option.some.injEq, Obj.cells.injEq] at e2
    exact absurd e2.2.1 (by decide)
theorem AllW.at (h : AllW V wr g n vs i) (hi : i < n) : ∃ A k C, wr.cell? ⟨g, i * 6 + 5, none⟩ = some (.slice A k C) ∧ vs[i]? = some (.slice A k C) ∧ k ≤ 100 ∧ (k ≠ 0 → ∃ q, A = some ⟨q, 0, none⟩ ∧ V.heap.size ≤ q ∧ OwnB wr q k) := by
  obtain ⟨⟨cs, h1, h2, h3⟩, h4, h5, h6, h7⟩ := h
  obtain ⟨v, hv⟩ : ∃ v, vs[i]? = some v := ⟨vs[i]'(by rw [h5]; exact hi), by simp⟩
  obtain ⟨A, k, C, rfl, hk, hd⟩ := h6 i v hv
  exact ⟨A, k, C, by rw [h1.cell]; exact h3 i _ (Nat.le_refl _) hv, hv, hk, hd⟩
end
/-- Bytes of the call's own may be written. -/
theorem bk_own {X : Nat → Prop} {w : World} {A : Option Addr} {k C : Nat} {D : List Int} (h : BkAt X w (.slice A k C) D) (hk : k ≠ 0) : ∃ q, A = some ⟨q, 0, none⟩ ∧ X q ∧ OwnB w q k := by
  obtain ⟨h1, h2, h3, h4⟩ := h
  rcases h1.2 with ⟨hv, h0⟩ | ⟨g', cap, cur, hv, hB, hh, hnc, _⟩
  · simp only [Value.slice.injEq] at hv; exact absurd hv.2.1 hk
  · simp only [Value.slice.injEq] at hv
    obtain ⟨rfl, rfl, _⟩ := hv
    refine ⟨g', rfl, h2 g' rfl, cur.toList, by unfold Blk; simpa using hh, fun j hj => ?_⟩
    have hdk : D[j]? = some D[j] := by simp
    have := h1.cells (g := g') rfl j (.int .u8 D[j]) (by simp [u8s])
    rw [Addr.add_mid, Nat.zero_add, cell_of_row w g' j _ _ _ hh] at this
    exact ⟨D[j], by simpa using this⟩
theorem Gr.allW {V w1 : World} {A : Option Addr} {C : Nat} {L : List Pq} (h : Gr (fun x => V.heap.size ≤ x) V.heap.size V w1 A C L) (hn : L.length ≠ 0) : ∃ g vs, A = some ⟨g, 0, none⟩ ∧ AllW V w1 g L.length vs 0 := by
  obtain ⟨us, h1, h2⟩ := h.ow
  rcases h1.2 with ⟨hv, h0⟩ | ⟨g', cap, cur, hv, hB, hh, hnc, hcm, hsz, ht⟩
  · exact absurd h0 hn
  · simp only [Value.slice.injEq] at hv
    obtain ⟨rfl, _, rfl⟩ := hv
    refine ⟨g', us, rfl, ⟨cur.toList, by unfold Blk; simpa using hh, Nat.le_trans (Nat.mul_le_mul_right 6 hnc) (Nat.le_of_eq (show C * 6 = cur.toList.length by simpa using hsz.symm)), fun j v _ hv => ?_⟩, h.hi g' rfl, h2.1, fun j v hv => ?_, h.bel⟩
    · have hj : j < L.length := by rw [← h2.1]; exact (List.getElem?_eq_some_iff.1 hv).1
      have := h1.cells (g := g') rfl (j * 6 + 5) v (by rw [rqC_get L us j L[j] v 5 (by simp) hv (by decide)]; rfl)
      rw [Addr.add_mid, Nat.zero_add, cell_of_row w1 g' _ _ _ _ hh] at this
      simpa using this
    · have hj : j < L.length := by rw [← h2.1]; exact (List.getElem?_eq_some_iff.1 hv).1
      have hq := h2.2 j L[j] v (by simp) hv
      obtain ⟨A', C', rfl, _⟩ := hq.form
      exact ⟨A', _, C', rfl, hq.2.1, fun hn => by obtain ⟨q, e, hx, ho⟩ := bk_own hq.1 hn; exact ⟨q, e, hx, ho⟩⟩
end Go.Proofs.Ythmhphjblglcoaa
