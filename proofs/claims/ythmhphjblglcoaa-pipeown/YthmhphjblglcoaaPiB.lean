/- Both pipes side by side, all from b and d on, the world as it was below. -/
import Derived.Test.YthmhphjblglcoaaPiOn
namespace Go.Proofs.Ythmhphjblglcoaa
open Go.RowKit
set_option linter.unusedVariables false
set_option maxRecDepth 4000
/-- What Take tells. -/
def takeO (L : List Pq) (k : Int) : Pq × Bool := if 0 ≤ k ∧ k < L.length then (L.getD k.toNat (rq0, []), true) else ((rq0, []), false)
structure B2 (w V : World) (b d : Nat) (L M : List Pq) : Prop where
  p : PP All V b L
  r : PD All V d M
  bel : Below w.heap.size w V
  hb : w.heap.size ≤ b
  hd : w.heap.size ≤ d
section
variable {w V V' : World} {b d : Nat} {L M L' M' : List Pq}
theorem B2.below (h : B2 w V b d L M) (hb : Below V.heap.size V V') : B2 w V' b d L M := ⟨h.p.below hb, h.r.below hb, h.bel.trans (hb.mono h.bel.size), h.hb, h.hd⟩
theorem B2.setP (h : B2 w V b d L M) (hp : PP All V' b L') (ho : Out (fun k => k = b) V V') : B2 w V' b d L' M := by
  refine ⟨hp, h.r.out ho (fun c cur t hc ht e => ?_), out_below h.bel h.hb ho h.bel.size, h.hb, h.hd⟩
  obtain ⟨_, cs, vs, h2, _⟩ := h.p
  subst e
  have e1 : V.heap[c]? = some (.cells cs.toArray 49 (0, 0)) := h2
  rw [hc] at e1
  simp only [Option.some.injEq, Obj.cells.injEq] at e1
  obtain ⟨_, e2, _⟩ := e1
  rcases ht with ⟨ht, _⟩ | ht | ht
  · exact absurd (e2.symm.trans ht) (by decide)
  · exact absurd (e2.symm.trans ht) (by decide)
  · exact absurd (e2.symm.trans ht) (by decide)
theorem B2.bd (h : B2 w V b d L M) : b ≠ d := by
  rintro rfl
  obtain ⟨_, cs, vs, h2, _⟩ := h.p
  obtain ⟨_, v, us, k2, _⟩ := h.r
  have e1 : V.heap[b]? = some (.cells cs.toArray 49 (0, 0)) := h2
  have e2 : V.heap[b]? = some (.cells #[v] 51 (0, 0)) := k2
  rw [e1] at e2
  simp only [Option.some.injEq, Obj.cells.injEq] at e2
  exact absurd e2.2.1 (by decide)
theorem B2.setR (h : B2 w V b d L M) (hr : PD All V' d M') (ho : Out (DpO V d) V V') : B2 w V' b d L M' := by
  refine ⟨h.p.out ho (fun e => ?_) (fun c cur _ hc e => ?_), hr, h.bel.trans (ho.below h.bel.size (fun j e => ?_)), h.hb, h.hd⟩
  rotate_left 2
  · have := h.hd
    rcases e with e | ⟨e, _⟩ <;> omega
  · rcases e with e | ⟨_, cur, hc⟩
    · exact h.bd e
    · exact no_pipe h.p hc rfl
  · rcases e with e | ⟨_, cur', hc'⟩
    · obtain ⟨_, v, us, k2, _⟩ := h.r
      exact blk_type k2 hc dpipe_not_u8 e
    · rw [hc] at hc'
      simp only [Option.some.injEq, Obj.cells.injEq] at hc'
      exact absurd hc'.2.1 (by decide)
theorem bo_pAdd (p : Pq) (A : Option Addr) (k C : Nat) (h : B2 w V b d L M) (hD : DIn w A k C p.2) (hk : k ≤ 100) (hf : p.1.Fits) :
    Calls Try.prog 13 #[.pointer (some ⟨b, 0, none⟩), .agg #[.int .u16 p.1.fl, .int .u16 p.1.kd, .int .u64 p.1.ck, .int .u64 p.1.ofs, .int .u32 p.1.ln, .slice A k C]] V fun e w' => e = .returned (.bool (decide (L.length < 16))) ∧ B2 w w' b d (addL L p) M := by
  refine (pAdd_of p A k C h.p (hD.below h.bel) hk hf (fun _ _ => trivial)).mono ?_
  rintro e w' ⟨rfl, h1, h2⟩
  exact ⟨rfl, h.setP h1 h2⟩
theorem bo_pClear (h : B2 w V b d L M) : Calls Try.prog 11 #[.pointer (some ⟨b, 0, none⟩)] V fun e w' => e = .returned (.tuple #[]) ∧ B2 w w' b d [] M := by
  refine (pClear_of h.p).mono ?_
  rintro e w' ⟨rfl, h1, h2⟩
  exact ⟨rfl, h.setP h1 h2⟩
theorem bo_dpAdd (p : Pq) (A : Option Addr) (k C : Nat) (h : B2 w V b d L M) (hD : DIn w A k C p.2) (hk : k ≤ 100) (hf : p.1.Fits) :
    Calls Try.prog 14 #[.pointer (some ⟨d, 0, none⟩), .agg #[.int .u16 p.1.fl, .int .u16 p.1.kd, .int .u64 p.1.ck, .int .u64 p.1.ofs, .int .u32 p.1.ln, .slice A k C]] V fun e w' => e = .returned (.bool (decide (M.length < 16))) ∧ B2 w w' b d L (addL M p) := by
  refine (dpAdd_of p A k C h.r (hD.below h.bel) hk hf (fun _ _ => trivial)).mono ?_
  rintro e w' ⟨rfl, h1, h2⟩
  exact ⟨rfl, h.setR h1 h2⟩
theorem bo_dpClear (h : B2 w V b d L M) : Calls Try.prog 12 #[.pointer (some ⟨d, 0, none⟩)] V fun e w' => e = .returned (.tuple #[]) ∧ B2 w w' b d L [] := by
  refine (dpClear_of h.r).mono ?_
  rintro e w' ⟨rfl, h1, h2⟩
  refine ⟨rfl, ?_⟩
  refine ⟨h.p.out h2 (fun e => h.bd e) (fun c cur _ hc e => ?_), h1, out_below h.bel h.hd h2 h.bel.size, h.hb, h.hd⟩
  obtain ⟨_, v, us, k2, _⟩ := h.r
  exact blk_type k2 hc dpipe_not_u8 e
theorem bo_pTake (k : Int) (h : B2 w V b d L M) (hk : I64 k) :
    Calls Try.prog 15 #[.pointer (some ⟨b, 0, none⟩), .int .i64 k] V fun e w' => ∃ A C, e = .returned (.tuple #[.agg #[.int .u16 (takeO L k).1.1.fl, .int .u16 (takeO L k).1.1.kd, .int .u64 (takeO L k).1.1.ck, .int .u64 (takeO L k).1.1.ofs, .int .u32 (takeO L k).1.1.ln, .slice A (takeO L k).1.2.length C], .bool (takeO L k).2]) ∧ DIn w' A (takeO L k).1.2.length C (takeO L k).1.2 ∧ B2 w w' b d (takeL L k) M := by
  by_cases hc : 0 ≤ k ∧ k < L.length
  · obtain ⟨κ, rfl⟩ : ∃ κ : Nat, k = κ := ⟨k.toNat, (Int.toNat_of_nonneg hc.1).symm⟩
    have hκ : κ < L.length := by omega
    have e1 : takeO L (κ : Int) = (L[κ], true) := by unfold takeO; rw [if_pos hc]; simp [hκ]
    have e2 : takeL L (κ : Int) = L.eraseIdx κ := by unfold takeL; rw [if_pos hc]; simp
    rw [e1, e2]
    refine (pTake_one L[κ] h.p (by simp)).mono ?_
    rintro e w' ⟨A, C, rfl, hq, h1, h2⟩
    exact ⟨A, C, rfl, hq.din.2, h.setP h1 h2⟩
  · have e1 : takeO L k = ((rq0, []), false) := by unfold takeO; rw [if_neg hc]
    have e2 : takeL L k = L := by unfold takeL; rw [if_neg hc]
    rw [e1, e2]
    refine (pTake_none k h.p hc).mono ?_
    rintro e w' ⟨rfl, h2⟩
    exact ⟨none, 0, rfl, ⟨bin_none _, Nat.le_refl _, fun _ => ⟨rfl, rfl⟩⟩, h.below h2⟩
theorem bo_dpTake (k : Int) (h : B2 w V b d L M) :
    Calls Try.prog 16 #[.pointer (some ⟨d, 0, none⟩), .int .i64 k] V fun e w' => ∃ A C, e = .returned (.tuple #[.agg #[.int .u16 (takeO M k).1.1.fl, .int .u16 (takeO M k).1.1.kd, .int .u64 (takeO M k).1.1.ck, .int .u64 (takeO M k).1.1.ofs, .int .u32 (takeO M k).1.1.ln, .slice A (takeO M k).1.2.length C], .bool (takeO M k).2]) ∧ DIn w' A (takeO M k).1.2.length C (takeO M k).1.2 ∧ B2 w w' b d L (takeL M k) ∧ Out (fun x => x = d) V w' := by
  by_cases hc : 0 ≤ k ∧ k < M.length
  · obtain ⟨κ, rfl⟩ : ∃ κ : Nat, k = κ := ⟨k.toNat, (Int.toNat_of_nonneg hc.1).symm⟩
    have hκ : κ < M.length := by omega
    have e1 : takeO M (κ : Int) = (M[κ], true) := by unfold takeO; rw [if_pos hc]; simp [hκ]
    have e2 : takeL M (κ : Int) = M.eraseIdx κ := by unfold takeL; rw [if_pos hc]; simp
    rw [e1, e2]
    refine (dpTake_one M[κ] h.r (by simp)).mono ?_
    rintro e w' ⟨A, C, rfl, hq, h1, h2⟩
    refine ⟨A, C, rfl, hq.din.2, ⟨h.p.out h2 (fun e => h.bd e) (fun c cur _ hc e => ?_), h1, out_below h.bel h.hd h2 h.bel.size, h.hb, h.hd⟩, h2⟩
    obtain ⟨_, v, us, k2, _⟩ := h.r
    exact blk_type k2 hc dpipe_not_u8 e
  · have e1 : takeO M k = ((rq0, []), false) := by unfold takeO; rw [if_neg hc]
    have e2 : takeL M k = M := by unfold takeL; rw [if_neg hc]
    rw [e1, e2]
    refine (dpTake_none k h.r hc).mono ?_
    rintro e w' ⟨rfl, h2⟩
    exact ⟨none, 0, rfl, ⟨bin_none _, Nat.le_refl _, fun _ => ⟨rfl, rfl⟩⟩, h.below h2, below_out _ h2⟩
theorem takeL_length (k : Int) : (takeL L k).length ≤ L.length := by
  unfold takeL; split
  · simp [List.length_eraseIdx]; split <;> omega
  · exact Nat.le_refl _
theorem addL_few (p : Pq) (h : L.length ≤ 16) : (addL L p).length ≤ 16 := by
  unfold addL; split
  · exact h
  · simp; omega
theorem bo_pLen (n : Int) (hn : (L.length : Int) = n) (h : B2 w V b d L M) : Calls Try.prog 18 #[.pointer (some ⟨b, 0, none⟩)] V fun e w' => e = .returned (.int .i64 n) ∧ w' = V := pLen_b n hn h.p
theorem bo_dpLen (n : Int) (hn : (M.length : Int) = n) (h : B2 w V b d L M) : Calls Try.prog 19 #[.pointer (some ⟨d, 0, none⟩)] V fun e w' => e = .returned (.int .i64 n) ∧ w' = V := by
  subst hn; exact dpLen_of h.r
theorem bo_pFull (B : Bool) (hB : decide (L.length = 16) = B) (h : B2 w V b d L M) : Calls Try.prog 20 #[.pointer (some ⟨b, 0, none⟩)] V fun e w' => e = .returned (.bool B) ∧ w' = V := pFull_b B hB h.p
theorem bo_dpFull (B : Bool) (hB : decide (M.length = 16) = B) (h : B2 w V b d L M) : Calls Try.prog 21 #[.pointer (some ⟨d, 0, none⟩)] V fun e w' => e = .returned (.bool B) ∧ w' = V := by
  subst hB; exact dpFull_of h.r
theorem bo_all (n : Nat) (hn : L.length = n) (h : B2 w V b d L L) (hl : L.length ≤ 16) : Calls Try.prog 23 #[.pointer (some ⟨b, 0, none⟩)] V fun e w1 => ∃ A C, e = .returned (.slice A n C) ∧
    Calls Try.prog 24 #[.pointer (some ⟨d, 0, none⟩)] w1 fun e w2 => ∃ A2 C2, e = .returned (.slice A2 n C2) ∧
    Calls Try.prog 22 #[.slice A n C, .slice A2 n C2] w2 fun e w3 => e = .returned (.bool true) ∧ B2 w w3 b d L L := by
  subst hn
  refine (pAll_of h.p).mono ?_
  rintro e w1 ⟨A, C, rfl, g1⟩
  have h1 := h.below g1.bel
  refine ⟨A, C, rfl, ?_⟩
  refine (dpAll_of h1.r).mono ?_
  rintro e w2 ⟨A2, C2, rfl, g2⟩
  have h2 := h1.below g2.bel
  refine ⟨A2, C2, rfl, ?_⟩
  refine (sameAll_of A C A2 C2 L.length L w2 (g1.rs.below g2.bel) g2.rs (by omega)).mono ?_
  rintro e w3 ⟨rfl, h3⟩
  exact ⟨rfl, h2.below h3⟩
theorem bo_take (k : Int) (t : Pq × Bool) (ht : t = takeO L k) (hk : I64 k) (h : B2 w V b d L L) :
    Calls Try.prog 15 #[.pointer (some ⟨b, 0, none⟩), .int .i64 k] V fun e w1 => ∃ A C, e = .returned (.tuple #[.agg #[.int .u16 t.1.1.fl, .int .u16 t.1.1.kd, .int .u64 t.1.1.ck, .int .u64 t.1.1.ofs, .int .u32 t.1.1.ln, .slice A t.1.2.length C], .bool t.2]) ∧ ∀ V1 q1, V1 = w1.alloc (.cells #[.int .u16 t.1.1.fl, .int .u16 t.1.1.kd, .int .u64 t.1.1.ck, .int .u64 t.1.1.ofs, .int .u32 t.1.1.ln, .slice A t.1.2.length C] 34) → q1 = w1.heap.size → Below w.heap.size w V1 ∧
      Calls Try.prog 16 #[.pointer (some ⟨d, 0, none⟩), .int .i64 k] V1 fun e w2 => ∃ A2 C2, e = .returned (.tuple #[.agg #[.int .u16 t.1.1.fl, .int .u16 t.1.1.kd, .int .u64 t.1.1.ck, .int .u64 t.1.1.ofs, .int .u32 t.1.1.ln, .slice A2 t.1.2.length C2], .bool t.2]) ∧ ∀ V2 q2, V2 = w2.alloc (.cells #[.int .u16 t.1.1.fl, .int .u16 t.1.1.kd, .int .u64 t.1.1.ck, .int .u64 t.1.1.ofs, .int .u32 t.1.1.ln, .slice A2 t.1.2.length C2] 34) → q2 = w2.heap.size → ∀ X, Below V2.heap.size V2 X →
        X.cell? ⟨q1, 0, none⟩ = some (.int .u16 t.1.1.fl) ∧ X.cell? ⟨q1, 1, none⟩ = some (.int .u16 t.1.1.kd) ∧ X.cell? ⟨q1, 2, none⟩ = some (.int .u64 t.1.1.ck) ∧ X.cell? ⟨q1, 3, none⟩ = some (.int .u64 t.1.1.ofs) ∧ X.cell? ⟨q1, 4, none⟩ = some (.int .u32 t.1.1.ln) ∧ X.cell? ⟨q1, 5, none⟩ = some (.slice A t.1.2.length C) ∧ X.cell? ⟨q2, 0, none⟩ = some (.int .u16 t.1.1.fl) ∧ X.cell? ⟨q2, 1, none⟩ = some (.int .u16 t.1.1.kd) ∧ X.cell? ⟨q2, 2, none⟩ = some (.int .u64 t.1.1.ck) ∧ X.cell? ⟨q2, 3, none⟩ = some (.int .u64 t.1.1.ofs) ∧ X.cell? ⟨q2, 4, none⟩ = some (.int .u32 t.1.1.ln) ∧ X.cell? ⟨q2, 5, none⟩ = some (.slice A2 t.1.2.length C2) ∧
        Calls Try.prog 17 #[.agg #[.int .u16 t.1.1.fl, .int .u16 t.1.1.kd, .int .u64 t.1.1.ck, .int .u64 t.1.1.ofs, .int .u32 t.1.1.ln, .slice A t.1.2.length C], .agg #[.int .u16 t.1.1.fl, .int .u16 t.1.1.kd, .int .u64 t.1.1.ck, .int .u64 t.1.1.ofs, .int .u32 t.1.1.ln, .slice A2 t.1.2.length C2]] X fun e w3 => e = .returned (.bool true) ∧ B2 w w3 b d (takeL L k) (takeL L k) ∧ Below V2.heap.size V2 w3 := by
  subst ht
  refine (bo_pTake k h hk).mono ?_
  rintro e w1 ⟨A, C, rfl, hd1, h1⟩
  refine ⟨A, C, rfl, ?_⟩
  rintro V1 q1 hV1 rfl
  have bk1 : Blk V1 w1.heap.size (rqL (takeO L k).1.1 (.slice A (takeO L k).1.2.length C)) 34 := by rw [hV1]; exact Blk.new _ _ _
  have b1 : Below w1.heap.size w1 V1 := by rw [hV1]; exact (Below.refl _ _).alloc (Nat.le_refl _) _
  have hs1 : V1.heap.size = w1.heap.size + 1 := by rw [hV1]; simp
  have h1' := h1.below b1
  refine ⟨h1'.bel, ?_⟩
  refine (bo_dpTake k h1').mono ?_
  rintro e w2 ⟨A2, C2, rfl, hd2, h2, ho2⟩
  refine ⟨A2, C2, rfl, ?_⟩
  rintro V2 q2 hV2 rfl X hX
  obtain ⟨_, v, us, k2, k3, _⟩ := h1'.r
  obtain ⟨Ar, Cr, rfl⟩ := own_slice k3
  have hdn : DIn w2 A (takeO L k).1.2.length C (takeO L k).1.2 := by
    obtain ⟨⟨d1, d2, d3, d4⟩, d5⟩ := hd1.below b1
    refine ⟨⟨d1, d2, d3, ?_⟩, d5⟩
    rcases d4 with d4 | ⟨y, off, ha, hc⟩
    · exact .inl d4
    · by_cases h0 : (takeO L k).1.2.length = 0
      · exact .inl h0
      · refine .inr ⟨y, off, ha, fun i hi => ho2.cell (hc i hi) (fun e => ?_)⟩
        have e' : y = d := e
        subst e'
        have c1 := hc i hi
        rw [k2.cell] at c1
        have : ([Value.slice Ar (takeL L k).length Cr] : List Value)[off + i]? = some (.int .u8 ((takeO L k).1.2.getD i 0)) → False := fun hh => by
          cases hoi : off + i with
          | zero => rw [hoi] at hh; simp at hh
          | succ z => rw [hoi] at hh; simp at hh
        first | exact this c1 | (cases hoi : off + i with | zero => rw [hoi] at c1; simp at c1 | succ z => rw [hoi] at c1; simp at c1)
  have bk2 : Blk w2 w1.heap.size (rqL (takeO L k).1.1 (.slice A (takeO L k).1.2.length C)) 34 := by
    refine ho2.blk bk1 (fun e => ?_)
    have e' : w1.heap.size = d := e
    have e1 : V1.heap[d]? = some (.cells (rqL (takeO L k).1.1 (.slice A (takeO L k).1.2.length C)).toArray 34 (0, 0)) := by rw [← e']; exact bk1
    have e2 : V1.heap[d]? = some (.cells #[.slice Ar L.length Cr] 51 (0, 0)) := k2
    rw [e1] at e2
    simp only [Option.some.injEq, Obj.cells.injEq] at e2
    exact absurd e2.2.1 (by decide)
  have b2 : Below w2.heap.size w2 V2 := by rw [hV2]; exact (Below.refl _ _).alloc (Nat.le_refl _) _
  have bk3 : Blk V2 w2.heap.size (rqL (takeO L k).1.1 (.slice A2 (takeO L k).1.2.length C2)) 34 := by rw [hV2]; exact Blk.new _ _ _
  have b2X := b2.trans (hX.mono b2.size)
  have c1 := bk2.below b2X bk2.lt
  have c2 := bk3.below hX bk3.lt
  refine ⟨c1.cell 0, c1.cell 1, c1.cell 2, c1.cell 3, c1.cell 4, c1.cell 5, c2.cell 0, c2.cell 1, c2.cell 2, c2.cell 3, c2.cell 4, c2.cell 5, ?_⟩
  refine (same_of (takeO L k).1.1 A _ C A2 _ C2 (takeO L k).1.2 X (hdn.below b2X).1 (hd2.below b2X).1).mono ?_
  rintro e w3 ⟨rfl, h6⟩
  exact ⟨rfl, (h2.below b2X).below h6, hX.trans (h6.mono hX.size)⟩
end
end Go.Proofs.Ythmhphjblglcoaa