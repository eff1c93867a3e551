/- The pipe's calls as the laws use them: all from block b on, the world as it was below. -/
import Derived.Test.YthmhphjblglcoaaPiKn
namespace Go.Proofs.Ythmhphjblglcoaa
open Go.RowKit
set_option linter.unusedVariables false
set_option maxRecDepth 4000
theorem QD.din {X : Nat → Prop} {w : World} {p : Pq} {A : Option Addr} {n C : Nat} (h : QD X w p (.slice A n C)) : n = p.2.length ∧ DIn w A n C p.2 := by
  obtain ⟨A1, C1, e1, hb1, hn1⟩ := h.form
  cases e1
  refine ⟨rfl, hb1, ?_, hn1⟩
  obtain ⟨h4, _⟩ := h.1
  rcases h4.2 with ⟨hv, h0⟩ | ⟨g', cap', cur', hv, hB, hh, hnc, _⟩
  · rw [h0]; exact Nat.zero_le _
  · simp only [Value.slice.injEq] at hv; rw [hv.2.2]; exact hnc
section
variable {w V : World} {b : Nat} {l : List Pq}
theorem pNew_b (hv : Below w.heap.size w V) : Calls Try.prog 9 #[] V fun e w' => ∃ b, e = .returned (.pointer (some ⟨b, 0, none⟩)) ∧ w.heap.size ≤ b ∧ PP All w' b [] ∧ Below w.heap.size w w' := by
  refine (pNew_of All V).mono ?_
  rintro e w' ⟨rfl, h1, h2⟩
  exact ⟨_, rfl, hv.size, h1, hv.trans (h2.mono hv.size)⟩
theorem pAdd_b (p : Pq) (A : Option Addr) (k C : Nat) (hb : w.heap.size ≤ b) (hp : PP All V b l) (hv : Below w.heap.size w V) (hD : DIn V A k C p.2) (hk : k ≤ 100) (hf : p.1.Fits) :
    Calls Try.prog 13 #[.pointer (some ⟨b, 0, none⟩), .agg #[.int .u16 p.1.fl, .int .u16 p.1.kd, .int .u64 p.1.ck, .int .u64 p.1.ofs, .int .u32 p.1.ln, .slice A k C]] V fun e w' => e = .returned (.bool (decide (l.length < 16))) ∧ PP All w' b (addL l p) ∧ Below w.heap.size w w' := by
  refine (pAdd_of p A k C hp hD hk hf (fun _ _ => trivial)).mono ?_
  rintro e w' ⟨rfl, h1, h2⟩
  exact ⟨rfl, h1, out_below hv hb h2 hv.size⟩
theorem pTake_b (k : Nat) (p : Pq) (hb : w.heap.size ≤ b) (hp : PP All V b l) (hv : Below w.heap.size w V) (hl : l[k]? = some p) :
    Calls Try.prog 15 #[.pointer (some ⟨b, 0, none⟩), .int .i64 (k : Int)] V fun e w' => ∃ A C, e = .returned (.tuple #[.agg #[.int .u16 p.1.fl, .int .u16 p.1.kd, .int .u64 p.1.ck, .int .u64 p.1.ofs, .int .u32 p.1.ln, .slice A p.2.length C], .bool true]) ∧ DIn w' A p.2.length C p.2 ∧ PP All w' b (l.eraseIdx k) ∧ Below w.heap.size w w' := by
  refine (pTake_one p hp hl).mono ?_
  rintro e w' ⟨A, C, rfl, h0, h1, h2⟩
  exact ⟨A, C, rfl, h0.din.2, h1, out_below hv hb h2 hv.size⟩
theorem pTake_b0 (k : Int) (hb : w.heap.size ≤ b) (hp : PP All V b l) (hv : Below w.heap.size w V) (hk : ¬ (0 ≤ k ∧ k < l.length)) :
    Calls Try.prog 15 #[.pointer (some ⟨b, 0, none⟩), .int .i64 k] V fun e w' => e = .returned (.tuple #[.agg #[.int .u16 0, .int .u16 0, .int .u64 0, .int .u64 0, .int .u32 0, .slice none 0 0], .bool false]) ∧ PP All w' b l ∧ Below w.heap.size w w' := by
  refine (pTake_none k hp hk).mono ?_
  rintro e w' ⟨rfl, h2⟩
  exact ⟨rfl, hp.below h2, hv.trans (h2.mono hv.size)⟩
theorem known_b (hv : Below w.heap.size w V) : Calls Try.prog 8 #[] V fun e w' => e = .returned (.bool true) ∧ Below w.heap.size w w' := by
  refine (known_any V).mono ?_
  rintro e w' ⟨rfl, h2⟩
  exact ⟨rfl, hv.trans (h2.mono hv.size)⟩
theorem same_b (r : Rq) (A : Option Addr) (k C : Nat) (A2 : Option Addr) (k2 C2 : Nat) (D : List Int) (hv : Below w.heap.size w V) (hx : BIn V A k D) (hy : BIn V A2 k2 D) :
    Calls Try.prog 17 #[.agg #[.int .u16 r.fl, .int .u16 r.kd, .int .u64 r.ck, .int .u64 r.ofs, .int .u32 r.ln, .slice A k C], .agg #[.int .u16 r.fl, .int .u16 r.kd, .int .u64 r.ck, .int .u64 r.ofs, .int .u32 r.ln, .slice A2 k2 C2]] V fun e w' => e = .returned (.bool true) ∧ Below V.heap.size V w' ∧ Below w.heap.size w w' := by
  refine (same_of r A k C A2 k2 C2 D V hx hy).mono ?_
  rintro e w' ⟨rfl, h2⟩
  exact ⟨rfl, h2, hv.trans (h2.mono hv.size)⟩
end
theorem pLen_b {V : World} {b : Nat} {l : List Pq} (L : Int) (hL : (l.length : Int) = L) (hp : PP All V b l) : Calls Try.prog 18 #[.pointer (some ⟨b, 0, none⟩)] V fun e w' => e = .returned (.int .i64 L) ∧ w' = V := by
  have c := hp.len
  rw [hL] at c
  go_enter Try.func18, Try.ntmps18
  go_wp2
  go_ret
  exact ⟨rfl, rfl⟩
theorem pFull_b {V : World} {b : Nat} {l : List Pq} (B : Bool) (hB : decide (l.length = 16) = B) (hp : PP All V b l) : Calls Try.prog 20 #[.pointer (some ⟨b, 0, none⟩)] V fun e w' => e = .returned (.bool B) ∧ w' = V := by
  subst hB
  exact pFull_of hp
/-- One is taken out, and held against what it should be. -/
theorem take_same {w V : World} {b : Nat} {l : List Pq} {g o : Nat} (K : Nat) (p : Pq) (A : Option Addr) (k C : Nat) (hb : w.heap.size ≤ b) (hp : PP All V b l) (hv : Below w.heap.size w V) (hl : l[K]? = some p)
    (hcw : ∀ (j : Nat) (v : Value), (rqL p.1 (.slice A k C))[j]? = some v → w.cell? ⟨g, o + j, none⟩ = some v) (hgb : g < w.heap.size) (hDw : DIn w A k C p.2) :
    Calls Try.prog 15 #[.pointer (some ⟨b, 0, none⟩), .int .i64 (K : Int)] V fun e w2 => ∃ A2 C2, e = .returned (.tuple #[.agg #[.int .u16 p.1.fl, .int .u16 p.1.kd, .int .u64 p.1.ck, .int .u64 p.1.ofs, .int .u32 p.1.ln, .slice A2 p.2.length C2], .bool true]) ∧ ∀ V2 q2, V2 = (w2.alloc (.cells #[.int .u16 p.1.fl, .int .u16 p.1.kd, .int .u64 p.1.ck, .int .u64 p.1.ofs, .int .u32 p.1.ln, .slice A2 p.2.length C2] 34)) → q2 = w2.heap.size → ∀ X, Below V2.heap.size V2 X → X.cell? ⟨q2, 0, none⟩ = some (.int .u16 p.1.fl) ∧ X.cell? ⟨q2, 1, none⟩ = some (.int .u16 p.1.kd) ∧ X.cell? ⟨q2, 2, none⟩ = some (.int .u64 p.1.ck) ∧ X.cell? ⟨q2, 3, none⟩ = some (.int .u64 p.1.ofs) ∧ X.cell? ⟨q2, 4, none⟩ = some (.int .u32 p.1.ln) ∧ X.cell? ⟨q2, 5, none⟩ = some (.slice A2 p.2.length C2) ∧ X.cell? ⟨g, o, none⟩ = some (.int .u16 p.1.fl) ∧ X.cell? ⟨g, o + 1, none⟩ = some (.int .u16 p.1.kd) ∧ X.cell? ⟨g, o + 2, none⟩ = some (.int .u64 p.1.ck) ∧ X.cell? ⟨g, o + 3, none⟩ = some (.int .u64 p.1.ofs) ∧ X.cell? ⟨g, o + 4, none⟩ = some (.int .u32 p.1.ln) ∧ X.cell? ⟨g, o + 5, none⟩ = some (.slice A k C) ∧
      Calls Try.prog 17 #[.agg #[.int .u16 p.1.fl, .int .u16 p.1.kd, .int .u64 p.1.ck, .int .u64 p.1.ofs, .int .u32 p.1.ln, .slice A2 p.2.length C2], .agg #[.int .u16 p.1.fl, .int .u16 p.1.kd, .int .u64 p.1.ck, .int .u64 p.1.ofs, .int .u32 p.1.ln, .slice A k C]] X fun e w3 => e = .returned (.bool true) ∧ PP All w3 b (l.eraseIdx K) ∧ Below w.heap.size w w3 ∧ Below V2.heap.size V2 w3 := by
  refine (pTake_b K p hb hp hv hl).mono ?_
  rintro e w2 ⟨A2, C2, rfl, h1, h2, h3⟩
  refine ⟨A2, C2, rfl, ?_⟩
  rintro V2 q2 rfl rfl X hX
  have h4 : Below w.heap.size w (w2.alloc (.cells #[.int .u16 p.1.fl, .int .u16 p.1.kd, .int .u64 p.1.ck, .int .u64 p.1.ofs, .int .u32 p.1.ln, .slice A2 p.2.length C2] 34)) := h3.alloc h3.size _
  have h5 : Below w2.heap.size w2 (w2.alloc (.cells #[.int .u16 p.1.fl, .int .u16 p.1.kd, .int .u64 p.1.ck, .int .u64 p.1.ofs, .int .u32 p.1.ln, .slice A2 p.2.length C2] 34)) := (Below.refl _ _).alloc (Nat.le_refl _) _
  have hbk : Blk (w2.alloc (.cells #[.int .u16 p.1.fl, .int .u16 p.1.kd, .int .u64 p.1.ck, .int .u64 p.1.ofs, .int .u32 p.1.ln, .slice A2 p.2.length C2] 34)) w2.heap.size (rqL p.1 (.slice A2 p.2.length C2)) 34 := Blk.new _ _ _
  have hbX := hbk.below hX hbk.lt
  have hwX : Below w.heap.size w X := h4.trans (hX.mono h4.size)
  have hc4 : ∀ (j : Nat) (v : Value), (rqL p.1 (.slice A k C))[j]? = some v → X.cell? ⟨g, o + j, none⟩ = some v := fun j v hj => by
    rw [hwX.cell (by exact hgb)]; exact hcw j v hj
  refine ⟨hbX.cell 0, hbX.cell 1, hbX.cell 2, hbX.cell 3, hbX.cell 4, hbX.cell 5, hc4 0 _ rfl, hc4 1 _ rfl, hc4 2 _ rfl, hc4 3 _ rfl, hc4 4 _ rfl, hc4 5 _ rfl, ?_⟩
  refine (same_b p.1 A2 p.2.length C2 A k C p.2 hwX ((h1.below h5).below hX).1 (hDw.below hwX).1).mono ?_
  rintro e w3 ⟨rfl, h6, h7⟩
  exact ⟨rfl, ((h2.below h5).below hX).below h6, h7, hX.trans (h6.mono hX.size)⟩
end Go.Proofs.Ythmhphjblglcoaa
