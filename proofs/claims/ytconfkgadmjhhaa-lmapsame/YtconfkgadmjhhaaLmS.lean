/- Rows of pairs and of places; what sorting does to one. -/
import Derived.Test.YtconfkgadmjhhaaLmCmp
import Derived.Test.YtconfkgadmjhhaaLmC
import Derived.Laws.MakeOwn
namespace Go.Proofs.Ytconfkgadmjhhaa
open Go.RowKit Go.Sort Go.Lib Go.Shelf
set_option linter.unusedVariables false
set_option maxRecDepth 4000

def prC (q0 q1 : IntKind) (xs : List Pr) : List Value := xs.flatMap (prL q0 q1)
def plC (xs : List Pl) : List Value := xs.flatMap plL
section
variable {q0 q1 : IntKind}
theorem prC_length (xs : List Pr) : (prC q0 q1 xs).length = xs.length * 2 := by
  unfold prC
  induction xs with
  | nil => rfl
  | cons x r ih => rw [List.flatMap_cons, List.length_append, ih, List.length_cons]; simp [prL]; omega
theorem prC_snoc (xs : List Pr) (x : Pr) : prC q0 q1 xs ++ prL q0 q1 x = prC q0 q1 (xs ++ [x]) := by simp [prC]
theorem prC_at : ∀ (xs : List Pr) (i : Nat) (x : Pr) (j : Nat), xs[i]? = some x → j < 2 → (prC q0 q1 xs)[i * 2 + j]? = (prL q0 q1 x)[j]?
  | [], i, x, j, h, _ => by simp at h
  | y :: r, 0, x, j, h, hj => by
    have : y = x := by simpa using h
    subst this
    rw [prC, List.flatMap_cons, Nat.zero_mul, Nat.zero_add, List.getElem?_append_left (by simp [prL]; omega)]
  | y :: r, i + 1, x, j, h, hj => by
    have h' : r[i]? = some x := by simpa using h
    rw [prC, List.flatMap_cons, List.getElem?_append_right (by simp [prL]; omega)]
    have : (i + 1) * 2 + j - (prL q0 q1 y).length = i * 2 + j := by simp [prL]; omega
    rw [this]
    exact prC_at r i x j h' hj
theorem prL_one (x : Pr) : ∀ v ∈ prL q0 q1 x, v.oneCell' = true := by
  intro v hv; simp only [prL, List.mem_cons, List.not_mem_nil, or_false] at hv; rcases hv with rfl | rfl <;> rfl
theorem prC_bang (xs : List Pr) (j : Nat) (h : j < xs.length * 2) : (prC q0 q1 xs)[j]? = some ((prL q0 q1 xs.toArray[j / 2]!)[j % 2]!) := by
  have hi : j / 2 < xs.length := by omega
  have hx : xs[j / 2]? = some xs[j / 2] := List.getElem?_eq_getElem hi
  have := prC_at (q0 := q0) (q1 := q1) xs (j / 2) _ (j % 2) hx (by omega)
  have e : j / 2 * 2 + j % 2 = j := by omega
  rw [e] at this
  rw [this]
  have e2 : xs.toArray[j / 2]! = xs[j / 2] := by simp [hi]
  rw [e2]
  have h2 : j % 2 = 0 ∨ j % 2 = 1 := by omega
  rcases h2 with h2 | h2 <;> rw [h2] <;> rfl
theorem holdsK_of {w : World} {g : Nat} {cur : Array Value} {e : TypeId} {xs : List Pr} (hb : w.heap[g]? = some (.cells cur e (0, 0))) (ht : cur.toList.take (xs.length * 2) = prC q0 q1 xs) : HoldsK (prL q0 q1) 2 w g 0 xs.toArray := by
  intro j hj
  have hj' : j < xs.length * 2 := by simpa using hj
  refine ⟨?_, by simp [World.frozen?, hb]⟩
  have h1 : (cur.toList.take (xs.length * 2))[j]? = (prC q0 q1 xs)[j]? := by rw [ht]
  rw [List.getElem?_take_of_lt hj', prC_bang xs j hj'] at h1
  rw [get_flatK _ _ _ _ (by simpa using hj')]
  simp only [World.cell?, hb, Nat.zero_add]
  simp only [Option.isSome_none, Bool.false_eq_true, if_false]
  rw [← Array.getElem?_toList, h1]
  rfl
theorem heap_sortedK {w : World} {g n : Nat} {os : Array Obj} {cur : Array Value} {e : TypeId} {fr : Nat × Nat} (d : Array Pr) (hb : w.heap[g]? = some (.cells cur e fr)) :
    (sortWorldK (prL q0 q1) 2 w g 0 n d os).heap[g]? = some (.cells (putCells id 0 (flatK (prL q0 q1) 2 d) cur) e fr) := by
  have hg : g < w.heap.size := (Array.getElem?_eq_some_iff.1 hb).1
  unfold sortWorldK putRowK
  rw [heap_grow_old _ _ (by simpa using hg)]
  simp [putRow, mapBlock, Sort.ahead, Array.getElem?_modify, hb, onCells]
theorem grownBy_sortedK {w : World} {g n : Nat} {os : Array Obj} (d : Array Pr) : w.grownBy (sortWorldK (prL q0 q1) 2 w g 0 n d os) (some g) := by
  unfold sortWorldK putRowK
  refine ⟨rfl, rfl, rfl, by simp, fun k hk hne => ?_⟩
  rw [heap_grow_old _ _ (by simpa using hk)]
  have : g ≠ k := fun e => hne (by rw [e])
  simp [putRow, mapBlock, Sort.ahead, Array.getElem?_modify, this]
theorem take_putCellsK (cur : Array Value) (ts : List Pr) (h : ts.length * 2 ≤ cur.size) : (putCells id 0 (flatK (prL q0 q1) 2 ts.toArray) cur).toList.take (ts.length * 2) = prC q0 q1 ts := by
  apply List.ext_getElem?
  intro j
  by_cases hj : j < ts.length * 2
  · rw [List.getElem?_take_of_lt hj, Array.getElem?_toList, prC_bang ts j hj]
    have hf := get_flatK (prL q0 q1) 2 ts.toArray j (by simpa using hj)
    have hc : j < cur.size := by omega
    unfold putCells
    rw [Array.getElem?_mapIdx, Array.getElem?_eq_getElem hc]
    simp only [Option.map_some, Nat.zero_le, true_and, Nat.zero_add, Nat.sub_zero, id]
    rw [if_pos (by simpa using hj), hf]
  · rw [List.getElem?_take_eq_none (by omega), List.getElem?_eq_none (by rw [prC_length]; omega)]
theorem sort_own {w : World} {base g cap n : Nat} {e : TypeId} {os : Array Obj} {xs ts : List Pr} (h : w.ownsRow base e 2 (.slice (some ⟨g, 0, none⟩) xs.length cap) xs.length (prC q0 q1 xs)) (hl : ts.length = xs.length) :
    (sortWorldK (prL q0 q1) 2 w g 0 n ts.toArray os).ownsRow base e 2 (.slice (some ⟨g, 0, none⟩) xs.length cap) xs.length (prC q0 q1 ts) := by
  rcases h.2 with ⟨hv, _⟩ | ⟨g', cap', cur, hv, h1, h2, h3, h4, h5, h6⟩
  · cases hv
  · cases hv
    refine ⟨by rw [prC_length, hl], .inr ⟨g, cap, _, rfl, h1, heap_sortedK _ h2, h3, h4, by simp [putCells, h5], ?_⟩⟩
    rw [← hl]
    exact take_putCellsK cur ts (by rw [h5, hl]; omega)
theorem own_holds {w : World} {base g cap : Nat} {e : TypeId} {xs : List Pr} (h : w.ownsRow base e 2 (.slice (some ⟨g, 0, none⟩) xs.length cap) xs.length (prC q0 q1 xs)) : HoldsK (prL q0 q1) 2 w g 0 xs.toArray ∧ g < w.heap.size := by
  rcases h.2 with ⟨hv, _⟩ | ⟨g', cap', cur, hv, h1, h2, h3, h4, h5, h6⟩
  · cases hv
  · cases hv
    exact ⟨holdsK_of h2 h6, (Array.getElem?_eq_some_iff.1 h2).1⟩
end
/-- A sorted row is the one that rises. -/
theorem sorted_is {xs ys : List Pr} {d' : Array Pr} (hp : PermIn 0 xs.toArray.size xs.toArray d') (hs : SortedIn (ltOf cfP) 0 xs.toArray.size d') (hm : xs.Perm ys) (hu : ys.Pairwise (fun x y => ltP x y = true)) : d' = ys.toArray := by
  obtain ⟨h1, _, h3⟩ := hp
  have hsz : d'.size = xs.length := by simpa using h1
  have e1 : (d'.extract 0 xs.toArray.size).toList = d'.toList := by simp [← hsz]
  have e2 : (xs.toArray.extract 0 xs.toArray.size).toList = xs := by simp
  rw [e1, e2] at h3
  have hup : d'.toList.Pairwise (fun x y => ltP y x = false) := by
    rw [List.pairwise_iff_getElem]
    intro i j hi hj hij
    have := hs i j (Nat.zero_le _) hij (by simpa [hsz] using hj)
    rw [cfP_lt] at this
    have hi' : i < d'.size := by simpa using hi
    have hj' : j < d'.size := by simpa using hj
    rw [getElem!_pos d' i hi', getElem!_pos d' j hj'] at this
    simpa using this
  have : d'.toList = ys := by
    refine List.Perm.eq_of_pairwise (le := fun x y => ltP y x = false) (fun a b _ _ h k => ltP_anti k h) hup (hu.imp (fun h => ltP_asymm h)) (h3.trans hm)
  rw [← this]
/-! Places in a row. -/
theorem plC_length (xs : List Pl) : (plC xs).length = xs.length * 4 := by
  unfold plC
  induction xs with
  | nil => rfl
  | cons x r ih => rw [List.flatMap_cons, List.length_append, ih, List.length_cons]; simp [plL]; omega
theorem plC_snoc (xs : List Pl) (x : Pl) : plC xs ++ plL x = plC (xs ++ [x]) := by simp [plC]
theorem plC_append (xs ys : List Pl) : plC xs ++ plC ys = plC (xs ++ ys) := by simp [plC]
theorem plC_at : ∀ (xs : List Pl) (i : Nat) (x : Pl) (j : Nat), xs[i]? = some x → j < 4 → (plC xs)[i * 4 + j]? = (plL x)[j]?
  | [], i, x, j, h, _ => by simp at h
  | y :: r, 0, x, j, h, hj => by
    have : y = x := by simpa using h
    subst this
    rw [plC, List.flatMap_cons, Nat.zero_mul, Nat.zero_add, List.getElem?_append_left (by simp [plL]; omega)]
  | y :: r, i + 1, x, j, h, hj => by
    have h' : r[i]? = some x := by simpa using h
    rw [plC, List.flatMap_cons, List.getElem?_append_right (by simp [plL]; omega)]
    have : (i + 1) * 4 + j - (plL y).length = i * 4 + j := by simp [plL]; omega
    rw [this]
    exact plC_at r i x j h' hj
theorem plL_one (x : Pl) : ∀ v ∈ plL x, v.oneCell' = true := by
  intro v hv; simp only [plL, List.mem_cons, List.not_mem_nil, or_false] at hv; rcases hv with rfl | rfl | rfl | rfl <;> rfl
theorem plC_set (xs : List Pl) (i : Nat) (x : Pl) (h : i < xs.length) : ((((plC xs).set (i * 4) (.int .u32 x.1.1)).set (i * 4 + 1) (.int .u64 x.1.2)).set (i * 4 + 2) (.int .i64 x.2.1)).set (i * 4 + 3) (.int .i64 x.2.2) = plC (xs.set i x) := by
  induction xs generalizing i with
  | nil => simp at h
  | cons y r ih =>
    cases i with
    | zero => simp [plC, plL]
    | succ i =>
      have h' : i < r.length := by simpa using h
      have e : plC (y :: r) = .int .u32 y.1.1 :: .int .u64 y.1.2 :: .int .i64 y.2.1 :: .int .i64 y.2.2 :: plC r := rfl
      have e2 : plC ((y :: r).set (i + 1) x) = .int .u32 y.1.1 :: .int .u64 y.1.2 :: .int .i64 y.2.1 :: .int .i64 y.2.2 :: plC (r.set i x) := rfl
      have a0 : (i + 1) * 4 = i * 4 + 1 + 1 + 1 + 1 := by omega
      rw [e, e2, ← ih i h', a0]
      simp only [List.set_cons_succ]
/-- Places that lie in the world. -/
def PlIn (w : World) (a : Option Addr) (n : Nat) (L : List Pl) : Prop :=
  L.length = n ∧ (n = 0 ∨ ∃ g, a = some ⟨g, 0, none⟩ ∧ ∀ i x, L[i]? = some x → w.cell? ⟨g, i * 4, none⟩ = some (.int .u32 x.1.1) ∧ w.cell? ⟨g, i * 4 + 1, none⟩ = some (.int .u64 x.1.2) ∧ w.cell? ⟨g, i * 4 + 2, none⟩ = some (.int .i64 x.2.1) ∧ w.cell? ⟨g, i * 4 + 3, none⟩ = some (.int .i64 x.2.2))
theorem PlIn.below {w w' : World} {a : Option Addr} {n : Nat} {L : List Pl} (h : PlIn w a n L) (hb : Below w.heap.size w w') : PlIn w' a n L := by
  obtain ⟨h1, h2⟩ := h
  refine ⟨h1, h2.imp id ?_⟩
  rintro ⟨g, rfl, hc⟩
  refine ⟨g, rfl, fun i x hx => ?_⟩
  obtain ⟨c0, c1, c2, c3⟩ := hc i x hx
  exact ⟨(hb.cell (old_block c0)).trans c0, (hb.cell (old_block c1)).trans c1, (hb.cell (old_block c2)).trans c2, (hb.cell (old_block c3)).trans c3⟩
theorem PlIn.alloc {w : World} {a : Option Addr} {n : Nat} {L : List Pl} (h : PlIn w a n L) (o : Obj) : PlIn (w.alloc o) a n L := h.below ((Below.refl _ _).alloc (Nat.le_refl _) o)
theorem PlIn.drewN {w : World} {a : Option Addr} {n : Nat} {L : List Pl} (h : PlIn w a n L) (k : Nat) : PlIn (w.drewN k) a n L := h
theorem PlIn.drew {w : World} {a : Option Addr} {n : Nat} {L : List Pl} (h : PlIn w a n L) : PlIn w.drew a n L := h
theorem PlIn.out {O : Nat → Prop} {w w' : World} {a : Option Addr} {n : Nat} {L : List Pl} (h : PlIn w a n L) (ho : Out O w w') (hn : ∀ g, a = some ⟨g, 0, none⟩ → 0 < n → ¬ O g) : PlIn w' a n L := by
  obtain ⟨h1, h2⟩ := h
  refine ⟨h1, ?_⟩
  by_cases h0 : n = 0
  · exact .inl h0
  · obtain ⟨g, rfl, hc⟩ := h2.resolve_left h0
    have hg := hn g rfl (by omega)
    refine .inr ⟨g, rfl, fun i x hx => ?_⟩
    obtain ⟨c0, c1, c2, c3⟩ := hc i x hx
    exact ⟨ho.cell c0 hg, ho.cell c1 hg, ho.cell c2 hg, ho.cell c3 hg⟩
theorem own_pl {w : World} {base : Nat} {a : Option Addr} {n c : Nat} {L : List Pl} (h : w.ownsRow base 34 4 (.slice a n c) n (plC L)) : PlIn w a n L := by
  have hl : L.length = n := by have := h.1; rw [plC_length] at this; omega
  refine ⟨hl, ?_⟩
  rcases h.2 with ⟨hv, hn⟩ | ⟨g, cap, cur, hv, _⟩
  · exact .inl hn
  · cases hv
    refine .inr ⟨g, rfl, fun i x hx => ?_⟩
    have hc : ∀ j v, (plL x)[j]? = some v → w.cell? ⟨g, i * 4 + j, none⟩ = some v := fun j v hv => by
      have hj : j < 4 := by have := (List.getElem?_eq_some_iff.1 hv).1; simpa [plL] using this
      have := h.cells (g := g) rfl (i * 4 + j) v (by rw [plC_at L i x j hx hj]; exact hv)
      rw [Addr.add_mid, Nat.zero_add] at this
      exact this
    exact ⟨hc 0 _ rfl, hc 1 _ rfl, hc 2 _ rfl, hc 3 _ rfl⟩
end Go.Proofs.Ytconfkgadmjhhaa
