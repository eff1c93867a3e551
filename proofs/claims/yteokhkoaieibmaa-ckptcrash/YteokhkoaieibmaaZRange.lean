/- A range over a function whose rounds always go on: the iterator and the rounds share what lies in memory. -/
import Derived.RangeFuncNested
import Derived.RangeFuncBound
import Derived.RangeFuncCalls
import Derived.RangeFuncLeaves
import Derived.Shelf.Abstract
import Derived.Shelf.AbstractIn
import Derived.Shelf.RegionOpen
import Derived.OwnWalkIn
import Derived.TacticsInMore
import Derived.LoopNIn
import Derived.LoopIn
import Derived.Test.YteokhkoaieibmaaZKept
namespace Go.Proofs.Yteokhkoaieibmaa
open Go.RowKit Go.Shelf
set_option linter.unusedVariables false
set_option maxRecDepth 4000

/-- The loop's record and the block for the rounds' deferred calls. -/
def Book (R : Loop) (l : Nat) (W : World) : Prop := W.heap[l + 1]? = some (.loop R) ∧ W.heap[l]? = some (.deferred (some []))
theorem Book.out {R : Loop} {l : Nat} {W W' : World} {S : Nat → Prop} (h : Book R l W) (ho : Out S W W') (hS : ∀ j, S j → ∃ c t f, W.heap[j]? = some (.cells c t f)) : Book R l W' := by
  refine ⟨(ho.block _ (Array.getElem?_eq_some_iff.1 h.1).1 (fun e => ?_)).trans h.1, (ho.block _ (Array.getElem?_eq_some_iff.1 h.2).1 (fun e => ?_)).trans h.2⟩
  · obtain ⟨c, t, f, hc⟩ := hS _ e
    rw [h.1] at hc; cases hc
  · obtain ⟨c, t, f, hc⟩ := hS _ e
    rw [h.2] at hc; cases hc
theorem Book.below {R : Loop} {l : Nat} {W W' : World} (h : Book R l W) (ho : Below W.heap.size W W') : Book R l W' := h.out (below_out Non ho) (fun _ e => e.elim)
theorem Book.lt {R : Loop} {l : Nat} {W : World} (h : Book R l W) : l + 1 < W.heap.size := (Array.getElem?_eq_some_iff.1 h.1).1

/-- Two worlds that differ in the loop's record alone. -/
def Calm (l : Nat) (W W' : World) : Prop := (∀ c t f, W.heap[l]? ≠ some (.cells c t f)) ∧ Out (fun j => j = l) W W' ∧ W'.heap.size = W.heap.size
theorem calm_put {l : Nat} {W : World} {r : Loop} (h : W.heap[l]? = some (.loop r)) (o : Obj) : Calm l W (W.putObj l o) :=
  ⟨(fun c t f e => by rw [h] at e; cases e), ⟨rfl, rfl, rfl, by simp, fun k _ hk => World.putObj_heap_other hk⟩, by simp⟩
theorem calm_shut {l : Nat} {W : World} {r : Option (List Deferred)} (h : W.heap[l]? = some (.deferred r)) (o : Obj) : Calm l W (W.putObj l o) :=
  ⟨(fun c t f e => by rw [h] at e; cases e), ⟨rfl, rfl, rfl, by simp, fun k _ hk => World.putObj_heap_other hk⟩, by simp⟩
theorem Calm.blk {l : Nat} {W W' : World} {g : Nat} {L : List Value} {t : TypeId} (h : Calm l W W') (hb : Blk W g L t) : Blk W' g L t :=
  h.2.1.blk hb (fun e => by subst e; exact h.1 _ _ _ hb)
theorem Calm.own {l : Nat} {W W' : World} (h : Calm l W W') {B : Nat} {e : TypeId} {s n : Nat} {v : Value} {xs : List Value} (hr : W.ownsRow B e s v n xs) : W'.ownsRow B e s v n xs :=
  h.2.1.own hr (fun g hg e => by subst e; obtain ⟨cur, hc⟩ := own_at_block hr hg; exact h.1 _ _ _ hc)
theorem Calm.bk {l : Nat} {W W' : World} (h : Calm l W W') {O : Nat → Prop} {u : Value} {D : List Int} (hb : BkAt O W u D) : BkAt O W' u D := ⟨h.own hb.1, hb.2⟩
theorem Calm.bs {l : Nat} {W W' : World} (h : Calm l W W') {O : Nat → Prop} {vs : List Value} {bs : List (List Int)} (hb : BsAt O W vs bs) : BsAt O W' vs bs := ⟨hb.1, fun i u D h1 h2 => h.bk (hb.2 i u D h1 h2)⟩
theorem Calm.row {l : Nat} {W W' : World} (h : Calm l W W') {O : Nat → Prop} {v : Value} {bs : List (List Int)} (hb : RowAt O W v bs) : RowAt O W' v bs := by
  obtain ⟨vs, a, b, c, d⟩ := hb
  exact ⟨vs, h.own a, b, h.bs c, d⟩
theorem Calm.out {l : Nat} {W W' w : World} (h : Calm l W W') {O : Nat → Prop} (ho : Out O w W) (hl : w.heap.size ≤ l) : Out O w W' := ho.trans h.2.1 (fun j e => .inr (by omega))
theorem Calm.cell {l : Nat} {W W' : World} (h : Calm l W W') {p : Addr} {v : Value} (hc : W.cell? p = some v) : W'.cell? p = some v :=
  h.2.1.cell hc (fun e => by
    unfold World.cell? at hc
    split at hc
    · rename_i c t f hh; rw [e] at hh; exact h.1 _ _ _ hh
    · cases hc)
theorem Calm.bin {l : Nat} {W W' : World} (h : Calm l W W') {a : Option Addr} {n : Nat} {D : List Int} (hb : BIn W a n D) : BIn W' a n D := by
  obtain ⟨h1, h2, h3, h4⟩ := hb
  refine ⟨h1, h2, h3, ?_⟩
  rcases h4 with h4 | ⟨b, off, ha, hc⟩
  · exact .inl h4
  · exact .inr ⟨b, off, ha, fun i hi => h.cell (hc i hi)⟩

/-- The law. J k: ahead of round k; J' k x: where the iterator hands x to round k; E: behind the iterator. -/
theorem wpIn_range {n : Nat} {P : Program} {g : Operand} {p : Tmp} {assign body : Code} {Q : Exit → Act → World → Prop} {a : Act} {w : World}
    {gf : Nat} {lb : Array Value} (hg : a.eval g = .func (.func gf) #[] lb) (eg : Enters P gf)
    (J : Nat → World → Prop) (J' : Nat → Value → World → Prop) (E : World → Prop)
    (hJ : ∀ k W W', J k W → Calm (w.heap.size + 1) W W' → J k W') (hJ' : ∀ k x W W', J' k x W → Calm (w.heap.size + 1) W W' → J' k x W') (hE : ∀ W W', E W → Calm (w.heap.size + 1) W W' → E W')
    (h0 : ∀ o o', J 0 ((w.alloc o).alloc o'))
    (a₁ : Value → Act)
    (hassign : ∀ (l : Nat) (k : Nat) (x : Value) (W : World) (K : Act → World → Prop), J' k x W → K (a₁ x) W →
      assign.wpIn (Fence.wide.inRound l) (n - 1 - 1) P (Exit.then K (fun _ _ _ => False)) { tmps := (#[p].zip #[x]).foldl (fun t (p, v) => t.setIfInBounds p v) a.tmps, defers := [] } W)
    (hbody : ∀ (l : Nat) (R : Loop) (k : Nat) (x : Value) (W : World), Book R w.heap.size W → J' k x W → body.wpIn (Fence.wide.inRound l) (n - 1 - 1) P (fun e _ W' => e = .normal ∧ Book R w.heap.size W' ∧ J (k + 1) W') (a₁ x) W)
    (hiter : ∀ (R : Loop) (W : World), (∀ k x W1, Book R w.heap.size W1 → J' k x W1 → YieldAt Fence.wide (n - 1 - 1) P (w.heap.size + 1) #[x] W1 fun e W' => e = .returned (.bool true) ∧ Book R w.heap.size W' ∧ J (k + 1) W') →
      Book R w.heap.size W → J 0 W → CallsIn Fence.wide (n - 1) P gf (#[.func (.yield (w.heap.size + 1)) #[] #[]] ++ lb) W fun e W' => (∃ v, e = .returned v) ∧ Book R w.heap.size W' ∧ E W')
    (hdone : ∀ W, E W → W.heap[w.heap.size]? = some (.deferred (some [])) → Q .normal { a with defers := { target := .collected w.heap.size, args := #[] } :: a.defers } W) :
    (Code.rangeFunc g #[p] assign body).wpIn Fence.wide n P Q a w := by
  refine wpIn_rangeFunc ?_
  intro fn hfn
  have hro : Fence.wide.round = none := rfl
  rw [hro]
  obtain ⟨rec, hrec⟩ : ∃ rec : LoopState → Option Code → Loop, rec = fun st pe => { state := st, pending := pe, fn, tmps := a.tmps, params := #[p], assign, body, defers := w.heap.size } := ⟨_, rfl⟩
  obtain ⟨W1, hW1⟩ : ∃ W1, (w.alloc (.deferred (some []))).alloc (.loop (rec .ready none)) = W1 := ⟨_, rfl⟩
  have hL1 : W1.heap[w.heap.size + 1]? = some (.loop (rec .ready none)) := by
    rw [← hW1]; have := World.alloc_heap_new (w.alloc (.deferred (some []))) (.loop (rec .ready none)); rwa [World.size_alloc] at this
  have hK1 : W1.heap[w.heap.size]? = some (.deferred (some [])) := by
    rw [← hW1]; exact (Below.heap_alloc _ _ _ (by simp)).trans (World.alloc_heap_new w _)
  have hI1 : J 0 W1 := by rw [← hW1]; exact h0 _ _
  refine ⟨w.heap.size + 1, [{ target := .collected w.heap.size, args := #[] }], W1, { target := .fn (.func gf) lb, args := #[.func (.yield (w.heap.size + 1)) #[] #[]] }, W1, gf,
    #[.func (.yield (w.heap.size + 1)) #[] #[]] ++ lb, W1, ?_, ?_, ?_, ?_, fun h => by simp [Fence.wide] at h, ?_⟩
  · rw [← hW1, hrec]; exact run_enterLoop_outer _ _ _ _ _
  · simp only [resolve, hg]
    simp [go_sem]
  · intro f' hf'; trivial
  · have eg' := fun args w => eg args w
    simp [invoke, go_sem, eg']
  · refine (hiter (rec .ready none) W1 ?_ ⟨hL1, hK1⟩ hI1).mono ?_
    · rintro k x W ⟨hl, hk⟩ hj
      have hlt : w.heap.size + 1 < W.heap.size := (Array.getElem?_eq_some_iff.1 hl).1
      have hy := run_yield (P := P) (args := #[x]) hl (by rw [hrec]; rfl)
      rw [hrec] at hy
      refine ⟨fn, _, assign, body, hy, roundIn_of_wpIn hfn (hassign _ k x W _ hj ⟨_, run_beginRound hl (by rw [hrec]), ?_⟩)⟩
      have hl2 : (W.putObj (w.heap.size + 1) (.loop { rec .ready none with state := .busy })).heap[w.heap.size + 1]? = some (.loop { rec .ready none with state := .busy }) := World.putObj_heap_same hlt
      have hk2 : (W.putObj (w.heap.size + 1) (.loop { rec .ready none with state := .busy })).heap[w.heap.size]? = some (.deferred (some [])) := (World.putObj_heap_other (by omega)).trans hk
      refine wpIn_mono (hbody _ _ k x _ ⟨hl2, hk2⟩ (hJ' k x _ _ hj (calm_put hl _))) ?_
      rintro e a3 W3 ⟨rfl, ⟨hl3, hk3⟩, hj3⟩
      have hr := run_endRound (P := P) none hl3
      refine ⟨_, _, hr, rfl, ⟨?_, ?_⟩, hJ _ _ _ hj3 (calm_put hl3 _)⟩
      · rw [World.putObj_heap_same (Array.getElem?_eq_some_iff.1 hl3).1, hrec]; rfl
      · exact (World.putObj_heap_other (by omega)).trans hk3
    · rintro e W2 ⟨⟨v, rfl⟩, ⟨hl, hk⟩, he⟩
      exact ⟨none, _, by have := run_endLoop (P := P) hl (by rw [hrec]; simp); rw [hrec] at this; exact this, hdone _ (hE _ _ he (calm_put hl _)) ((World.putObj_heap_other (by omega)).trans hk)⟩
end Go.Proofs.Yteokhkoaieibmaa
