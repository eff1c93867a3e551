/- Rows of structs, whatever they are, as lists. -/
import Derived.Test.YtkhldjpghjmgfaaZOut
import Derived.Test.YtkhldjpghjmgfaaLgMath
namespace Go.Proofs.Ytkhldjpghjmgfaa
open Go.RowKit
set_option linter.unusedVariables false
set_option maxRecDepth 4000

theorem wpList_append_run {ops : Array Oper} {rest : List Oper} {o : Oper} {a : Act} {Q : Exit → Act → World → Prop} {w : World} (hg : o.guard = none) (s x : Operand) (t t2 : TypeId)
    (hop : o.op = .call { callee := .builtin .append, args := #[s, x], argTypes := #[t, t2] }) (sv xv : Value) (hs : a.eval s = sv) (hx : a.eval x = xv) (v : Value) (w' : World) (hrun : (Builtin.append_ #[t, t2] o.type #[sv, xv]).run Try.prog w = .ok v w') (hK : wpList Try.prog ops Q rest (a.put o.dst v) w') :
    wpList Try.prog ops Q (o :: rest) a w := by
  refine wpList_plain hg fun K hK' => ?_
  unfold Oper.wp
  simp [execOp, hop, resolve, invoke, builtin, hs, hx, hrun, Result.andThen]
  exact hK' _ _ hK
theorem cstep_append_run {ops : Array Oper} {o : Oper} {a : Act} {w : World} {K : Act → World → Prop} {Q : Exit → Act → World → Prop} {E : Prop} (hg : o.guard = none) (s x : Operand) (t t2 : TypeId)
    (hop : o.op = .call { callee := .builtin .append, args := #[s, x], argTypes := #[t, t2] }) (sv xv : Value) (hs : a.eval s = sv) (hx : a.eval x = xv) (v : Value) (w' : World) (hrun : (Builtin.append_ #[t, t2] o.type #[sv, xv]).run Try.prog w = .ok v w') (hK : K (a.put o.dst v) w') :
    if Region.wanted o (yielded ops a.tmps) = true then Oper.wp Try.prog o a w K Q else E := by
  have hw : Region.wanted o (yielded ops a.tmps) = true := by simp [Region.wanted, hg]
  rw [if_pos hw]
  unfold Oper.wp
  simp [execOp, hop, resolve, invoke, builtin, hs, hx, hrun, Result.andThen]
  exact hK
theorem own_ne {w : World} {r : Nat} {L : List Value} {t e : TypeId} {size n B : Nat} {v : Value} {xs : List Value} (hb : Blk w r L t) (ho : w.ownsRow B e size v n xs) (hne : t ≠ e) : v.ownBlock ≠ some r := by
  intro h
  obtain ⟨cur, hc⟩ := own_at_block ho h
  unfold Blk at hb
  rw [hb] at hc
  cases hc
  exact hne rfl
/-- The cells of a row of structs. -/
def rowC {α : Type} (f : α → List Value) (xs : List α) : List Value := xs.flatMap f
section
variable {α : Type} {f : α → List Value} {s : Nat}
theorem rowC_snoc (xs : List α) (x : α) : rowC f (xs ++ [x]) = rowC f xs ++ f x := by simp [rowC]
theorem rowC_app (xs ys : List α) : rowC f (xs ++ ys) = rowC f xs ++ rowC f ys := by simp [rowC]
theorem rowC_length (hs : ∀ x, (f x).length = s) : ∀ xs : List α, (rowC f xs).length = xs.length * s
  | [] => by simp [rowC]
  | x :: r => by
    have := rowC_length hs r
    unfold rowC at this ⊢
    rw [List.flatMap_cons, List.length_append, this, hs, List.length_cons, Nat.succ_mul]; omega
theorem rowC_at (hs : ∀ x, (f x).length = s) : ∀ (xs : List α) (k : Nat) (x : α) (j : Nat), xs[k]? = some x → j < s → (rowC f xs)[k * s + j]? = (f x)[j]?
  | [], k, x, j, h, _ => by simp at h
  | y :: r, 0, x, j, h, hj => by
    have e : y = x := by simpa using h
    subst e
    unfold rowC
    rw [List.flatMap_cons, Nat.zero_mul, Nat.zero_add, List.getElem?_append_left (by rw [hs]; exact hj)]
  | y :: r, k + 1, x, j, h, hj => by
    have h' : r[k]? = some x := by simpa using h
    have := rowC_at hs r k x j h' hj
    unfold rowC at this ⊢
    rw [List.flatMap_cons, List.getElem?_append_right (by rw [hs, Nat.succ_mul]; omega), hs, Nat.succ_mul]
    have e : k * s + s + j - s = k * s + j := by omega
    rw [e, this]
theorem rowC_one (h1 : ∀ x, ∀ v ∈ f x, v.oneCell' = true) (xs : List α) : ∀ v ∈ rowC f xs, v.oneCell' = true := by
  intro v hv
  unfold rowC at hv
  obtain ⟨x, _, hx⟩ := List.mem_flatMap.1 hv
  exact h1 x v hx
/-- Structs that lie in the world. -/
def RowIn (f : α → List Value) (s : Nat) (w : World) (a : Option Addr) (n : Nat) (xs : List α) : Prop :=
  xs.length = n ∧ (n = 0 ∨ ∃ b off, a = some ⟨b, off, none⟩ ∧ ∀ i x, xs[i]? = some x → w.rangeAt b (off + i * s) (f x))
theorem own_row {w : World} {B : Nat} {e : TypeId} {a : Option Addr} {n c : Nat} {xs : List α} (hs : ∀ x, (f x).length = s) (h0 : 0 < s) (h : w.ownsRow B e s (.slice a n c) n (rowC f xs)) : xs.length = n ∧ (n = 0 ∨ ∃ g, a = some ⟨g, 0, none⟩ ∧ ∀ i x, xs[i]? = some x → w.rangeAt g (i * s) (f x)) := by
  have hl : xs.length = n := by
    have := h.1
    rw [rowC_length hs] at this
    exact Nat.eq_of_mul_eq_mul_right h0 this
  refine ⟨hl, ?_⟩
  rcases h.2 with ⟨hv, hn⟩ | ⟨g, cap, cur, hv, _⟩
  · exact .inl hn
  · cases hv
    refine .inr ⟨g, rfl, fun i x hx j v hv => ?_⟩
    have hj : j < s := by have := (List.getElem?_eq_some_iff.1 hv).1; rw [hs] at this; exact this
    have := h.cells (g := g) rfl (i * s + j) v (by rw [rowC_at hs xs i x j hx hj]; exact hv)
    rw [Addr.add_mid, Nat.zero_add] at this
    exact this
/-- One struct more, as the code lays it. -/
theorem app_one {W : World} {B : Nat} {e t : TypeId} {bytes : Nat} {z : Value} (ht : Try.prog.underlying t = some (.slice e)) (hinfo : (Try.prog.info? e).map (fun i => (i.zero, i.size, i.bytes)) = some (some z, s, bytes)) (hz : z.cells.size = s) (h0 : 0 < s) (hsz : bytes ≤ 72)
    (hs : ∀ x, (f x).length = s) (h1 : ∀ x, ∀ v ∈ f x, v.oneCell' = true) {a : Option Addr} {n cc : Nat} {xs : List α} (h : W.ownsRow B e s (.slice a n cc) n (rowC f xs)) (x : α) (C : Array Value) (hC : C = (f x).toArray) (hn : n ≤ 100000) (hB : B ≤ W.heap.size) (q : Nat) (hq : W.heap.size = q) :
    ∃ g' cc' W', (Builtin.append_ #[t, t] t #[.slice a n cc, .slice (some ⟨q, 0, none⟩) 1 1]).run Try.prog (W.alloc (.cells C e)) = .ok (.slice (some ⟨g', 0, none⟩) (n + 1) cc') W' ∧
      W'.ownsRow B e s (.slice (some ⟨g', 0, none⟩) (n + 1) cc') (n + 1) (rowC f (xs ++ [x])) ∧ W.grownBy W' (Value.slice a n cc).ownBlock := by
  subst hq
  have hb : Blk (W.alloc (.cells C e)) W.heap.size (f x) e := Blk.new' rfl hC
  obtain ⟨v', W', k1, k2, k3, k4⟩ := run_app (ty := t) ht hinfo hz h0 hsz (own_zero (h.alloc (.cells C e))) ⟨W.heap.size, 0, none⟩ 1 1 (f x) (by rw [hs, Nat.one_mul]) (fun j u hu => by rw [Addr.add_mid, Nat.zero_add, hb.cell, hu]) (h1 x) (by omega)
  rw [← rowC_snoc] at k2
  rcases k2.2 with ⟨_, hh0⟩ | ⟨g', cc', cur, rfl, hB', hh, r⟩
  · omega
  · refine ⟨g', cc', W', k1, own_base k2 (fun g hg => ?_), (World.grownBy_alloc W _ _).andThen k3 (fun j e => .inr e)⟩
    rcases k4 with k4 | k4
    · exact (h.lt g (by rw [← k4]; exact hg)).1
    · have := k4 g hg
      simp at this
      omega
/-- One cell of a row of one's own is written. -/
theorem own_put {w : World} {B : Nat} {e : TypeId} {a : Option Addr} {n c g : Nat} {xs ys : List α} (hs : ∀ x, (f x).length = s) (h : w.ownsRow B e s (.slice a n c) n (rowC f xs)) (ha : a = some ⟨g, 0, none⟩) {i : Nat} (v : Value) (hy : (rowC f xs).set i v = rowC f ys) (hi : i < n * s) : (w.setCell ⟨g, i, none⟩ v).ownsRow B e s (.slice a n c) n (rowC f ys) := by
  subst ha
  rcases h.2 with ⟨hv, hn⟩ | ⟨g', cap, cur, hv, hB, hg, hc, hcm, hsz, htake⟩
  · cases hv
  · cases hv
    refine ⟨?_, .inr ⟨g, c, cur.set! i v, rfl, hB, ?_, hc, hcm, by simp [hsz], ?_⟩⟩
    · rw [← hy, List.length_set]; exact h.1
    · simp [World.setCell, Array.getElem?_modify, hg]
    · rw [← hy, ← htake]
      simp [List.take_set]
end
end Go.Proofs.Ytkhldjpghjmgfaa
