/- Rows of blocks that are read: from wherever they come. -/
import Derived.Test.YteokhkoaieibmaaZCut
namespace Go.Proofs.Yteokhkoaieibmaa
open Go.RowKit Go.Shelf
set_option linter.unusedVariables false
set_option maxRecDepth 4000

def BkIn (W : World) (v : Value) (D : List Int) : Prop := ∃ A L C, v = .slice A L C ∧ BIn W A L D ∧ (A = none → L = 0 ∧ C = 0) ∧ L ≤ C ∧ L ≤ 100000
def BsIn (W : World) (a : Option Addr) (n : Nat) (bs : List (List Int)) : Prop :=
  bs.length = n ∧ n ≤ 100000 ∧ (n = 0 ∨ ∃ b off, a = some ⟨b, off, none⟩ ∧ ∀ (i : Nat) (D : List Int), bs[i]? = some D → ∃ v, W.cell? ⟨b, off + i, none⟩ = some v ∧ BkIn W v D)
theorem BkIn.below {w w' : World} {v : Value} {D : List Int} (h : BkIn w v D) (hb : Below w.heap.size w w') : BkIn w' v D := by
  obtain ⟨A, L, C, h1, h2, h3⟩ := h
  exact ⟨A, L, C, h1, h2.below hb, h3⟩
theorem BsIn.below {w w' : World} {a : Option Addr} {n : Nat} {bs : List (List Int)} (h : BsIn w a n bs) (hb : Below w.heap.size w w') : BsIn w' a n bs := by
  obtain ⟨h1, h2, h3⟩ := h
  refine ⟨h1, h2, ?_⟩
  rcases h3 with h3 | ⟨b, off, ha, hc⟩
  · exact .inl h3
  · refine .inr ⟨b, off, ha, fun i D hi => ?_⟩
    obtain ⟨v, h4, h5⟩ := hc i D hi
    exact ⟨v, by rw [hb.cell (old_block h4)]; exact h4, h5.below hb⟩
/-- A slice's capacity is at least its length. -/
theorem own_cap {w : World} {B : Nat} {e : TypeId} {s n : Nat} {a : Option Addr} {m c : Nat} {xs : List Value} (h : w.ownsRow B e s (.slice a m c) n xs) : m ≤ c ∧ m = n := by
  rcases h.2 with ⟨hv, hn⟩ | ⟨g, cap, cur, hv, _, _, hc, _⟩
  · cases hv; exact ⟨Nat.le_refl _, by omega⟩
  · cases hv; exact ⟨hc, rfl⟩
theorem BkAt.bkin {O : Nat → Prop} {W : World} {v : Value} {D : List Int} (h : BkAt O W v D) (hd : D.length ≤ 100000) : BkIn W v D := by
  obtain ⟨a, c, rfl⟩ := own_slice h.1
  obtain ⟨h1, h2, h3⟩ := h.bin
  exact ⟨a, D.length, c, rfl, h1, h2, (own_cap h.1).1, hd⟩
/-- All blocks of a row are short. -/
def Short (bs : List (List Int)) : Prop := ∀ D ∈ bs, D.length ≤ 100000
theorem RowAt.bsin {O : Nat → Prop} {W : World} {a : Option Addr} {n c : Nat} {bs : List (List Int)} (h : RowAt O W (.slice a n c) bs) (hs : Short bs) : BsIn W a n bs := by
  obtain ⟨vs, h1, h2, h3, h4⟩ := h
  have hn : n = bs.length := (own_cap h1).2
  refine ⟨hn.symm, by omega, ?_⟩
  rcases h1.2 with ⟨hv, hz⟩ | ⟨g, cap, cur, hv, hb, hg, hc, hcm, hsz, htake⟩
  · exact .inl (by omega)
  · cases hv
    refine .inr ⟨g, 0, rfl, fun i D hi => ?_⟩
    have hlt := (List.getElem?_eq_some_iff.1 hi).1
    obtain ⟨v, hv⟩ : ∃ v, vs[i]? = some v := ⟨vs[i]'(by rw [h3.1]; exact hlt), by simp [h3.1, hlt]⟩
    have hcl := h1.cells (g := g) rfl i _ hv
    rw [Addr.add_mid] at hcl
    exact ⟨v, hcl, (h3.2 i v D hv hi).bkin (hs D (List.mem_of_getElem? hi))⟩
theorem take_snoc {α : Type} {l : List α} {k : Nat} {x : α} (h : l[k]? = some x) : l.take (k + 1) = l.take k ++ [x] := by
  rw [List.take_add_one, h]; rfl
theorem blk_ne {W : World} {g g' : Nat} {L L' : List Value} {t t' : TypeId} (h : Blk W g L t) (h' : Blk W g' L' t') (ht : t ≠ t') : g ≠ g' := by
  rintro rfl
  have : some (Obj.cells L.toArray t (0, 0)) = some (Obj.cells L'.toArray t' (0, 0)) := h.symm.trans h'
  simp at this
  exact ht this.2
theorem blk_not_row {W : World} {g : Nat} {L : List Value} {t e : TypeId} (h : Blk W g L t) (ht : t ≠ e) {B s n : Nat} {v : Value} {xs : List Value} (hr : W.ownsRow B e s v n xs) : v.ownBlock ≠ some g := by
  intro hg
  obtain ⟨cur, hc⟩ := own_at_block hr hg
  have : some (Obj.cells L.toArray t (0, 0)) = some (Obj.cells cur e (0, 0)) := (show W.heap[g]? = _ from h).symm.trans hc
  simp at this
  exact ht this.2
theorem grown_out {w w' : World} {row : Option Nat} (hg : w.grownBy w' row) : Out (fun k => row = some k) w w' := ⟨hg.os, hg.tape, hg.output, hg.size, fun k hk hn => hg.block k hk (fun e => hn e.symm)⟩
/-- A block that no row of another type is, behind an append. -/
theorem Blk.grown {W W' : World} {g : Nat} {L : List Value} {t e : TypeId} (h : Blk W g L t) (ht : t ≠ e) {B s n : Nat} {v : Value} {xs : List Value} (hr : W.ownsRow B e s v n xs) (hg : W.grownBy W' v.ownBlock) : Blk W' g L t :=
  (grown_out hg).blk h (blk_not_row h ht hr)

/-! An append whose run is known: in a walk, in a round, in a row that draws its order. -/
theorem wpListIn_append_run {F : Fence} {n : Nat} {P : Program} {w : World} {ops : Array Oper} {rest : List Oper} {o : Oper} {a : Act} {Q : Exit → Act → World → Prop} (hg : o.guard = none) (s x : Operand) (t t2 : TypeId)
    (hop : o.op = Op.call { callee := Callee.builtin Builtin.append, args := #[s, x], argTypes := #[t, t2] }) (u y : Value) (hs : a.eval s = u) (hx : a.eval x = y) (v' : Value) (w' : World)
    (hrun : (Builtin.append_ #[t, t2] o.type #[u, y]).run P w = .ok v' w') (hK : wpListIn F n P ops Q rest (a.put o.dst v') w') : wpListIn F n P ops Q (o :: rest) a w := by
  refine wpListIn_plain hg fun K hK' => ?_
  unfold Oper.wpIn
  refine ⟨?_, ?_⟩
  · simp [Oper.about, hop, resolve, Target.leads, Sem.run_pure]
  · rw [Oper.semAt_plain F _ _ (by rw [hop]; intro c hc'; cases hc')]
    simp [execOp, hop, resolve, invoke, builtin, hs, hx, hrun, Result.andThen]
    exact hK' _ _ hK
theorem wpList_append_run {P : Program} {w : World} {ops : Array Oper} {rest : List Oper} {o : Oper} {a : Act} {Q : Exit → Act → World → Prop} (hg : o.guard = none) (s x : Operand) (t t2 : TypeId)
    (hop : o.op = Op.call { callee := Callee.builtin Builtin.append, args := #[s, x], argTypes := #[t, t2] }) (u y : Value) (hs : a.eval s = u) (hx : a.eval x = y) (v' : Value) (w' : World)
    (hrun : (Builtin.append_ #[t, t2] o.type #[u, y]).run P w = .ok v' w') (hK : wpList P ops Q rest (a.put o.dst v') w') : wpList P ops Q (o :: rest) a w := by
  refine wpList_plain hg fun _ hK' => ?_
  unfold Oper.wp
  simp [execOp, hop, resolve, invoke, builtin, hs, hx, hrun, Result.andThen]
  exact hK' _ _ hK
theorem step_append_run {P : Program} {w : World} {ops : Array Oper} {o : Oper} {a : Act} {K : Act → World → Prop} {Q : Exit → Act → World → Prop} {E : Prop} (hg : o.guard = none) (s x : Operand) (t t2 : TypeId)
    (hop : o.op = Op.call { callee := Callee.builtin Builtin.append, args := #[s, x], argTypes := #[t, t2] }) (u y : Value) (hs : a.eval s = u) (hx : a.eval x = y) (v' : Value) (w' : World)
    (hrun : (Builtin.append_ #[t, t2] o.type #[u, y]).run P w = .ok v' w') (hK : K (a.put o.dst v') w') : if Region.wanted o (yielded ops a.tmps) = true then Oper.wp P o a w K Q else E := by
  have hw : Region.wanted o (yielded ops a.tmps) = true := by simp [Region.wanted, hg]
  rw [if_pos hw]
  unfold Oper.wp
  simp [execOp, hop, resolve, invoke, builtin, hs, hx, hrun, Result.andThen]
  exact hK

/-- One block more in a row. -/
theorem app_row {O : Nat → Prop} {W : World} {v x : Value} {bs : List (List Int)} {D : List Int} (hr : RowAt O W v bs) (hx : BkAt O W x D) (h1 : x.oneCell' = true) (hl : bs.length + 1 ≤ 100000) (hO : ∀ k, W.heap.size ≤ k → O k) :
    ∃ a' c' w', (Builtin.append_ #[28, 28] 28 #[v, .slice (some ⟨W.heap.size, 0, none⟩) 1 1]).run Try.prog (W.alloc (.cells #[x] 39)) = .ok (.slice a' (bs.length + 1) c') w' ∧
      RowAt O w' (.slice a' (bs.length + 1) c') (bs ++ [D]) ∧ (W.alloc (.cells #[x] 39)).grownBy w' v.ownBlock ∧ ((Value.slice a' (bs.length + 1) c').ownBlock = v.ownBlock ∨ ∀ g, (Value.slice a' (bs.length + 1) c').ownBlock = some g → W.heap.size ≤ g) := by
  obtain ⟨vs, r1, r2, r3, r4⟩ := hr
  have hc : (W.alloc (.cells #[x] 39)).cell? ⟨W.heap.size, 0, none⟩ = some x := by rw [World.cell?_alloc_mark]; rfl
  have hA := run_app (t := 28) (ty := 28) Try.underlying28 Try.zero_bytes rfl (by decide) (by decide) (r1.alloc (.cells #[x] 39)) ⟨W.heap.size, 0, none⟩ 1 1 [x] rfl (by
    intro j u hj
    match j, hj with
    | 0, hj =>
      simp at hj
      subst hj
      exact hc) (by intro u hu; simp at hu; subst hu; exact h1) (by omega)
  obtain ⟨v', w', h2, h3, h4, h5⟩ := hA
  obtain ⟨a', c', rfl⟩ := own_slice h3
  have hsz := h4.size
  simp at hsz
  refine ⟨a', c', w', h2, ⟨vs ++ [x], by simpa using h3, ?_, ?_, by simp; omega⟩, h4, ?_⟩
  · intro r hr
    rcases h5 with h5 | h5
    · rw [h5] at hr; exact r2 r hr
    · have := h5 r hr; simp at this; exact hO r (by omega)
  · have hb : Out Non W (W.alloc (.cells #[x] 39)) := (Out.refl _ _).alloc _
    have hn : ∀ c cur, O c → (W.alloc (.cells #[x] 39)).heap[c]? = some (.cells cur 5 (0, 0)) → ¬ (v.ownBlock = some c) := by
      intro c cur _ hc hv
      obtain ⟨cur', hc'⟩ := own_at_block (r1.alloc (.cells #[x] 39)) hv
      rw [hc] at hc'; cases hc'
    exact ((r3.out hb (fun _ _ _ _ e => e)).out (grown_out h4) hn).snoc ((hx.out hb (fun _ _ _ _ e => e)).out (grown_out h4) hn)
  · rcases h5 with h5 | h5
    · exact .inl h5
    · exact .inr fun g hg => by have := h5 g hg; simp at this; omega
end Go.Proofs.Yteokhkoaieibmaa
