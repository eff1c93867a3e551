/- What comes in, in the walks' words: calls. -/
import Derived.Test.YtconfkgadmjhhaaRows
import Derived.Test.YtconfkgadmjhhaaLmK
import Derived.Lib.SmallJoins
import Derived.ProofKit
import Derived.OpenShut
import Derived.Deep.Slices
namespace Go.Proofs.Ytconfkgadmjhhaa
open Go.RowKit Go.ChangeShapes Go.WideShapes
set_option linter.unusedVariables false
set_option maxRecDepth 4000
section
variable {H : Type} {enc : TypeId × Value → H} {W : World}
abbrev Came (enc : TypeId × Value → H) (W : World) (t : TypeId) (v : Value) (d : DataW H) (p : List MemPlace) : Prop := DataW.Trod enc Try.prog W 0 (fun _ => true) true t v d p
theorem int_of {v : Value} {n : Nat} {y : DataW H × List MemPlace} (h : DataW.trod enc Try.prog W 0 (fun _ => true) true n 3 [v] = some y) : ∃ z, v = .int .i64 z ∧ F64 z := by
  obtain ⟨z, hv, _, hw⟩ := DataW.trod_int Try.underlying3 h
  have := bounds_i64 hw
  simp only [List.cons.injEq, and_true] at hv
  exact ⟨z, hv, by unfold F64; omega⟩
theorem u32_of {v : Value} {n : Nat} {y : DataW H × List MemPlace} (h : DataW.trod enc Try.prog W 0 (fun _ => true) true n 29 [v] = some y) : ∃ z, v = .int .u32 z ∧ Fits32 z := by
  obtain ⟨z, hv, _, hw⟩ := DataW.trod_int Try.underlying29 h
  have := bounds_u32 hw
  simp only [List.cons.injEq, and_true] at hv
  exact ⟨z, hv, by unfold Fits32; omega⟩
theorem u64_of {v : Value} {n : Nat} {y : DataW H × List MemPlace} (h : DataW.trod enc Try.prog W 0 (fun _ => true) true n 30 [v] = some y) : ∃ z, v = .int .u64 z ∧ FitsU z := by
  obtain ⟨z, hv, _, hw⟩ := DataW.trod_int Try.underlying30 h
  have := bounds_u64 hw
  simp only [List.cons.injEq, and_true] at hv
  exact ⟨z, hv, by unfold FitsU; omega⟩
theorem bool_of {v : Value} {n : Nat} {y : DataW H × List MemPlace} (h : DataW.trod enc Try.prog W 0 (fun _ => true) true n 4 [v] = some y) : ∃ b, v = .bool b := by
  obtain ⟨b, hv, _⟩ := DataW.trod_bool Try.underlying4 h
  simp only [List.cons.injEq, and_true] at hv
  exact ⟨b, hv⟩
theorem list_of {α : Type} {n : Nat} {p : Nat → α → Prop} (h : ∀ i, i < n → ∃ x, p i x) : ∃ l : List α, l.length = n ∧ ∀ i x, l[i]? = some x → p i x := by
  induction n with
  | zero => exact ⟨[], rfl, fun i x hx => by simp at hx⟩
  | succ n ih =>
    obtain ⟨l, hl, hp⟩ := ih (fun i hi => h i (by omega))
    obtain ⟨x, hx⟩ := h n (by omega)
    refine ⟨l ++ [x], by simp [hl], fun i y hy => ?_⟩
    by_cases hi : i < l.length
    · rw [List.getElem?_append_left hi] at hy
      exact hp i y hy
    · have hi' : i = l.length := by
        have := (List.getElem?_eq_some_iff.1 hy).1
        simp at this
        omega
      subst hi'
      simp at hy
      subst hy
      rw [hl]; exact hx
/-- A slice that came in: the cells of its elements. -/
theorem rows_of {t e : TypeId} {sz : Nat} {a : Option Addr} {len cap fuel : Nat} {y : DataW H × List MemPlace} (ht : Try.prog.underlying t = some (.slice e)) (hc : Try.prog.cellsOf e = sz) (hs0 : 0 < sz) (h : DataW.trod enc Try.prog W 0 (fun _ => true) true fuel t [.slice a len cap] = some y) :
    (len ≤ cap ∧ cap ≤ maxLen ∧ (a = none → len = 0 ∧ cap = 0)) ∧ (len = 0 ∨ ∃ b off, a = some ⟨b, off, none⟩ ∧ ∀ i, i < len → ∃ cs, cs.length = sz ∧ (∀ j, j < sz → W.cell? ⟨b, off + i * sz + j, none⟩ = cs[j]?) ∧ ∃ fuel' y', DataW.trod enc Try.prog W 0 (fun _ => true) true fuel' e cs = some y') := by
  rcases Deep.open_slice ht h with ⟨hcs, _⟩ | ⟨x, l, c, m, n, D, Pl, hcs, _, hl, hm, hmm, _, hx⟩
  · simp at hcs
    obtain ⟨rfl, rfl, rfl⟩ := hcs
    exact ⟨⟨Nat.le_refl _, Nat.zero_le _, fun _ => ⟨rfl, rfl⟩⟩, .inl rfl⟩
  · simp at hcs
    obtain ⟨rfl, rfl, rfl⟩ := hcs
    simp only [if_true] at hmm
    subst hmm
    rw [hc] at hx
    refine ⟨⟨hl, hm, fun h => by cases h⟩, ?_⟩
    by_cases h0 : len = 0
    · exact .inl h0
    · obtain ⟨b, off, spot⟩ := x
      obtain ⟨cs, h1, _⟩ := hx 0 (by omega)
      obtain ⟨_, hlen, hcell⟩ := World.cells?_some h1
      have hc0 := hcell 0 (by omega)
      rw [List.getElem?_eq_getElem (by omega)] at hc0
      have hs : spot = none := by simpa [Addr.add] using World.cell?_spot hc0
      subst hs
      refine .inr ⟨b, off, rfl, fun i hi => ?_⟩
      obtain ⟨cs', h1', h2'⟩ := hx i (by omega)
      obtain ⟨_, hlen', hcell'⟩ := World.cells?_some h1'
      refine ⟨cs', hlen', fun j hj => ?_, _, _, h2'⟩
      have := hcell' j (by omega)
      rw [Addr.add_mid, Addr.add_mid] at this
      exact this
theorem addr_of {cs : List Value} {n : Nat} {y : DataW H × List MemPlace} (h : DataW.trod enc Try.prog W 0 (fun _ => true) true n 32 cs = some y) : ∃ s : Pr, cs = [.int .i64 s.1, .int .i64 s.2] ∧ FitsS s := by
  obtain ⟨xs, m, _, _, hlen, hxl, hf⟩ := DataW.trod_struct Try.underlying32 h
  have hc2 : Try.prog.cellsOf 32 = 2 := by kernel_rfl
  rw [hc2] at hlen
  match cs, hlen, xs, hxl with
  | [v0, v1], _, [x0, x1], _ =>
    have h0 := hf 0 _ rfl
    have h1 := hf 1 _ rfl
    simp only [List.getElem?_cons_zero, List.getElem?_cons_succ] at h0 h1
    obtain ⟨a, rfl, f0⟩ := int_of h0
    obtain ⟨b, rfl, f1⟩ := int_of h1
    exact ⟨(a, b), rfl, f0, f1⟩
theorem place_of {cs : List Value} {n : Nat} {y : DataW H × List MemPlace} (h : DataW.trod enc Try.prog W 0 (fun _ => true) true n 34 cs = some y) : ∃ p : Pl, cs = plL p ∧ FitsP p := by
  obtain ⟨xs, m, _, _, hlen, hxl, hf⟩ := DataW.trod_struct Try.underlying34 h
  have hc4 : Try.prog.cellsOf 34 = 4 := by kernel_rfl
  rw [hc4] at hlen
  match cs, hlen, xs, hxl with
  | [v0, v1, v2, v3], _, [x0, x1, x2], _ =>
    have h0 := hf 0 _ rfl
    have h1 := hf 1 _ rfl
    have h2 := hf 2 _ rfl
    simp only [List.getElem?_cons_zero, List.getElem?_cons_succ] at h0 h1 h2
    obtain ⟨a, rfl, f0⟩ := u32_of h0
    obtain ⟨b, rfl, f1⟩ := u64_of h1
    obtain ⟨s, hs, f2⟩ := addr_of (cs := [v2, v3]) h2
    simp only [List.cons.injEq, and_true] at hs
    obtain ⟨rfl, rfl⟩ := hs
    exact ⟨((a, b), s), rfl, ⟨f0, f1⟩, f2⟩
theorem op_of {cs : List Value} {n : Nat} {y : DataW H × List MemPlace} (h : DataW.trod enc Try.prog W 0 (fun _ => true) true n 36 cs = some y) : ∃ o : Opn, cs = opL o ∧ FitsP o.2 := by
  obtain ⟨xs, m, _, _, hlen, hxl, hf⟩ := DataW.trod_struct Try.underlying36 h
  have hc5 : Try.prog.cellsOf 36 = 5 := by kernel_rfl
  rw [hc5] at hlen
  match cs, hlen, xs, hxl with
  | [v0, v1, v2, v3, v4], _, [x0, x1], _ =>
    have h0 := hf 0 _ rfl
    have h1 := hf 1 _ rfl
    simp only [List.getElem?_cons_zero, List.getElem?_cons_succ] at h0 h1
    obtain ⟨d, rfl⟩ := bool_of h0
    obtain ⟨p, hp, f1⟩ := place_of (cs := [v1, v2, v3, v4]) h1
    refine ⟨(d, p), ?_, f1⟩
    unfold opL
    rw [← hp]
def OpsIn (W : World) (a : Option Addr) (len : Nat) (os : List Opn) : Prop :=
  os.length = len ∧ (len = 0 ∨ ∃ b off, a = some ⟨b, off, none⟩ ∧ ∀ i o, os[i]? = some o → W.cell? ⟨b, off + i * 5, none⟩ = some (.bool o.1) ∧ W.cell? ⟨b, off + i * 5 + 1, none⟩ = some (.int .u32 o.2.1.1) ∧ W.cell? ⟨b, off + i * 5 + 2, none⟩ = some (.int .u64 o.2.1.2) ∧ W.cell? ⟨b, off + i * 5 + 3, none⟩ = some (.int .i64 o.2.2.1) ∧ W.cell? ⟨b, off + i * 5 + 4, none⟩ = some (.int .i64 o.2.2.2))
theorem OpsIn.below {W W' : World} {a : Option Addr} {len : Nat} {os : List Opn} (h : OpsIn W a len os) (hb : Below W.heap.size W W') : OpsIn W' a len os := by
  obtain ⟨h1, h2⟩ := h
  refine ⟨h1, h2.imp id ?_⟩
  rintro ⟨b, off, rfl, hc⟩
  refine ⟨b, off, rfl, fun i o hi => ?_⟩
  obtain ⟨c0, c1, c2, c3, c4⟩ := hc i o hi
  exact ⟨(hb.cell (old_block c0)).trans c0, (hb.cell (old_block c1)).trans c1, (hb.cell (old_block c2)).trans c2, (hb.cell (old_block c3)).trans c3, (hb.cell (old_block c4)).trans c4⟩
def OpsF (os : List Opn) : Prop := ∀ o ∈ os, FitsP o.2
theorem open_ops {a : Option Addr} {len cap : Nat} {d : DataW H} {p : List MemPlace} (h : Came enc W 22 (.slice a len cap) d p) : ∃ os, OpsIn W a len os ∧ OpsF os := by
  obtain ⟨fuel, hf⟩ := h
  have hf' : DataW.trod enc Try.prog W 0 (fun _ => true) true fuel 22 [.slice a len cap] = some (d, p) := by simpa [Value.cells] using hf
  obtain ⟨⟨h1, h2, h3⟩, h4⟩ := rows_of Try.underlying22 (sz := 5) (by kernel_rfl) (by decide) hf'
  rcases h4 with rfl | ⟨b, off, rfl, hc⟩
  · exact ⟨[], ⟨rfl, .inl rfl⟩, fun o h => by simp at h⟩
  · obtain ⟨os, hl, hp⟩ := list_of (n := len) (p := fun i (o : Opn) => (W.cell? ⟨b, off + i * 5, none⟩ = some (.bool o.1) ∧ W.cell? ⟨b, off + i * 5 + 1, none⟩ = some (.int .u32 o.2.1.1) ∧ W.cell? ⟨b, off + i * 5 + 2, none⟩ = some (.int .u64 o.2.1.2) ∧ W.cell? ⟨b, off + i * 5 + 3, none⟩ = some (.int .i64 o.2.2.1) ∧ W.cell? ⟨b, off + i * 5 + 4, none⟩ = some (.int .i64 o.2.2.2)) ∧ FitsP o.2) (fun i hi => by
      obtain ⟨cs, e1, e2, f, y', e3⟩ := hc i hi
      obtain ⟨o, rfl, hF⟩ := op_of e3
      exact ⟨o, ⟨e2 0 (by decide), e2 1 (by decide), e2 2 (by decide), e2 3 (by decide), e2 4 (by decide)⟩, hF⟩)
    refine ⟨os, ⟨hl, .inr ⟨b, off, rfl, fun i o hi => (hp i o hi).1⟩⟩, fun o ho => ?_⟩
    obtain ⟨i, hi⟩ := List.getElem?_of_mem ho
    exact (hp i o hi).2
theorem open_op {r : Reach} {b0 : Nat} {v : Value} {d : DataW H} {p : List MemPlace} (hv : Value.okWide Try.prog W r b0 36 v) (h : Came enc W 36 v d p) : ∃ o : Opn, v = .agg (opL o).toArray ∧ FitsP o.2 := by
  obtain ⟨cs, rfl, hsz⟩ := okWide_struct Try.underlying36 hv
  obtain ⟨fuel, hf⟩ := h
  have hf' : DataW.trod enc Try.prog W 0 (fun _ => true) true fuel 36 cs.toList = some (d, p) := by simpa [Value.cells] using hf
  obtain ⟨o, ho, hF⟩ := op_of hf'
  exact ⟨o, by rw [← ho], hF⟩
theorem Blk.five {w : World} {g : Nat} {o : Opn} (h : Blk w g (opL o) 36) : w.cell? ⟨g, 0, none⟩ = some (.bool o.1) ∧ w.cell? ⟨g, 1, none⟩ = some (.int .u32 o.2.1.1) ∧ w.cell? ⟨g, 2, none⟩ = some (.int .u64 o.2.1.2) ∧ w.cell? ⟨g, 3, none⟩ = some (.int .i64 o.2.2.1) ∧ w.cell? ⟨g, 4, none⟩ = some (.int .i64 o.2.2.2) :=
  ⟨h.cell 0, h.cell 1, h.cell 2, h.cell 3, h.cell 4⟩
/-- What Get tells, in two words. -/
theorem get_told (S : List Pl) (n : Pr) : ∃ (s : Pr) (b : Bool), (getS S n).getD (0, 0) = s ∧ (getS S n).isSome = b ∧ ((getS S n = some s ∧ b = true) ∨ (getS S n = none ∧ s = (0, 0) ∧ b = false)) := by
  cases h : getS S n with
  | none => exact ⟨(0, 0), false, rfl, rfl, .inr ⟨rfl, rfl, rfl⟩⟩
  | some s => exact ⟨s, true, rfl, rfl, .inl ⟨rfl, rfl⟩⟩
theorem told_fits {S : List Pl} (g : Good S) {n s : Pr} {b : Bool} (h : (getS S n = some s ∧ b = true) ∨ (getS S n = none ∧ s = (0, 0) ∧ b = false)) : FitsS s := by
  rcases h with ⟨h, _⟩ | ⟨_, rfl, _⟩
  · exact (g.fits _ ((getS_some g).1 h)).2
  · exact ⟨⟨by decide, by decide⟩, ⟨by decide, by decide⟩⟩
theorem at_dropped {S : List Pl} (g : Good S) {n s : Pr} (h : getS S n = some s) : atS (dropS S n) s = none := atS_none.2 (fun m hm => (mem_dropS.1 hm).2 (by
  have := g.one_spot (mem_dropS.1 hm).1 ((getS_some g).1 h) rfl
  exact congrArg Prod.fst this))
theorem at_moved {S : List Pl} (g : Good S) {x : Pl} {s : Pr} (h : getS S x.1 = some s) (hne : s ≠ x.2) : atS (putS S x) s = none := atS_none.2 (fun m hm => by
  rcases (mem_putS g).1 hm with e | ⟨h1, h2, h3⟩
  · exact hne (congrArg Prod.snd e)
  · have e := g.one_spot h1 ((getS_some g).1 h) rfl
    have e' : m = x.1 := congrArg (fun q : Pl => q.1) e
    exact h2 e')
/-- The map after the first calls. -/
def goS (l : List Opn) : List Pl := l.foldl doS []
theorem goS_step (l : List Opn) (k : Nat) (o : Opn) (h : l[k]? = some o) : goS (l.take (k + 1)) = doS (goS (l.take k)) o := by
  have hk : k < l.length := (List.getElem?_eq_some_iff.1 h).1
  have e : l.take (k + 1) = l.take k ++ [o] := by rw [List.take_succ_eq_append_getElem hk]; congr 2; exact (List.getElem?_eq_some_iff.1 h).2
  unfold goS
  rw [e, List.foldl_append]; rfl
theorem goS_good : ∀ (l : List Opn) (S : List Pl), Good S → OpsF l → Good (l.foldl doS S) ∧ (l.foldl doS S).length ≤ S.length + l.length
  | [], S, h, _ => ⟨h, by simp⟩
  | o :: r, S, h, hf => by
    have h1 := h.does (hf o (by simp))
    have h2 := doS_len h o
    obtain ⟨k1, k2⟩ := goS_good r (doS S o) h1 (fun x hx => hf x (by simp [hx]))
    refine ⟨k1, ?_⟩
    rw [List.foldl_cons, List.length_cons]
    omega
theorem goS_len (l : List Opn) (hf : OpsF l) (k : Nat) (hk : k ≤ l.length) : (goS (l.take k)).length ≤ k := by
  have := (goS_good (l.take k) [] good_nil (fun o ho => hf o (List.mem_of_mem_take ho))).2
  rw [List.length_take] at this
  unfold goS
  simp at this
  omega
/-- Both maps after the first calls. -/
structure Both (w : World) (p b1 b2 r : Nat) (S : List Pl) (c : Nat) (wr : World) : Prop where
  lp : LmP wr p b1 b2 S c
  ld : LmD wr r S
  bel : Below w.heap.size w wr
  hp : w.heap.size ≤ p ∧ w.heap.size ≤ b1 ∧ w.heap.size ≤ b2 ∧ w.heap.size ≤ r
theorem Both.below {w : World} {p b1 b2 r : Nat} {S : List Pl} {c : Nat} {wr wr' : World} (h : Both w p b1 b2 r S c wr) (hb : Below wr.heap.size wr wr') : Both w p b1 b2 r S c wr' :=
  ⟨h.lp.below hb, h.ld.below hb, below_then h.bel hb h.bel.size, h.hp⟩
theorem Both.does {w : World} {p b1 b2 r : Nat} {S S' : List Pl} {c c' : Nat} {wr wr' : World} (h : Both w p b1 b2 r S c wr) (hp : LmP wr' p b1 b2 S' c') (hd : LmD wr' r S') (ho : Out (Three b1 b2 r) wr wr') : Both w p b1 b2 r S' c' wr' :=
  ⟨hp, hd, h.bel.trans (ho.below h.bel.size (by obtain ⟨_, h1, h2, h3⟩ := h.hp; rintro j (rfl | rfl | rfl) <;> omega)), h.hp⟩
end
end Go.Proofs.Ytconfkgadmjhhaa
