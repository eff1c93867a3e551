/- What comes in, in the walks' words: a shape, calls, numbers. -/
import Derived.Test.YtofccgcddomcfaaRows
import Derived.Test.YtofccgcddomcfaaSgKn
import Derived.Lib.SmallJoins
import Derived.ProofKit
import Derived.OpenShut
import Derived.Deep.Slices
namespace Go.Proofs.Ytofccgcddomcfaa
open Go.RowKit Go.ChangeShapes Go.WideShapes
set_option linter.unusedVariables false
set_option maxRecDepth 4000
section
variable {H : Type} {enc : TypeId × Value → H} {W : World}
abbrev Came (enc : TypeId × Value → H) (W : World) (t : TypeId) (v : Value) (d : DataW H) (p : List MemPlace) : Prop := DataW.Trod enc Try.prog W 0 (fun _ => true) true t v d p
def F64 (z : Int) : Prop := -9223372036854775808 ≤ z ∧ z < 9223372036854775808
theorem int_of {v : Value} {n : Nat} {y : DataW H × List MemPlace} (h : DataW.trod enc Try.prog W 0 (fun _ => true) true n 3 [v] = some y) : ∃ z, v = .int .i64 z ∧ F64 z := by
  obtain ⟨z, hv, _, hw⟩ := DataW.trod_int Try.underlying3 h
  have := bounds_i64 hw
  simp only [List.cons.injEq, and_true] at hv
  exact ⟨z, hv, by unfold F64; omega⟩
theorem u8_of {v : Value} {n : Nat} {y : DataW H × List MemPlace} (h : DataW.trod enc Try.prog W 0 (fun _ => true) true n 5 [v] = some y) : ∃ z, v = .int .u8 z ∧ Fits8 z := by
  obtain ⟨z, hv, _, hw⟩ := DataW.trod_int Try.underlying5 h
  have := bounds_u8 hw
  simp only [List.cons.injEq, and_true] at hv
  exact ⟨z, hv, by unfold Fits8; omega⟩
theorem slice_form {t e : TypeId} {v : Value} {n : Nat} {y : DataW H × List MemPlace} (ht : Try.prog.underlying t = some (.slice e)) (h : DataW.trod enc Try.prog W 0 (fun _ => true) true n t [v] = some y) : ∃ a l c, v = .slice a l c := by
  rcases DataW.trod_slice ht h with ⟨hcs, _⟩ | ⟨a, l, c, _, _, _, _, hcs, _⟩
  · simp only [List.cons.injEq, and_true] at hcs; exact ⟨_, _, _, hcs⟩
  · simp only [List.cons.injEq, and_true] at hcs; exact ⟨_, _, _, hcs⟩
theorem ints_cells {k : IntKind} {a : Option Addr} {len cap : Nat} {t e : TypeId} {fuel : Nat} {x : DataW H × List MemPlace} (ht : Try.prog.underlying t = some (.slice e)) (he : Try.prog.underlying e = some (.int k)) (hc : Try.prog.cellsOf e = 1)
    (h : DataW.trod enc Try.prog W 0 (fun _ => true) true fuel t [.slice a len cap] = some x) :
    (a = none ∧ len = 0 ∧ cap = 0) ∨ ∃ (b off : Nat) (zs : List Int), (len = 0 ∨ a = some ⟨b, off, none⟩) ∧ a ≠ none ∧ len ≤ cap ∧ cap ≤ maxLen ∧ zs.length = cap ∧ (∀ z ∈ zs, (Lit.int k z).wf = true) ∧ ∀ i, i < len → W.cell? ⟨b, off + i, none⟩ = some (.int k (zs.getD i 0)) := by
  rcases open_ints ht he hc h with ⟨hcs, _⟩ | ⟨x, l, c, zs, hcs, _, hl, hm, hz, _, hcell, hwz⟩
  · simp at hcs
    obtain ⟨rfl, rfl, rfl⟩ := hcs
    exact .inl ⟨rfl, rfl, rfl⟩
  · simp at hcs
    obtain ⟨rfl, rfl, rfl⟩ := hcs
    right
    have hz' : zs.length = cap := by simpa using hz
    by_cases h0 : len = 0
    · exact ⟨0, 0, zs, .inl h0, by simp, hl, hm, hz', hwz, fun i hi => by omega⟩
    · obtain ⟨b, off, spot⟩ := x
      have hc0 := hcell 0 (by omega)
      have hs : spot = none := by simpa [Addr.add] using World.cell?_spot hc0
      subst hs
      refine ⟨b, off, zs, .inr rfl, by simp, hl, hm, hz', hwz, fun i hi => ?_⟩
      have := hcell i (by omega)
      rwa [Addr.add_mid] at this
theorem bytes_of {a : Option Addr} {len cap : Nat} {fuel : Nat} {x : DataW H × List MemPlace} (h : DataW.trod enc Try.prog W 0 (fun _ => true) true fuel 44 [.slice a len cap] = some x) :
    ∃ zs, BIn W a len zs ∧ len ≤ cap ∧ (a = none → len = 0 ∧ cap = 0) := by
  rcases ints_cells Try.underlying44 Try.underlying5 (by kernel_rfl) h with ⟨rfl, rfl, rfl⟩ | ⟨b, off, zs, ha, hn, hl, hm, hz, hwz, hcell⟩
  · exact ⟨[], bin_none _, Nat.le_refl _, fun _ => ⟨rfl, rfl⟩⟩
  · refine ⟨zs.take len, ⟨by simp [hz]; omega, Nat.le_trans hl hm, fun z hz' => ?_, ?_⟩, hl, fun h => absurd h hn⟩
    · have := bounds_u8 (hwz z (List.mem_of_mem_take hz'))
      unfold Fits8
      omega
    · rcases ha with ha | ha
      · exact .inl ha
      · exact .inr ⟨b, off, ha, fun i hi => by rw [hcell i hi]; simp [List.getD, hi]⟩
theorem list_of {α : Type} {n : Nat} {p : Nat → α → Prop} (h : ∀ i, i < n → ∃ x, p i x) : ∃ l : List α, l.length = n ∧ ∀ i x, l[i]? = some x → p i x := by
  induction n with
  | zero => exact ⟨[], rfl, fun i x hx => by simp at hx⟩
  | succ n ih =>
    obtain ⟨l, hl, hp⟩ := ih (fun i hi => h i (by omega))
    obtain ⟨x, hx⟩ := h n (by omega)
    refine ⟨l ++ [x], by simp [hl], fun i y hy => ?_⟩
    by_cases hi : i < l.length
    · rw [List.getElem?_append_left hi] at hy
      exact hp i y hy
    · have hi' : i = l.length := by
        have := (List.getElem?_eq_some_iff.1 hy).1
        simp at this
        omega
      subst hi'
      simp at hy
      subst hy
      rw [hl]; exact hx
/-- A slice that came in: the cells of its elements. -/
theorem rows_of {t e : TypeId} {sz : Nat} {a : Option Addr} {len cap fuel : Nat} {y : DataW H × List MemPlace} (ht : Try.prog.underlying t = some (.slice e)) (hc : Try.prog.cellsOf e = sz) (hs0 : 0 < sz) (h : DataW.trod enc Try.prog W 0 (fun _ => true) true fuel t [.slice a len cap] = some y) :
    (len ≤ cap ∧ cap ≤ maxLen ∧ (a = none → len = 0 ∧ cap = 0)) ∧ (len = 0 ∨ ∃ b off, a = some ⟨b, off, none⟩ ∧ ∀ i, i < len → ∃ cs, cs.length = sz ∧ (∀ j, j < sz → W.cell? ⟨b, off + i * sz + j, none⟩ = cs[j]?) ∧ ∃ fuel' y', DataW.trod enc Try.prog W 0 (fun _ => true) true fuel' e cs = some y') := by
  rcases Deep.open_slice ht h with ⟨hcs, _⟩ | ⟨x, l, c, m, n, D, Pl, hcs, _, hl, hm, hmm, _, hx⟩
  · simp at hcs
    obtain ⟨rfl, rfl, rfl⟩ := hcs
    exact ⟨⟨Nat.le_refl _, Nat.zero_le _, fun _ => ⟨rfl, rfl⟩⟩, .inl rfl⟩
  · simp at hcs
    obtain ⟨rfl, rfl, rfl⟩ := hcs
    simp only [if_true] at hmm
    subst hmm
    rw [hc] at hx
    refine ⟨⟨hl, hm, fun h => by cases h⟩, ?_⟩
    by_cases h0 : len = 0
    · exact .inl h0
    · obtain ⟨b, off, spot⟩ := x
      obtain ⟨cs, h1, _⟩ := hx 0 (by omega)
      obtain ⟨_, hlen, hcell⟩ := World.cells?_some h1
      have hc0 := hcell 0 (by omega)
      rw [List.getElem?_eq_getElem (by omega)] at hc0
      have hs : spot = none := by simpa [Addr.add] using World.cell?_spot hc0
      subst hs
      refine .inr ⟨b, off, rfl, fun i hi => ?_⟩
      obtain ⟨cs', h1', h2'⟩ := hx i (by omega)
      obtain ⟨_, hlen', hcell'⟩ := World.cells?_some h1'
      refine ⟨cs', hlen', fun j hj => ?_, _, _, h2'⟩
      have := hcell' j (by omega)
      rw [Addr.add_mid, Addr.add_mid] at this
      exact this
abbrev Opn := Int × Int
theorem op_of {cs : List Value} {n : Nat} {y : DataW H × List MemPlace} (h : DataW.trod enc Try.prog W 0 (fun _ => true) true n 31 cs = some y) : ∃ o : Opn, cs = [.int .u8 o.1, .int .i64 o.2] ∧ Fits8 o.1 ∧ F64 o.2 := by
  obtain ⟨xs, m, _, _, hlen, hxl, hf⟩ := DataW.trod_struct Try.underlying31 h
  have hc2 : Try.prog.cellsOf 31 = 2 := by kernel_rfl
  rw [hc2] at hlen
  match cs, hlen, xs, hxl with
  | [v0, v1], _, [x0, x1], _ =>
    have h0 := hf 0 _ rfl
    have h1 := hf 1 _ rfl
    simp only [List.getElem?_cons_zero, List.getElem?_cons_succ] at h0 h1
    obtain ⟨k, rfl, f0⟩ := u8_of h0
    obtain ⟨t, rfl, f1⟩ := int_of h1
    exact ⟨(k, t), rfl, f0, f1⟩
def OpsIn (W : World) (a : Option Addr) (len : Nat) (os : List Opn) : Prop :=
  os.length = len ∧ (len = 0 ∨ ∃ b off, a = some ⟨b, off, none⟩ ∧ ∀ i o, os[i]? = some o → W.cell? ⟨b, off + i * 2, none⟩ = some (.int .u8 o.1) ∧ W.cell? ⟨b, off + i * 2 + 1, none⟩ = some (.int .i64 o.2))
def OpsF (os : List Opn) : Prop := ∀ o ∈ os, Fits8 o.1 ∧ F64 o.2
theorem open_ops {a : Option Addr} {len cap : Nat} {d : DataW H} {p : List MemPlace} (h : Came enc W 24 (.slice a len cap) d p) : ∃ os, OpsIn W a len os ∧ OpsF os := by
  obtain ⟨fuel, hf⟩ := h
  have hf' : DataW.trod enc Try.prog W 0 (fun _ => true) true fuel 24 [.slice a len cap] = some (d, p) := by simpa [Value.cells] using hf
  obtain ⟨⟨h1, h2, h3⟩, h4⟩ := rows_of Try.underlying24 (sz := 2) (by kernel_rfl) (by decide) hf'
  rcases h4 with rfl | ⟨b, off, rfl, hc⟩
  · exact ⟨[], ⟨rfl, .inl rfl⟩, fun o h => by simp at h⟩
  · obtain ⟨os, hl, hp⟩ := list_of (n := len) (p := fun i (o : Opn) => (W.cell? ⟨b, off + i * 2, none⟩ = some (.int .u8 o.1) ∧ W.cell? ⟨b, off + i * 2 + 1, none⟩ = some (.int .i64 o.2)) ∧ Fits8 o.1 ∧ F64 o.2) (fun i hi => by
      obtain ⟨cs, e1, e2, f, y', e3⟩ := hc i hi
      obtain ⟨o, rfl, hF⟩ := op_of e3
      exact ⟨o, ⟨e2 0 (by decide), e2 1 (by decide)⟩, hF⟩)
    refine ⟨os, ⟨hl, .inr ⟨b, off, rfl, fun i o hi => (hp i o hi).1⟩⟩, fun o ho => ?_⟩
    obtain ⟨i, hi⟩ := List.getElem?_of_mem ho
    exact (hp i o hi).2
theorem came_ints {a : Option Addr} {len cap : Nat} {d : DataW H} {p : List MemPlace} (h : Came enc W 37 (.slice a len cap) d p) : ∃ zs, NIn .i64 W a len zs := by
  obtain ⟨fuel, hf⟩ := h
  have hf' : DataW.trod enc Try.prog W 0 (fun _ => true) true fuel 37 [.slice a len cap] = some (d, p) := by simpa [Value.cells] using hf
  rcases ints_cells Try.underlying37 Try.underlying3 (by kernel_rfl) hf' with ⟨rfl, rfl, rfl⟩ | ⟨b, off, zs, ha, hn, hl, hm, hz, hwz, hcell⟩
  · exact ⟨[], nin_none _ _⟩
  · refine ⟨zs.take len, by simp [hz]; omega, Nat.le_trans hl hm, fun z hz' => hwz z (List.mem_of_mem_take hz'), ?_⟩
    rcases ha with ha | ha
    · exact .inl ha
    · exact .inr ⟨b, off, ha, fun i hi => by rw [hcell i hi]; simp [List.getD, hi]⟩
def ShF (s : Sh) : Prop := F64 s.z ∧ F64 s.zb ∧ F64 s.b ∧ F64 s.r
theorem open_shape {r : Reach} {b0 : Nat} {v : Value} {d : DataW H} {p : List MemPlace} (hv : Value.okWide Try.prog W r b0 23 v) (h : Came enc W 23 v d p) : ∃ s : Sh, v = .agg (shL s).toArray ∧ ShF s := by
  obtain ⟨cs, rfl, hsz⟩ := okWide_struct Try.underlying23 hv
  obtain ⟨fuel, hf⟩ := h
  have hf' : DataW.trod enc Try.prog W 0 (fun _ => true) true fuel 23 cs.toList = some (d, p) := by simpa [Value.cells] using hf
  obtain ⟨xs, m, _, _, hlen, hxl, hf⟩ := DataW.trod_struct Try.underlying23 hf'
  have hc4 : Try.prog.cellsOf 23 = 4 := by kernel_rfl
  rw [hc4] at hlen
  obtain ⟨L, rfl⟩ : ∃ L : List Value, cs = L.toArray := ⟨cs.toList, by simp⟩
  simp only at hlen hf
  match L, hlen, xs, hxl with
  | [v0, v1, v2, v3], _, [x0, x1, x2, x3], _ =>
    have h0 := hf 0 _ rfl
    have h1 := hf 1 _ rfl
    have h2 := hf 2 _ rfl
    have h3 := hf 3 _ rfl
    simp only [List.getElem?_cons_zero, List.getElem?_cons_succ] at h0 h1 h2 h3
    obtain ⟨z, rfl, f0⟩ := int_of h0
    obtain ⟨zb, rfl, f1⟩ := int_of h1
    obtain ⟨b, rfl, f2⟩ := int_of h2
    obtain ⟨r, rfl, f3⟩ := int_of h3
    exact ⟨⟨z, zb, b, r⟩, rfl, f0, f1, f2, f3⟩
end
end Go.Proofs.Ytofccgcddomcfaa
