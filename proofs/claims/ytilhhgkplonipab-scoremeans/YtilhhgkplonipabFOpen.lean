/- A list of floats that comes in, in the walks' words. -/
import Derived.Test.YtilhhgkplonipabFKnown
import Derived.Deep.Slices
import Derived.ProofKit
namespace Go.Proofs.Ytilhhgkplonipab
open Go.RowKit Go.ChangeShapes Go.WideShapes
set_option linter.unusedVariables false
set_option maxRecDepth 4000
section
variable {H : Type} {enc : TypeId × Value → H} {W : World}
abbrev Came (enc : TypeId × Value → H) (W : World) (t : TypeId) (v : Value) (d : DataW H) (p : List MemPlace) : Prop := DataW.Trod enc Try.prog W 0 (fun _ => true) true t v d p
theorem f64_of {v : Value} {n : Nat} {y : DataW H × List MemPlace} (h : DataW.trod enc Try.prog W 0 (fun _ => true) true n 23 [v] = some y) : ∃ z, v = .float .f64 z ∧ z < 2 ^ 64 := by
  cases n with
  | zero => simp [DataW.trod] at h
  | succ n =>
    simp only [DataW.trod, Try.underlying23] at h
    cases v <;> simp at h
    rename_i k b
    obtain ⟨⟨rfl, hb⟩, _⟩ := h
    exact ⟨b, rfl, by simpa [Lit.wf] using hb⟩
theorem list_of {α : Type} {n : Nat} {p : Nat → α → Prop} (h : ∀ i, i < n → ∃ x, p i x) : ∃ l : List α, l.length = n ∧ ∀ i x, l[i]? = some x → p i x := by
  induction n with
  | zero => exact ⟨[], rfl, fun i x hx => by simp at hx⟩
  | succ n ih =>
    obtain ⟨l, hl, hp⟩ := ih (fun i hi => h i (by omega))
    obtain ⟨x, hx⟩ := h n (by omega)
    refine ⟨l ++ [x], by simp [hl], fun i y hy => ?_⟩
    by_cases hi : i < l.length
    · rw [List.getElem?_append_left hi] at hy
      exact hp i y hy
    · have hi' : i = l.length := by
        have := (List.getElem?_eq_some_iff.1 hy).1
        simp at this
        omega
      subst hi'
      simp at hy
      subst hy
      rw [hl]
      exact hx
theorem open_f64s {a : Option Addr} {len cap : Nat} {d : DataW H} {p : List MemPlace} (h : Came enc W 22 (.slice a len cap) d p) : ∃ zs, FIn W a len zs ∧ len ≤ cap ∧ (a = none → len = 0 ∧ cap = 0) := by
  obtain ⟨fuel, hf⟩ := h
  have hf' : DataW.trod enc Try.prog W 0 (fun _ => true) true fuel 22 [.slice a len cap] = some (d, p) := by simpa [Value.cells] using hf
  rcases Deep.open_slice1 Try.underlying22 (by kernel_rfl) hf' with ⟨hcs, _⟩ | ⟨x, l, c, m, n, V, D, Pl, hcs, _, hl, hm, hmm, _, hx⟩
  · simp at hcs
    obtain ⟨rfl, rfl, rfl⟩ := hcs
    exact ⟨[], fin_none _, Nat.le_refl _, fun _ => ⟨rfl, rfl⟩⟩
  · simp at hcs
    obtain ⟨rfl, rfl, rfl⟩ := hcs
    simp only [if_true] at hmm
    subst hmm
    obtain ⟨zs, hzs, hall⟩ := list_of (n := len) (p := fun i z => W.cell? (x.add i) = some (.float .f64 z) ∧ z < 2 ^ 64) (fun i hi => by
      obtain ⟨h1, h2⟩ := hx i (by omega)
      obtain ⟨z, hv, hb⟩ := f64_of h2
      exact ⟨z, by rw [h1, hv], hb⟩)
    refine ⟨zs, ⟨hzs, Nat.le_trans hl hm, fun z hz => ?_, ?_⟩, hl, fun h => by cases h⟩
    · obtain ⟨i, hi, rfl⟩ := List.getElem_of_mem hz
      exact (hall i _ (List.getElem?_eq_getElem hi)).2
    · by_cases h0 : len = 0
      · exact .inl h0
      · obtain ⟨b, off, spot⟩ := x
        have hc0 := (hx 0 (by omega)).1
        have hs : spot = none := by simpa [Addr.add] using World.cell?_spot hc0
        subst hs
        refine .inr ⟨b, off, rfl, fun i hi => ?_⟩
        have := (hall i (zs.getD i 0) (by simp [List.getD, hzs, hi])).1
        rwa [Addr.add_mid] at this
end
end Go.Proofs.Ytilhhgkplonipab
