/- What comes in, in the walks' words: a request, requests, a map of lengths. -/
import Derived.Test.YtlfmdplaoalahabRows
import Derived.Test.YtlfmdplaoalahabRKnown
import Derived.Lib.SmallJoins
import Derived.ProofKit
import Derived.OpenShut
import Derived.Deep.Slices
import Derived.Maps.Keyed
import Derived.WideKeyArgs2
namespace Go.Proofs.Ytlfmdplaoalahab
open Go.RowKit Go.ChangeShapes Go.WideShapes
set_option linter.unusedVariables false
set_option maxRecDepth 4000

theorem six_cells {w : World} {q : Nat} {r : Rq} {A : Option Addr} {k C : Nat} (h : Blk w q (reqL r A k C) 27) : w.cell? ⟨q, 0, none⟩ = some (.int .u16 r.fl) ∧ w.cell? ⟨q, 1, none⟩ = some (.int .u16 r.kd) ∧ w.cell? ⟨q, 2, none⟩ = some (.int .u64 r.ck) ∧ w.cell? ⟨q, 3, none⟩ = some (.int .u64 r.ofs) ∧ w.cell? ⟨q, 4, none⟩ = some (.int .u32 r.ln) ∧ w.cell? ⟨q, 5, none⟩ = some (.slice A k C) :=
  ⟨h.cell 0, h.cell 1, h.cell 2, h.cell 3, h.cell 4, h.cell 5⟩
section
variable {H : Type} {enc : TypeId × Value → H} {W : World}
abbrev Came (enc : TypeId × Value → H) (W : World) (t : TypeId) (v : Value) (d : DataW H) (p : List MemPlace) : Prop := DataW.Trod enc Try.prog W 0 (fun _ => true) true t v d p
theorem ints_cells {k : IntKind} {a : Option Addr} {len cap : Nat} {t e : TypeId} {fuel : Nat} {x : DataW H × List MemPlace} (ht : Try.prog.underlying t = some (.slice e)) (he : Try.prog.underlying e = some (.int k)) (hc : Try.prog.cellsOf e = 1)
    (h : DataW.trod enc Try.prog W 0 (fun _ => true) true fuel t [.slice a len cap] = some x) :
    (a = none ∧ len = 0 ∧ cap = 0) ∨ ∃ (b off : Nat) (zs : List Int), (len = 0 ∨ a = some ⟨b, off, none⟩) ∧ a ≠ none ∧ len ≤ cap ∧ cap ≤ maxLen ∧ zs.length = cap ∧ (∀ z ∈ zs, (Lit.int k z).wf = true) ∧ ∀ i, i < len → W.cell? ⟨b, off + i, none⟩ = some (.int k (zs.getD i 0)) := by
  rcases open_ints ht he hc h with ⟨hcs, _⟩ | ⟨x, l, c, zs, hcs, _, hl, hm, hz, _, hcell, hwz⟩
  · simp at hcs
    obtain ⟨rfl, rfl, rfl⟩ := hcs
    exact .inl ⟨rfl, rfl, rfl⟩
  · simp at hcs
    obtain ⟨rfl, rfl, rfl⟩ := hcs
    right
    have hz' : zs.length = cap := by simpa using hz
    by_cases h0 : len = 0
    · exact ⟨0, 0, zs, .inl h0, by simp, hl, hm, hz', hwz, fun i hi => by omega⟩
    · obtain ⟨b, off, spot⟩ := x
      have hc0 := hcell 0 (by omega)
      have hs : spot = none := by simpa [Addr.add] using World.cell?_spot hc0
      subst hs
      refine ⟨b, off, zs, .inr rfl, by simp, hl, hm, hz', hwz, fun i hi => ?_⟩
      have := hcell i (by omega)
      rwa [Addr.add_mid] at this
theorem bytes_of {a : Option Addr} {len cap : Nat} {fuel : Nat} {x : DataW H × List MemPlace} (h : DataW.trod enc Try.prog W 0 (fun _ => true) true fuel 25 [.slice a len cap] = some x) :
    ∃ zs, DIn W a len cap zs := by
  rcases ints_cells Try.underlying25 Try.underlying5 (by kernel_rfl) h with ⟨rfl, rfl, rfl⟩ | ⟨b, off, zs, ha, hn, hl, hm, hz, hwz, hcell⟩
  · exact ⟨[], bin_none _, Nat.le_refl _, fun _ => ⟨rfl, rfl⟩⟩
  · refine ⟨zs.take len, ⟨by simp [hz]; omega, Nat.le_trans hl hm, fun z hz' => ?_, ?_⟩, hl, fun h => absurd h hn⟩
    · have := bounds_u8 (hwz z (List.mem_of_mem_take hz'))
      unfold Fits8
      omega
    · rcases ha with ha | ha
      · exact .inl ha
      · exact .inr ⟨b, off, ha, fun i hi => by rw [hcell i hi]; simp [List.getD, hi]⟩
theorem u16_of {v : Value} {n : Nat} {y : DataW H × List MemPlace} (h : DataW.trod enc Try.prog W 0 (fun _ => true) true n 22 [v] = some y) : ∃ z, v = .int .u16 z ∧ Fits16 z := by
  obtain ⟨z, hv, _, hw⟩ := DataW.trod_int Try.underlying22 h
  have := bounds_u16 hw
  simp only [List.cons.injEq, and_true] at hv
  exact ⟨z, hv, by unfold Fits16; omega⟩
theorem u32_of {v : Value} {n : Nat} {y : DataW H × List MemPlace} (h : DataW.trod enc Try.prog W 0 (fun _ => true) true n 24 [v] = some y) : ∃ z, v = .int .u32 z ∧ Fits32 z := by
  obtain ⟨z, hv, _, hw⟩ := DataW.trod_int Try.underlying24 h
  have := bounds_u32 hw
  simp only [List.cons.injEq, and_true] at hv
  exact ⟨z, hv, by unfold Fits32; omega⟩
theorem u64_of {v : Value} {n : Nat} {y : DataW H × List MemPlace} (h : DataW.trod enc Try.prog W 0 (fun _ => true) true n 23 [v] = some y) : ∃ z, v = .int .u64 z ∧ FitsU z := by
  obtain ⟨z, hv, _, hw⟩ := DataW.trod_int Try.underlying23 h
  simp only [List.cons.injEq, and_true] at hv
  exact ⟨z, hv, fitsU hw⟩
theorem slice_form {t e : TypeId} {v : Value} {n : Nat} {y : DataW H × List MemPlace} (ht : Try.prog.underlying t = some (.slice e)) (h : DataW.trod enc Try.prog W 0 (fun _ => true) true n t [v] = some y) : ∃ a l c, v = .slice a l c := by
  rcases DataW.trod_slice ht h with ⟨hcs, _⟩ | ⟨a, l, c, _, _, _, _, hcs, _⟩
  · simp only [List.cons.injEq, and_true] at hcs; exact ⟨_, _, _, hcs⟩
  · simp only [List.cons.injEq, and_true] at hcs; exact ⟨_, _, _, hcs⟩
theorem req_of {cs : List Value} {n : Nat} {y : DataW H × List MemPlace} (h : DataW.trod enc Try.prog W 0 (fun _ => true) true n 27 cs = some y) : ∃ r A k C D, cs = reqL r A k C ∧ r.Fits ∧ DIn W A k C D := by
  obtain ⟨xs, m, _, _, hlen, hxl, hf⟩ := DataW.trod_struct Try.underlying27 h
  have hc6 : Try.prog.cellsOf 27 = 6 := by kernel_rfl
  rw [hc6] at hlen
  match cs, hlen, xs, hxl with
  | [v0, v1, v2, v3, v4, v5], _, [x0, x1, x2, x3, x4, x5], _ =>
    have h0 := hf 0 _ rfl
    have h1 := hf 1 _ rfl
    have h2 := hf 2 _ rfl
    have h3 := hf 3 _ rfl
    have h4 := hf 4 _ rfl
    have h5 := hf 5 _ rfl
    simp only [List.getElem?_cons_zero, List.getElem?_cons_succ] at h0 h1 h2 h3 h4 h5
    obtain ⟨fl, rfl, f0⟩ := u16_of h0
    obtain ⟨kd, rfl, f1⟩ := u16_of h1
    obtain ⟨ck, rfl, f2⟩ := u64_of h2
    obtain ⟨ofs, rfl, f3⟩ := u64_of h3
    obtain ⟨ln, rfl, f4⟩ := u32_of h4
    obtain ⟨A, k, C, rfl⟩ := slice_form Try.underlying25 h5
    obtain ⟨D, hD⟩ := bytes_of h5
    exact ⟨⟨fl, kd, ck, ofs, ln⟩, A, k, C, D, rfl, ⟨f0, f1, f2, f3, f4⟩, hD⟩
theorem open_request {r : Reach} {b0 : Nat} {v : Value} {d : DataW H} {p : List MemPlace} (hv : Value.okWide Try.prog W r b0 27 v) (h : Came enc W 27 v d p) :
    ∃ (r : Rq) (A : Option Addr) (k C : Nat) (D : List Int), v = .agg (reqL r A k C).toArray ∧ r.Fits ∧ DIn W A k C D := by
  obtain ⟨cs, rfl, hsz⟩ := okWide_struct Try.underlying27 hv
  obtain ⟨fuel, hf⟩ := h
  have hf' : DataW.trod enc Try.prog W 0 (fun _ => true) true fuel 27 cs.toList = some (d, p) := by simpa [Value.cells] using hf
  obtain ⟨r, A, k, C, D, hc, hr, hD⟩ := req_of hf'
  exact ⟨r, A, k, C, D, by rw [← hc], hr, hD⟩
end
end Go.Proofs.Ytlfmdplaoalahab
