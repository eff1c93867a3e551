/- What a device holds stays well formed. -/
import Derived.Test.YteokhkoaieibmaaZCr
namespace Go.Proofs.Yteokhkoaieibmaa
open Go.RowKit Go.Shelf
set_option linter.unusedVariables false
set_option maxRecDepth 4000

theorem Wf.set {s : Sh} {zs : List Zn} (h : Wf s zs) (i : Nat) (z : Zn) (hz : (z.1.length : Int) ≤ s.zb ∧ 0 ≤ z.2 ∧ z.2 ≤ z.1.length ∧ ∀ D ∈ z.1, (D.length : Int) = s.b) : Wf s (zs.set i z) := by
  refine ⟨h.right, by rw [List.length_set]; exact h.len, fun y hy => ?_⟩
  rcases List.mem_or_eq_of_mem_set hy with h1 | h1
  · exact h.zone y h1
  · rw [h1]; exact hz
theorem atZ_mem {zs : List Zn} {zn : Int} (h : 0 ≤ zn) (h' : zn ≤ (zs.length : Int) - 1) : atZ zs zn ∈ zs := by
  unfold atZ
  rw [if_pos h]
  have : zn.toNat < zs.length := by omega
  simp [List.getD, this]
theorem Wf.app {s : Sh} {zs : List Zn} (h : Wf s zs) (zn : Int) (D : List Int) : Wf s (appZ s zs zn D) := by
  unfold appZ
  split
  · rename_i ho
    split
    · exact h
    · rename_i hf
      refine h.set _ _ ?_
      have hz := h.zone _ (atZ_mem ho.1 ho.2.1)
      unfold appFull at hf
      refine ⟨by simp; omega, hz.2.1, by simp; omega, fun E hE => ?_⟩
      rcases List.mem_append.1 hE with h1 | h1
      · exact hz.2.2.2 E h1
      · rw [List.mem_singleton.1 h1]; exact ho.2.2
  · exact h
theorem Wf.reset {s : Sh} {zs : List Zn} (h : Wf s zs) (zn : Int) : Wf s (resetZ zs zn) := by
  unfold resetZ
  split
  · refine h.set _ _ ?_
    have := h.right.2.2.1
    simp; omega
  · exact h
theorem Wf.map {s : Sh} {zs : List Zn} (h : Wf s zs) (f : Nat → Zn → Zn) (hf : ∀ i z, z ∈ zs → ((f i z).1.length : Int) ≤ s.zb ∧ 0 ≤ (f i z).2 ∧ (f i z).2 ≤ (f i z).1.length ∧ ∀ D ∈ (f i z).1, (D.length : Int) = s.b) : Wf s (zs.mapIdx f) := by
  refine ⟨h.right, by simp; exact h.len, fun y hy => ?_⟩
  obtain ⟨i, hi, rfl⟩ := List.mem_mapIdx.1 hy
  exact hf i _ (List.getElem_mem hi)
theorem Wf.flush {s : Sh} {zs : List Zn} (h : Wf s zs) : Wf s (flushZ zs) :=
  h.map _ (fun i z hz => by have := h.zone z hz; exact ⟨this.1, by simp [fl], by simp [fl], this.2.2.2⟩)
theorem keptB_length {us : List (List Int)} {k t : Int} {n : Int} (h : ∀ D ∈ us, (D.length : Int) = n) : ∀ D ∈ keptB us k t, (D.length : Int) = n := by
  intro D hD
  unfold keptB at hD
  rcases List.mem_append.1 hD with h1 | h1
  · exact h D (List.mem_of_mem_take h1)
  · split at h1
    · rename_i E hE
      split at h1
      · rw [List.mem_singleton.1 h1, tornL_length (by omega)]
        exact h E (List.mem_of_getElem? hE)
      · simp at h1
    · simp at h1
theorem crashB_length {bs : List (List Int)} {d : Nat} {k t : Int} {n : Int} (h : ∀ D ∈ bs, (D.length : Int) = n) : ∀ D ∈ crashB bs d k t, (D.length : Int) = n := by
  intro D hD
  rcases List.mem_append.1 hD with h1 | h1
  · exact h D (List.mem_of_mem_take h1)
  · exact keptB_length (fun E hE => h E (List.mem_of_mem_drop hE)) D h1
theorem Wf.crash {s : Sh} {zs : List Zn} (h : Wf s zs) (ls : List (Int × Int)) : Wf s (crashZ ls zs) :=
  h.map _ (fun i z hz => by
    have hh := h.zone z hz
    have := crashB_len z.1 z.2.toNat (lossAt ls i).1 (lossAt ls i).2
    exact ⟨by simp only [cr1]; omega, by simp only [cr1]; omega, by simp only [cr1]; omega, crashB_length hh.2.2.2⟩)
theorem Wf.nz {s : Sh} {zs : List Zn} (h : Wf s zs) : zs.length ≤ 256 := by have := h.len; have := h.right.2.1; omega
end Go.Proofs.Yteokhkoaieibmaa
