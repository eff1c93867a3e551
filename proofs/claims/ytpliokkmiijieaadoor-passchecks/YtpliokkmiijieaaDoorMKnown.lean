/- A list of bytes as the only piece; a new row of bytes. -/
import Derived.Test.YtpliokkmiijieaaDoorOfOf
import Derived.Test.YtpliokkmiijieaaDoorSameOf
namespace Go.Proofs.YtpliokkmiijieaaDoor
open Go.RowKit
set_option linter.unusedVariables false
set_option maxRecDepth 4000

theorem bin_none (w : World) : BIn w none 0 [] := ⟨rfl, Nat.zero_le _, by simp, .inl rfl⟩
theorem new_bin {w : World} {k n : Nat} {L : List Int} {C : Array Value} {fr : Nat × Nat} (hk : w.heap.size = k) (hC : C = (u8s L).toArray) (hn : L.length = n) (hf : ∀ z ∈ L, Fits8 z) (hm : n ≤ maxLen) :
    BIn (w.alloc (.cells C 5 fr)) (some ⟨k, 0, none⟩) n L := by
  subst hk; subst hC; subst hn
  refine ⟨rfl, hm, hf, .inr ⟨_, 0, rfl, fun i hi => ?_⟩⟩
  rw [Nat.zero_add, World.cell?_alloc_mark]
  simp [u8s, List.getD, hi]
theorem BIn.alloc {w : World} {a : Option Addr} {len : Nat} {zs : List Int} (h : BIn w a len zs) (o : Obj) : BIn (w.alloc o) a len zs := h.below ((Below.refl _ _).alloc (Nat.le_refl _) o)
/-- One list, handed on as the only piece. -/
theorem one_ps {w : World} {k : Nat} {a : Option Addr} {n c : Nat} {zs : List Int} {t : TypeId} (hk : w.heap.size = k) (h : BIn w a n zs) (hc : n ≤ c) (hnil : a = none → n = 0 ∧ c = 0) :
    PsIn (w.alloc (.cells #[.slice a n c] t)) (some ⟨k, 0, none⟩) 1 (fun _ => zs) := by
  subst hk
  refine .inr ⟨_, 0, rfl, fun r hr => ?_⟩
  obtain rfl : r = 0 := by omega
  exact ⟨a, n, c, by rw [Nat.add_zero, World.cell?_alloc_mark]; rfl, h.alloc _, hc, hnil⟩
end Go.Proofs.YtpliokkmiijieaaDoor
