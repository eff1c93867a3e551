/- The two tables in the world; a list of bytes in the world. -/
import Derived.Test.YtpliokkmiijieaaDoorDigest
import Derived.Lib.SlBytesConst
import Derived.Deep.Cut
namespace Go.Proofs.YtpliokkmiijieaaDoor
open Go.RowKit
set_option linter.unusedVariables false
set_option maxRecDepth 4000

/-- The program's two tables lie where its text lays them. -/
def GIn (w : World) : Prop := SIn w ∧ KIn w
theorem GIn.below {w w' : World} {B : Nat} (h : GIn w) (hb : Below B w w') (hB : 1 < B) : GIn w' := ⟨h.1.below hb (by omega), h.2.below hb hB⟩
theorem GIn.lt {w : World} (h : GIn w) : 1 < w.heap.size := h.2.lt
theorem GIn.only {g : Nat} {w w' : World} (h : GIn w) (ho : Only g w w') (hg : 1 < g) : GIn w' := ⟨fun i hi => ho.cell (h.1 i hi) (by show 0 ≠ g; omega), h.2.only ho (by omega)⟩
theorem GIn.alloc {w : World} (h : GIn w) (o : Obj) : GIn (w.alloc o) := h.below ((Below.refl _ _).alloc (Nat.le_refl _) o) h.lt

/-- A list of bytes that lies in the world. -/
def BIn (w : World) (a : Option Addr) (len : Nat) (zs : List Int) : Prop :=
  zs.length = len ∧ len ≤ maxLen ∧ (∀ z ∈ zs, Fits8 z) ∧
  (len = 0 ∨ ∃ b off, a = some ⟨b, off, none⟩ ∧ ∀ i, i < len → w.cell? ⟨b, off + i, none⟩ = some (.int .u8 (zs.getD i 0)))
theorem BIn.lin {w w' : World} {g : Nat} {a : Option Addr} {len : Nat} {zs : List Int} (h : BIn w a len zs) (hb : Below w.heap.size w w') (hg : w.heap.size ≤ g) : LIn w' g a len zs := by
  obtain ⟨h1, h2, h3, h4⟩ := h
  refine ⟨h1, h2, h3, ?_⟩
  rcases h4 with h4 | ⟨b, off, ha, hc⟩
  · exact .inl h4
  · by_cases h0 : len = 0
    · exact .inl h0
    · have hlt : b < w.heap.size := old_block (hc 0 (by omega))
      exact .inr ⟨b, off, ha, by omega, fun i hi => by rw [hb.cell (by exact hlt)]; exact hc i hi⟩
theorem BIn.below {w w' : World} {a : Option Addr} {len : Nat} {zs : List Int} (h : BIn w a len zs) (hb : Below w.heap.size w w') : BIn w' a len zs := by
  obtain ⟨h1, h2, h3, h4⟩ := h
  refine ⟨h1, h2, h3, ?_⟩
  rcases h4 with h4 | ⟨b, off, ha, hc⟩
  · exact .inl h4
  · exact .inr ⟨b, off, ha, fun i hi => by rw [hb.cell (old_block (hc i hi))]; exact hc i hi⟩
end Go.Proofs.YtpliokkmiijieaaDoor
