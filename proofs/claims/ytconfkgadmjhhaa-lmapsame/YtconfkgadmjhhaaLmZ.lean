/- A row of places of which one is written over. -/
import Derived.Test.YtconfkgadmjhhaaLmY
import Derived.Test.YtconfkgadmjhhaaLmI
import Derived.Test.YtconfkgadmjhhaaLmO
namespace Go.Proofs.Ytconfkgadmjhhaa
open Go.RowKit
set_option linter.unusedVariables false
set_option maxRecDepth 4000

theorem own_set {W : World} {B g n cc : Nat} {e : TypeId} {s : Nat} {xs : List Value} (h : W.ownsRow B e s (.slice (some ⟨g, 0, none⟩) n cc) n xs) (i : Nat) (v : Value) : (W.setCell ⟨g, i, none⟩ v).ownsRow B e s (.slice (some ⟨g, 0, none⟩) n cc) n (xs.set i v) := by
  refine ⟨by rw [List.length_set]; exact h.1, ?_⟩
  rcases h.2 with ⟨hv, _⟩ | ⟨g', cap, cur, hv, h1, h2, h3, h4, h5, h6⟩
  · cases hv
  · cases hv
    have hb : Blk W g cur.toList e := by unfold Blk; simpa using h2
    have hb2 := hb.set i v
    refine .inr ⟨g, cc, (cur.toList.set i v).toArray, rfl, h1, hb2, h3, h4, by simpa using h5, ?_⟩
    rw [List.toList_toArray, List.take_set, h6]
theorem own_frozen {W : World} {B g n cc : Nat} {e : TypeId} {s : Nat} {xs : List Value} (h : W.ownsRow B e s (.slice (some ⟨g, 0, none⟩) n cc) n xs) (i : Nat) : W.frozen? ⟨g, i, none⟩ = false := by
  rcases h.2 with ⟨hv, _⟩ | ⟨g', cap, cur, hv, h1, h2, h3, h4, h5, h6⟩
  · cases hv
  · cases hv
    simp [World.frozen?, h2]
def set4 (W : World) (g k : Nat) (x : Pl) : World := (((W.setCell ⟨g, k * 4, none⟩ (.int .u32 x.1.1)).setCell ⟨g, k * 4 + 1, none⟩ (.int .u64 x.1.2)).setCell ⟨g, k * 4 + 2, none⟩ (.int .i64 x.2.1)).setCell ⟨g, k * 4 + 3, none⟩ (.int .i64 x.2.2)
theorem own_set4 {W : World} {B g cc : Nat} {L : List Pl} (h : W.ownsRow B 34 4 (.slice (some ⟨g, 0, none⟩) L.length cc) L.length (plC L)) (k : Nat) (x : Pl) (hk : k < L.length) : (set4 W g k x).ownsRow B 34 4 (.slice (some ⟨g, 0, none⟩) (L.set k x).length cc) (L.set k x).length (plC (L.set k x)) := by
  have := own_set (own_set (own_set (own_set h (k * 4) (.int .u32 x.1.1)) (k * 4 + 1) (.int .u64 x.1.2)) (k * 4 + 2) (.int .i64 x.2.1)) (k * 4 + 3) (.int .i64 x.2.2)
  rw [plC_set L k x hk] at this
  rw [List.length_set]
  exact this
theorem below_set4 {B : Nat} {W0 W : World} {g : Nat} (h : Below B W0 W) (hg : B ≤ g) (k : Nat) (x : Pl) : Below B W0 (set4 W g k x) := (((h.setCell hg _).setCell hg _).setCell hg _).setCell hg _
/-- Both maps, and a list that was told. -/
structure OwnS (w : World) (p b1 b2 r : Nat) (S : List Pl) (c : Nat) (wr : World) (B : Nat) (a : Option Addr) (cc : Nat) (L : List Pl) (W : World) : Prop where
  row : W.ownsRow B 34 4 (.slice a L.length cc) L.length (plC L)
  bel : Below B wr W
  le : wr.heap.size ≤ B
end Go.Proofs.Ytconfkgadmjhhaa
