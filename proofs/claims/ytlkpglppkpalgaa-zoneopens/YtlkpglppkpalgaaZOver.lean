/- What is told is written over. -/
import Derived.Test.YtlkpglppkpalgaaZRaw
import Derived.Test.YtlkpglppkpalgaaZROpen
import Derived.BigRegion
namespace Go.Proofs.Ytlkpglppkpalgaa
open Go.RowKit Go.Shelf
set_option linter.unusedVariables false
set_option maxRecDepth 4000

def HRow (B : Nat) (wr : World) (u : Value) (bs : List (List Int)) : Prop :=
  ∃ ws, wr.ownsRow 0 33 1 u bs.length ws ∧ ws.length = bs.length ∧ ∀ (k : Nat) (h : Value) (D : List Int), ws[k]? = some h → bs[k]? = some D → ∃ gb cb L y, h = .slice (some ⟨gb, 0, none⟩) D.length cb ∧ B ≤ gb ∧ Blk wr gb L 5 ∧ L[0]? = some (.int .u8 y)
def HZs (B : Nat) (wr : World) (v : Value) (zs : List Zn) : Prop :=
  ∃ vs, wr.ownsRow 0 49 2 v zs.length (zcells vs zs) ∧ vs.length = zs.length ∧ ∀ (i : Nat) (u : Value) (z : Zn), vs[i]? = some u → zs[i]? = some z → HRow B wr u z.1
theorem zrow_set {w : World} {base s : Nat} {t T : TypeId} {v : Value} {n q : Nat} {zs L : List Value} (h : w.ownsRow base t s v n zs) (hb : Blk w q L T) (ht : t ≠ T) (i : Nat) (u : Value) : (w.setCell ⟨q, i, none⟩ u).ownsRow base t s v n zs := by
  refine ⟨h.1, ?_⟩
  rcases h.2 with h2 | ⟨g, cap, cur, hv, hbg, hg, hr⟩
  · exact .inl h2
  · have hne : g ≠ q := by
      rintro rfl
      unfold Blk at hb
      rw [hg] at hb
      cases hb
      exact ht rfl
    exact .inr ⟨g, cap, cur, hv, hbg, by rw [Below.heap_setCell _ _ _ _ hne]; exact hg, hr⟩
theorem ZsAt.over {B : Nat} {W : World} {v : Value} {zs : List Zn} (h : ZsAt (fun x => B ≤ x) W v zs) (hp : ∀ z ∈ zs, ∀ D ∈ z.1, 0 < D.length) : HZs B W v zs := by
  obtain ⟨vs, h1, h2, h3, h4, h5, h6⟩ := h
  refine ⟨vs, h1, h3, fun i u z hu hz => ?_⟩
  obtain ⟨ws, r1, r2, r3, r4⟩ := h4 i u z hu hz
  refine ⟨ws, r1, r3.1, fun k h D hh hD => ?_⟩
  have bk := r3.2 k h D hh hD
  have hpos := hp z (List.mem_of_getElem? hz) D (List.mem_of_getElem? hD)
  rcases bk.1.2 with ⟨hv, hz⟩ | ⟨g, cap, cur, hv, hb, hg, hc, hcm, hsz, htake⟩
  · omega
  · refine ⟨g, cap, cur.toList, D.getD 0 0, hv, bk.2.1 g (by rw [hv]; rfl), by unfold Blk; rw [hg], ?_⟩
    have e : (List.take (D.length * 1) cur.toList)[0]? = cur.toList[0]? := List.getElem?_take_of_lt (by omega)
    rw [← e, htake]
    simp [u8s, List.getD, hpos]
theorem HZs.set {B : Nat} {wr : World} {v : Value} {zs : List Zn} (h : HZs B wr v zs) {gb : Nat} {L : List Value} (hb : Blk wr gb L 5) (hL : 0 < L.length) (y : Int) : HZs B (wr.setCell ⟨gb, 0, none⟩ (.int .u8 y)) v zs := by
  obtain ⟨vs, h1, h2, h3⟩ := h
  refine ⟨vs, zrow_set h1 hb (by decide) 0 _, h2, fun i u z hu hz => ?_⟩
  obtain ⟨ws, r1, r2, r3⟩ := h3 i u z hu hz
  refine ⟨ws, zrow_set r1 hb (by decide) 0 _, r2, fun k h D hh hD => ?_⟩
  obtain ⟨g2, c2, L2, y2, e1, e2, e3, e4⟩ := r3 k h D hh hD
  by_cases e : g2 = gb
  · subst e
    exact ⟨g2, c2, L.set 0 (.int .u8 y), y, e1, e2, hb.set 0 _, by simp [hL]⟩
  · exact ⟨g2, c2, L2, y2, e1, e2, e3.set_other (a := ⟨gb, 0, none⟩) e _, e4⟩
theorem HZs.under {B : Nat} {W W' : World} {v : Value} {zs : List Zn} (h : HZs B W v zs) (hb : Below W.heap.size W W') : HZs B W' v zs := by
  have ho : ∀ {t : TypeId} {s n : Nat} {u : Value} {xs : List Value}, W.ownsRow 0 t s u n xs → W'.ownsRow 0 t s u n xs := by
    intro t s n u xs h
    refine ⟨h.1, ?_⟩
    rcases h.2 with h2 | ⟨g, cap, cur, hv, hbg, hg, hr⟩
    · exact .inl h2
    · exact .inr ⟨g, cap, cur, hv, hbg, by rw [hb.block g (Array.getElem?_eq_some_iff.1 hg).1]; exact hg, hr⟩
  obtain ⟨vs, h1, h2, h3⟩ := h
  refine ⟨vs, ho h1, h2, fun i u z hu hz => ?_⟩
  obtain ⟨ws, r1, r2, r3⟩ := h3 i u z hu hz
  refine ⟨ws, ho r1, r2, fun k h D hh hD => ?_⟩
  obtain ⟨g2, c2, L2, y2, e1, e2, e3, e4⟩ := r3 k h D hh hD
  exact ⟨g2, c2, L2, y2, e1, e2, e3.below hb e3.lt, e4⟩
theorem HZs.at {B : Nat} {wr : World} {a : Option Addr} {n c : Nat} {zs : List Zn} (h : HZs B wr (.slice a n c) zs) {i : Nat} {z : Zn} (hz : zs[i]? = some z) : ∃ g A C, a = some ⟨g, 0, none⟩ ∧ wr.cell? ⟨g, i * 2, none⟩ = some (.slice A z.1.length C) ∧
    ∀ (k : Nat) (D : List Int), z.1[k]? = some D → ∃ r gb cb L y, A = some ⟨r, 0, none⟩ ∧ wr.cell? ⟨r, k, none⟩ = some (.slice (some ⟨gb, 0, none⟩) D.length cb) ∧ B ≤ gb ∧ Blk wr gb L 5 ∧ 0 < L.length ∧ wr.cell? ⟨gb, 0, none⟩ = some (.int .u8 y) ∧ wr.frozen? ⟨gb, 0, none⟩ = false := by
  obtain ⟨vs, h1, h2, h3⟩ := h
  have hlt := (List.getElem?_eq_some_iff.1 hz).1
  obtain ⟨u, hu⟩ : ∃ v, vs[i]? = some v := ⟨vs[i]'(by rw [h2]; exact hlt), by simp [h2, hlt]⟩
  obtain ⟨ws, r1, r2, r3⟩ := h3 i u z hu hz
  obtain ⟨g1, g2⟩ := zcells_get vs zs i _ z hu hz
  have hl := zcells_length vs zs h2
  obtain ⟨g, rfl⟩ : ∃ g, a = some ⟨g, 0, none⟩ := by
    rcases h1.2 with ⟨hv, hz⟩ | ⟨g, cap, cur, hv, _⟩
    · omega
    · cases hv; exact ⟨g, rfl⟩
  obtain ⟨A, C, rfl⟩ : ∃ A C, u = .slice A z.1.length C := by
    rcases r1.2 with ⟨hv, hz⟩ | ⟨g, cap, cur, hv, _⟩
    · exact ⟨none, 0, by rw [hv, hz]⟩
    · exact ⟨_, _, hv⟩
  have hn : n = zs.length := (own_cap h1).2
  subst hn
  refine ⟨g, A, C, rfl, by rw [Nat.mul_comm, h1.cellAt _ (by omega)]; exact g1, fun k D hD => ?_⟩
  have hk := (List.getElem?_eq_some_iff.1 hD).1
  obtain ⟨x, hx⟩ : ∃ v, ws[k]? = some v := ⟨ws[k]'(by rw [r2]; exact hk), by simp [r2, hk]⟩
  obtain ⟨gb, cb, L, y, rfl, e2, e3, e4⟩ := r3 k x D hx hD
  obtain ⟨r, rfl⟩ : ∃ r, A = some ⟨r, 0, none⟩ := by
    rcases r1.2 with ⟨hv, hz⟩ | ⟨g, cap, cur, hv, _⟩
    · omega
    · cases hv; exact ⟨g, rfl⟩
  exact ⟨r, gb, cb, L, y, rfl, by rw [r1.cellAt _ (by omega)]; exact hx, e2, e3, (List.getElem?_eq_some_iff.1 e4).1, by rw [e3.cell]; exact e4, e3.frozen 0⟩
theorem Dv.beneath {T : TypeId} {O : Nat → Prop} {W W' : World} {p : Nat} {s : Sh} {zs : List Zn} (h : Dv T O W p s zs) (hb : Below W.heap.size W W') : Dv T O W' p s zs := by
  obtain ⟨g, c, vs, hv⟩ := h
  exact ⟨g, c, vs, hv.under hb⟩
end Go.Proofs.Ytlkpglppkpalgaa
