/- Texts of this seat, one behind the other: ZCrashM, ZCrash, ZCrashed, ZDev. -/
import Derived.Test.YtncnkpnfmbgifaaGreatP3
import Derived.Lib.SliceRun
/- What a crash leaves of a zone: the mathematics; the memory of one call of crashed. -/
namespace Go.Proofs.YtncnkpnfmbgifaaGreat
open Go.RowKit Go.Shelf
set_option linter.unusedVariables false
set_option maxRecDepth 4000

end Go.Proofs.YtncnkpnfmbgifaaGreat

/- What one call of crashed does. -/
namespace Go.Proofs.YtncnkpnfmbgifaaGreat
open Go.RowKit Go.Shelf
set_option linter.unusedVariables false
set_option maxRecDepth 4000
attribute [local go_sem] Oper.semAt_some

section
variable {w : World} {O : Nat → Prop} {q : Nat} {a : Option Addr} {n c dn : Nat} {vs rest : List Value} {bs : List (List Int)} {k t : Int} {j s : Nat} {W W' : World}
end

end Go.Proofs.YtncnkpnfmbgifaaGreat

/- What one call of crashed does: the walk. -/
namespace Go.Proofs.YtncnkpnfmbgifaaGreat
open Go.RowKit Go.Shelf
set_option linter.unusedVariables false
set_option maxRecDepth 4000
attribute [local go_sem] Oper.semAt_some

end Go.Proofs.YtncnkpnfmbgifaaGreat

/- A device in memory, the program's or the document's. -/
namespace Go.Proofs.YtncnkpnfmbgifaaGreat
open Go.RowKit Go.Shelf
set_option linter.unusedVariables false
set_option maxRecDepth 4000

structure Sh where
 z : Int
 zb : Int
 b : Int
 r : Int
def shL (s : Sh) : List Value := [.int .i64 s.z, .int .i64 s.zb, .int .i64 s.b, .int .i64 s.r]
def Powers : List Int := [64, 128, 256, 512, 1024, 2048, 4096]
def RightS (s : Sh) : Prop := 6 ≤ s.z ∧ s.z ≤ 256 ∧ 8 ≤ s.zb ∧ s.zb ≤ 4096 ∧ s.b ∈ Powers ∧ 2 ≤ s.r ∧ s.r ≤ s.z - 4
instance (s : Sh) : Decidable (RightS s) := by unfold RightS; infer_instance
theorem power_bounds {b : Int} (h : b ∈ Powers) : 64 ≤ b ∧ b ≤ 4096 := by
 simp [Powers] at h
 omega

structure Wf (s : Sh) (zs : List Zn) : Prop where
 right : RightS s
 len : (zs.length : Int) = s.z
 zone : ∀ z ∈ zs, (z.1.length : Int) ≤ s.zb ∧ 0 ≤ z.2 ∧ z.2 ≤ z.1.length ∧ ∀ D ∈ z.1, (D.length : Int) = s.b

structure DvV (T : TypeId) (O : Nat → Prop) (W : World) (p : Nat) (s : Sh) (zs : List Zn) (g c : Nat) (vs : List Value) : Prop where
 hp : Blk W p [.int .i64 s.z, .int .i64 s.zb, .int .i64 s.b, .int .i64 s.r, .slice (some ⟨g, 0, none⟩) zs.length c] T
 hg : W.ownsRow 0 120 2 (.slice (some ⟨g, 0, none⟩) zs.length c) zs.length (zcells vs zs)
 op : O p
 og : O g
 vl : vs.length = zs.length
 rows : ∀ (i : Nat) (u : Value) (z : Zn), vs[i]? = some u → zs[i]? = some z → RowAt O W u z.1
 ap : Apart vs
 small : zs.length ≤ 1000
 ty : T ≠ 120 ∧ T ≠ 43 ∧ T ≠ 5
def Dv (T : TypeId) (O : Nat → Prop) (W : World) (p : Nat) (s : Sh) (zs : List Zn) : Prop := ∃ g c vs, DvV T O W p s zs g c vs

section
variable {T : TypeId} {O S : Nat → Prop} {W W' : World} {p : Nat} {s : Sh} {zs : List Zn} {g c : Nat} {vs : List Value}
theorem DvV.all (h : DvV T O W p s zs g c vs) : ZsAt O W (.slice (some ⟨g, 0, none⟩) zs.length c) zs := ⟨vs, h.hg, fun r e => by cases e; exact h.og, h.vl, h.rows, h.ap, h.small⟩
theorem DvV.out (h : DvV T O W p s zs g c vs) (ho : Out S W W') (hS : ∀ x, O x → ¬ S x) : DvV T O W' p s zs g c vs := by
 refine ⟨ho.blk h.hp (hS p h.op), ho.own h.hg (fun r e => by cases e; exact hS g h.og), h.op, h.og, h.vl, fun i u z h1 h2 => ?_, h.ap, h.small, h.ty⟩
 have := h.rows i u z h1 h2
 exact this.out ho (fun r hr => by obtain ⟨_, _, hb, _⟩ := this; exact hS r (hb r hr)) (fun c _ hc _ => hS c hc)
theorem DvV.mono {O' : Nat → Prop} (h : DvV T O W p s zs g c vs) (hO : ∀ x, O x → x < W.heap.size → O' x) : DvV T O' W p s zs g c vs :=
 ⟨h.hp, h.hg, hO p h.op h.hp.lt, hO g h.og (h.hg.lt g rfl).2, h.vl, fun i u z h1 h2 => (h.rows i u z h1 h2).mono hO, h.ap, h.small, h.ty⟩
theorem DvV.under (h : DvV T O W p s zs g c vs) (hb : Below W.heap.size W W') : DvV T O W' p s zs g c vs := h.out (below_out Non hb) (fun _ _ e => e)
theorem DvV.pcell (h : DvV T O W p s zs g c vs) : W.cell? ⟨p, 0, none⟩ = some (.int .i64 s.z) ∧ W.cell? ⟨p, 1, none⟩ = some (.int .i64 s.zb) ∧ W.cell? ⟨p, 2, none⟩ = some (.int .i64 s.b) ∧ W.cell? ⟨p, 3, none⟩ = some (.int .i64 s.r) ∧ W.cell? ⟨p, 4, none⟩ = some (.slice (some ⟨g, 0, none⟩) zs.length c) :=
 ⟨h.hp.cell 0, h.hp.cell 1, h.hp.cell 2, h.hp.cell 3, h.hp.cell 4⟩
theorem DvV.at (h : DvV T O W p s zs g c vs) {i : Nat} {z : Zn} (hz : zs[i]? = some z) : ∃ a cc, vs[i]? = some (.slice a z.1.length cc) ∧ RowAt O W (.slice a z.1.length cc) z.1 ∧ W.cell? ⟨g, i * 2, none⟩ = some (.slice a z.1.length cc) ∧ W.cell? ⟨g, i * 2 + 1, none⟩ = some (.int .i64 z.2) := by
 rw [Nat.mul_comm i 2]
 have hi := (List.getElem?_eq_some_iff.1 hz).1
 obtain ⟨u, hu⟩ : ∃ u, vs[i]? = some u := ⟨vs[i]'(by rw [h.vl]; exact hi), by simp [h.vl, hi]⟩
 have hr := h.rows i u z hu hz
 obtain ⟨a, cc, rfl⟩ := hr.slice
 obtain ⟨h1, h2⟩ := zcells_get vs zs i _ z hu hz
 have hl := zcells_length vs zs h.vl
 exact ⟨a, cc, hu, hr, by rw [h.hg.cellAt (2 * i) (by omega)]; exact h1, by rw [h.hg.cellAt (2 * i + 1) (by omega)]; exact h2⟩
theorem DvV.free (h : DvV T O W p s zs g c vs) (j : Nat) : W.frozen? ⟨g, j, none⟩ = false := h.hg.frozenAt j
theorem own_blk {e : TypeId} {sz n cap : Nat} {g : Nat} {xs : List Value} (h : W.ownsRow 0 e sz (.slice (some ⟨g, 0, none⟩) n cap) n xs) : ∃ L, Blk W g L e := by
 obtain ⟨cur, hc⟩ := own_at_block h rfl
 exact ⟨cur.toList, by unfold Blk; rw [hc]⟩
theorem DvV.setD (h : DvV T O W p s zs g c vs) {i : Nat} {z : Zn} (hz : zs[i]? = some z) (d : Int) : DvV T O (W.setCell ⟨g, i * 2 + 1, none⟩ (.int .i64 d)) p s (zs.set i (z.1, d)) g c vs := by
 rw [Nat.mul_comm i 2]
 obtain ⟨L, hL⟩ := own_blk h.hg
 have hl : (zs.set i (z.1, d)).length = zs.length := by simp
 obtain ⟨s1, s2⟩ := h.hg.stored (2 * i + 1) (.int .i64 d)
 rw [zcells_setD vs zs i (z.1, d) h.vl] at s1
 refine ⟨by rw [hl]; exact h.hp.set_other (blk_ne h.hp hL h.ty.1) _, by rw [hl]; exact s1, h.op, h.og, by rw [hl]; exact h.vl, fun j u y h1 h2 => ?_, h.ap, by rw [hl]; exact h.small, h.ty⟩
 refine out_row hL (by decide) (by decide) _ _ ?_
 by_cases e : i = j
 ·subst e
  have hi := (List.getElem?_eq_some_iff.1 hz).1
  rw [List.getElem?_set_self hi] at h2
  cases h2
  exact h.rows i u z h1 hz
 ·rw [List.getElem?_set_ne e] at h2
  exact h.rows j u y h1 h2
theorem DvV.upd {O1 : Nat → Prop} {W1 : World} {i : Nat} {z : Zn} {u u' : Value} {bs' : List (List Int)} (h : DvV T O W p s zs g c vs) (hz : zs[i]? = some z) (hu : vs[i]? = some u) (ho : Out (fun x => u.ownBlock = some x) W W1)
  (hO : ∀ x, O x → O1 x) (hr : RowAt O1 W1 u' bs') (hf : u'.ownBlock = u.ownBlock ∨ ∀ r, u'.ownBlock = some r → W.heap.size ≤ r) :
  W1.cell? ⟨g, i * 2, none⟩ = some u ∧ W1.cell? ⟨g, i * 2 + 1, none⟩ = some (.int .i64 z.2) ∧ (∀ j, W1.frozen? ⟨g, j, none⟩ = false) ∧ DvV T O1 (W1.setCell ⟨g, i * 2, none⟩ u') p s (zs.set i (bs', z.2)) g c (vs.set i u') := by
 rw [Nat.mul_comm i 2]
 have hi := (List.getElem?_eq_some_iff.1 hz).1
 have hru := h.rows i u z hu hz
 obtain ⟨uv, u1, u2, u3, _⟩ := id hru
 obtain ⟨L, hL⟩ := own_blk h.hg
 have hgu : u.ownBlock ≠ some g := blk_not_row hL (by decide) u1
 have hpu : u.ownBlock ≠ some p := blk_not_row h.hp h.ty.2.1 u1
 have hg1 : W1.ownsRow 0 120 2 (.slice (some ⟨g, 0, none⟩) zs.length c) zs.length (zcells vs zs) := ho.own h.hg (fun r e => by cases e; exact hgu)
 have hp1 := ho.blk h.hp hpu
 obtain ⟨L1, hL1⟩ := own_blk hg1
 have hl : (zs.set i (bs', z.2)).length = zs.length := by simp
 obtain ⟨g1, g2⟩ := zcells_get vs zs i _ z hu hz
 have hzl := zcells_length vs zs h.vl
 obtain ⟨s1, s2⟩ := hg1.stored (2 * i) u'
 rw [zcells_setV vs zs i u' h.vl] at s1
 have hsame : zcells (vs.set i u') zs = zcells (vs.set i u') (zs.set i (bs', z.2)) := zcells_same _ _ _ (by
  rw [List.map_set]
  apply List.ext_getElem?
  intro j
  by_cases e : i = j
  ·subst e; rw [List.getElem?_set_self (by simp; exact hi)]; simp [hz]
  ·rw [List.getElem?_set_ne e])
 rw [hsame] at s1
 refine ⟨by rw [hg1.cellAt _ (by omega)]; exact g1, by rw [hg1.cellAt _ (by omega)]; exact g2, fun j => hg1.frozenAt j, ⟨by rw [hl]; exact hp1.set_other (blk_ne hp1 hL1 h.ty.1) _, by rw [hl]; exact s1, hO p h.op, hO g h.og, by simp [h.vl], fun j v y h1 h2 => ?_, ?_, by rw [hl]; exact h.small, h.ty⟩⟩
 ·refine out_row hL1 (by decide) (by decide) _ _ ?_
  by_cases e : i = j
  ·subst e
   rw [List.getElem?_set_self hi] at h2
   rw [List.getElem?_set_self (by rw [h.vl]; exact hi)] at h1
   cases h1; cases h2
   exact hr
  ·rw [List.getElem?_set_ne e] at h1 h2
   have hrj := h.rows j v y h1 h2
   refine (hrj.out ho (fun r e1 e2 => e (h.ap i j u v r hu h1 e2 e1)) (fun x cur _ hc e2 => ?_)).mono (fun x hx _ => hO x hx)
   obtain ⟨cur', hc'⟩ := own_at_block u1 e2
   rw [hc] at hc'; cases hc'
 ·intro j k v y r h1 h2 e1 e2
  have hb : ∀ (j : Nat) (v : Value) (r : Nat), j ≠ i → vs[j]? = some v → v.ownBlock = some r → u'.ownBlock = some r → False := by
   intro j v r hj hv er eu
   rcases hf with hf | hf
   ·rw [hf] at eu
    exact hj (h.ap j i v u r hv hu er eu)
   ·have := hf r eu
    have hlt : j < zs.length := by rw [← h.vl]; exact (List.getElem?_eq_some_iff.1 hv).1
    obtain ⟨_, q1, _⟩ := h.rows j v zs[j] hv (by simp [hlt])
    have := (q1.lt r er).2
    omega
  by_cases ej : i = j
  ·by_cases ek : i = k
   ·omega
   ·subst ej
    rw [List.getElem?_set_self (by rw [h.vl]; exact hi)] at h1
    rw [List.getElem?_set_ne ek] at h2
    cases h1
    exact (hb k y r (by omega) h2 e2 e1).elim
  ·rw [List.getElem?_set_ne ej] at h1
   by_cases ek : i = k
   ·subst ek
    rw [List.getElem?_set_self (by rw [h.vl]; exact hi)] at h2
    cases h2
    exact (hb j v r (by omega) h1 e1 e2).elim
   ·rw [List.getElem?_set_ne ek] at h2
    exact h.ap j k v y r h1 h2 e1 e2
end
end Go.Proofs.YtncnkpnfmbgifaaGreat
