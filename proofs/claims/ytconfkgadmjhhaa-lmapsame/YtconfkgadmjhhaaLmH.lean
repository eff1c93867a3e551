/- Both maps, and the statement's own three beside them. -/
import Derived.Test.YtconfkgadmjhhaaLmG
import Derived.Test.YtconfkgadmjhhaaLmT
import Derived.Deep.DeepCutAuto
import Derived.BigRegion
namespace Go.Proofs.Ytconfkgadmjhhaa
open Go.RowKit
set_option linter.unusedVariables false
set_option maxRecDepth 4000

structure Sm2 (w : World) (p b1 b2 r : Nat) (S : List Pl) (c bz bc ba : Nat) (aA : Option Addr) (fz : Int → Int) (nz nc : Nat) (fc : Int → Int) (fa : Pr → Int) (W : World) : Prop where
  bo : Both w p b1 b2 r S c W
  z : FMap fZ0 W bz nz fz
  c : FMap fC0 W bc nc fc
  a : FMap fA0 W ba nc fa
  pl : PlIn W aA S.length S
  ne : b1 ≠ bz ∧ b2 ≠ bz ∧ b1 ≠ bc ∧ b2 ≠ bc ∧ b1 ≠ ba ∧ b2 ≠ ba ∧ bz ≠ bc ∧ bz ≠ ba ∧ bc ≠ ba
  lo : w.heap.size ≤ bz ∧ w.heap.size ≤ bc ∧ w.heap.size ≤ ba
theorem PlIn.map {W W' : World} {a : Option Addr} {n : Nat} {L : List Pl} {b : Nat} (h : PlIn W a n L) (hc : ∀ g cur e fr, W.heap[g]? = some (.cells cur e fr) → g ≠ b) (ho : Out (fun k => k = b) W W') : PlIn W' a n L := by
  obtain ⟨h1, h2⟩ := h
  refine ⟨h1, h2.imp id ?_⟩
  rintro ⟨g, rfl, hcs⟩
  refine ⟨g, rfl, fun i x hx => ?_⟩
  have hg : ∀ o v, W.cell? ⟨g, o, none⟩ = some v → g ≠ b := by
    intro o v hv
    unfold World.cell? at hv
    cases hh : W.heap[g]? with
    | none => simp [hh] at hv
    | some ob =>
      cases ob with
      | cells cur e fr => exact hc g cur e fr hh
      | _ => simp [hh] at hv
  obtain ⟨c0, c1, c2, c3⟩ := hcs i x hx
  have hb := hg _ _ c0
  exact ⟨ho.cell c0 hb, ho.cell c1 hb, ho.cell c2 hb, ho.cell c3 hb⟩
section
variable {w : World} {p b1 b2 r : Nat} {S : List Pl} {c bz bc ba : Nat} {aA : Option Addr} {fz : Int → Int} {nz nc : Nat} {fc : Int → Int} {fa : Pr → Int} {W W' : World}
theorem Sm2.below (h : Sm2 w p b1 b2 r S c bz bc ba aA fz nz nc fc fa W) (hb : Below W.heap.size W W') : Sm2 w p b1 b2 r S c bz bc ba aA fz nz nc fc fa W' :=
  ⟨h.bo.below hb, h.z.below hb, h.c.below hb, h.a.below hb, h.pl.below hb, h.ne, h.lo⟩
theorem Sm2.drew (h : Sm2 w p b1 b2 r S c bz bc ba aA fz nz nc fc fa W) : Sm2 w p b1 b2 r S c bz bc ba aA fz nz nc fc fa W.drew := h.below ⟨rfl, rfl, rfl, Nat.le_refl _, fun _ _ => rfl⟩
theorem Sm2.drewN (h : Sm2 w p b1 b2 r S c bz bc ba aA fz nz nc fc fa W) (j : Nat) : Sm2 w p b1 b2 r S c bz bc ba aA fz nz nc fc fa (W.drewN j) := h.below ⟨rfl, rfl, rfl, Nat.le_refl _, fun _ _ => rfl⟩
theorem Sm2.setZ {nz' : Nat} {fz' : Int → Int} (h : Sm2 w p b1 b2 r S c bz bc ba aA fz nz nc fc fa W) (hz : FMap fZ0 W' bz nz' fz') (ho : Out (fun k => k = bz) W W') : Sm2 w p b1 b2 r S c bz bc ba aA fz' nz' nc fc fa W' := by
  obtain ⟨n1, n2, n3, n4, n5, n6, n7, n8, n9⟩ := h.ne
  exact ⟨h.bo.other (fun g cur e fr hg => h.z.no_cells hg) n1 n2 h.lo.1 ho, hz, h.c.out ho (fun e => n7 e.symm), h.a.out ho (fun e => n8 e.symm), h.pl.map (fun g cur e fr hg => h.z.no_cells hg) ho, h.ne, h.lo⟩
theorem Sm2.setA {fa' : Pr → Int} (h : Sm2 w p b1 b2 r S c bz bc ba aA fz nz nc fc fa W) (ha : FMap fA0 W' ba (nc + 1) fa') (ho : Out (fun k => k = ba) W W') : Sm2 w p b1 b2 r S c bz bc ba aA fz nz (nc + 1) fc fa' W' := by
  obtain ⟨n1, n2, n3, n4, n5, n6, n7, n8, n9⟩ := h.ne
  have hcm : FMap fC0 W' bc (nc + 1) fc := by obtain ⟨D, d1, d2⟩ := h.c.out ho (fun e => n9 e); exact ⟨D, d1.mono (by omega), d2⟩
  exact ⟨h.bo.other (fun g cur e fr hg => h.a.no_cells hg) n5 n6 h.lo.2.2 ho, h.z.out ho (fun e => n8 e), hcm, ha, h.pl.map (fun g cur e fr hg => h.a.no_cells hg) ho, h.ne, h.lo⟩
theorem Sm2.setC {fc' : Int → Int} (h : Sm2 w p b1 b2 r S c bz bc ba aA fz nz nc fc fa W) (hc : FMap fC0 W' bc (nc + 1) fc') (ho : Out (fun k => k = bc) W W') : Sm2 w p b1 b2 r S c bz bc ba aA fz nz (nc + 1) fc' fa W' := by
  obtain ⟨n1, n2, n3, n4, n5, n6, n7, n8, n9⟩ := h.ne
  have ham : FMap fA0 W' ba (nc + 1) fa := by obtain ⟨D, d1, d2⟩ := h.a.out ho (fun e => n9 e.symm); exact ⟨D, d1.mono (by omega), d2⟩
  exact ⟨h.bo.other (fun g cur e fr hg => h.c.no_cells hg) n3 n4 h.lo.2.1 ho, h.z.out ho (fun e => n7 e), hc, ham, h.pl.map (fun g cur e fr hg => h.c.no_cells hg) ho, h.ne, h.lo⟩
end
/-- Which places were met. -/
def inA (L : List Pl) (s : Pr) : Int := if L.any (fun q => q.2 == s) then 1 else 0
theorem inA_new {S : List Pl} (g : Good S) {i : Nat} {y : Pl} (hy : S[i]? = some y) : inA (S.take i) y.2 = 0 := by
  unfold inA
  rw [if_neg]
  rw [List.any_eq_true]
  rintro ⟨q, hq, e⟩
  have hil : i < S.length := (List.getElem?_eq_some_iff.1 hy).1
  have hap := g.apart
  rw [show S = S.take i ++ y :: S.drop (i + 1) from by
    have h1 := List.take_append_drop i S
    rw [List.drop_eq_getElem_cons hil, (List.getElem?_eq_some_iff.1 hy).2] at h1
    exact h1.symm] at hap
  exact (List.pairwise_append.1 hap).2.2 q hq y (by simp) (by simpa using e)
theorem inA_step {S : List Pl} {i : Nat} {y : Pl} (hy : S[i]? = some y) (s : Pr) : inA (S.take (i + 1)) s = if y.2 = s then 1 else inA (S.take i) s := by
  unfold inA
  rw [take_more hy, List.any_append]
  by_cases e : y.2 = s
  · simp [e]
  · have e' : [y].any (fun q : Pl => q.2 == s) = false := by
      rw [List.any_cons, List.any_nil, Bool.or_false]
      simpa using e
    rw [if_neg e, e', Bool.or_false]
theorem cnt_step {S : List Pl} {i : Nat} {y : Pl} (hy : S[i]? = some y) (t : Int) : cntS (S.take (i + 1)) t = cntS (S.take i) t + (if y.1.1 == t then 1 else 0) := by
  unfold cntS
  rw [take_more hy]
  exact filter_snoc _ _ _
theorem cnt_le (S : List Pl) (t : Int) : cntS S t ≤ S.length := List.length_filter_le _ _
/-- Which zones are still to be met. -/
def zTo (l : List Opn) (k : Nat) (z : Int) : Int := if inZ l z && !inZ (l.take k) z then 1 else 0
theorem zTo_zero (l : List Opn) : zTo l 0 = fun z => if inZ l z then 1 else 0 := by
  funext z
  have e : inZ (l.take 0) z = false := rfl
  unfold zTo
  rw [e]
  cases inZ l z <;> rfl
theorem zTo_old {l : List Opn} {k : Nat} {o : Opn} (h : l[k]? = some o) (ho : inZ (l.take k) o.2.2.1 = true) : zTo l (k + 1) = zTo l k := by
  funext z
  unfold zTo
  rw [inZ_step h]
  by_cases e : o.2.2.1 = z
  · rw [← e, ho]; rfl
  · have : (o.2.2.1 == z) = false := by simpa using e
    rw [this, Bool.or_false]
theorem zTo_here {l : List Opn} {k : Nat} {o : Opn} (h : l[k]? = some o) : zTo l (k + 1) o.2.2.1 = 0 := by
  unfold zTo
  rw [inZ_step h]
  simp
theorem zTo_other {l : List Opn} {k : Nat} {o : Opn} (h : l[k]? = some o) {z : Int} (e : z ≠ o.2.2.1) : zTo l (k + 1) z = zTo l k z := by
  unfold zTo
  rw [inZ_step h]
  have : (o.2.2.1 == z) = false := by simpa using fun e' => e e'.symm
  rw [this, Bool.or_false]
theorem zTo_at {l : List Opn} {k : Nat} {o : Opn} (h : l[k]? = some o) : zTo l k o.2.2.1 = if inZ (l.take k) o.2.2.1 then 0 else 1 := by
  have hin : inZ l o.2.2.1 = true := by
    unfold inZ
    rw [List.any_eq_true]
    exact ⟨o, List.mem_of_getElem? h, by simp⟩
  unfold zTo
  rw [hin]
  cases inZ (l.take k) o.2.2.1 <;> rfl
theorem nZ_zero (S : List Pl) (l : List Opn) : nZ S l 0 = 0 := by
  have e : (fun q : Pl => inZ (l.take 0) q.2.1) = fun _ => false := rfl
  unfold nZ
  rw [e]
  simp
theorem FMap.more {κ : Type} {K : Fd κ} {w : World} {b n n' : Nat} {f : κ → Int} (h : FMap K w b n f) (hn : n ≤ n') : FMap K w b n' f := by obtain ⟨D, d1, d2⟩ := h; exact ⟨D, d1.mono hn, d2⟩
theorem Sm2.moreZ {w : World} {p b1 b2 r : Nat} {S : List Pl} {c bz bc ba : Nat} {aA : Option Addr} {fz : Int → Int} {nz nz' nc : Nat} {fc : Int → Int} {fa : Pr → Int} {W : World} (h : Sm2 w p b1 b2 r S c bz bc ba aA fz nz nc fc fa W) (hn : nz ≤ nz') : Sm2 w p b1 b2 r S c bz bc ba aA fz nz' nc fc fa W := ⟨h.bo, h.z.more hn, h.c, h.a, h.pl, h.ne, h.lo⟩
end Go.Proofs.Ytconfkgadmjhhaa
