/- Two of the program's maps and one of the document's: what is put of other tenants makes no difference. -/
import Derived.Test.YtconfkgadmjhhaaLmO
namespace Go.Proofs.Ytconfkgadmjhhaa
open Go.RowKit
set_option linter.unusedVariables false
set_option maxRecDepth 4000

structure Tri (w : World) (pm b1 b2 pn d1 d2 r : Nat) (Sm Sn : List Pl) (c : Nat) (wr : World) : Prop where
  m : LmP wr pm b1 b2 Sm c
  n : LmP wr pn d1 d2 Sn c
  d : LmD wr r Sn
  ne : b1 ≠ d1 ∧ b1 ≠ d2 ∧ b2 ≠ d1 ∧ b2 ≠ d2
  bel : Below w.heap.size w wr
  lo : w.heap.size ≤ b1 ∧ w.heap.size ≤ b2 ∧ w.heap.size ≤ d1 ∧ w.heap.size ≤ d2 ∧ w.heap.size ≤ r
section
variable {w wr wr' : World} {pm b1 b2 pn d1 d2 r c c' : Nat} {Sm Sn Sm' Sn' : List Pl}
theorem Tri.below (h : Tri w pm b1 b2 pn d1 d2 r Sm Sn c wr) (hb : Below wr.heap.size wr wr') : Tri w pm b1 b2 pn d1 d2 r Sm Sn c wr' :=
  ⟨h.m.below hb, h.n.below hb, h.d.below hb, h.ne, below_then h.bel hb h.bel.size, h.lo⟩
theorem Tri.mono2 (h : Tri w pm b1 b2 pn d1 d2 r Sm Sn c wr) (hc : c ≤ c') : Tri w pm b1 b2 pn d1 d2 r Sm Sn c' wr := ⟨h.m.mono hc, h.n.mono hc, h.d, h.ne, h.bel, h.lo⟩
theorem blk_ne {g g' : Nat} {L L' : List Value} {t t' : TypeId} (h : Blk wr g L t) (h' : Blk wr g' L' t') (hne : t ≠ t') : g ≠ g' := by
  rintro rfl
  unfold Blk at h h'
  rw [h] at h'
  cases h'
  exact hne rfl
theorem LmD.blk (h : LmD wr r Sn) : ∃ v, Blk wr r [v] 59 := by obtain ⟨a, n, cc, hb, _⟩ := h.row; exact ⟨_, hb⟩
theorem Tri.stepM (h : Tri w pm b1 b2 pn d1 d2 r Sm Sn c wr) (hm : LmP wr' pm b1 b2 Sm' c') (ho : Out (Two b1 b2) wr wr') (hc : c ≤ c') : Tri w pm b1 b2 pn d1 d2 r Sm' Sn c' wr' := by
  refine ⟨hm, (h.n.out ho ?_).mono hc, h.d.prog h.m ho, h.ne, h.bel.trans (ho.below h.bel.size ?_), h.lo⟩
  · obtain ⟨n1, n2, n3, n4⟩ := h.ne
    rintro k (rfl | rfl | rfl) (e | e)
    · exact h.m.m1.no_blk h.n.hp e
    · exact h.m.m2.no_blk h.n.hp e
    · exact n1 e.symm
    · exact n3 e.symm
    · exact n2 e.symm
    · exact n4 e.symm
  · obtain ⟨l1, l2, _⟩ := h.lo
    rintro j (rfl | rfl) <;> omega
theorem Tri.stepN (h : Tri w pm b1 b2 pn d1 d2 r Sm Sn c wr) (hn : LmP wr' pn d1 d2 Sn' c') (hd : LmD wr' r Sn') (ho : Out (Three d1 d2 r) wr wr') (hc : c ≤ c') : Tri w pm b1 b2 pn d1 d2 r Sm Sn' c' wr' := by
  obtain ⟨v, hr⟩ := h.d.blk
  refine ⟨(h.m.out ho ?_).mono hc, hn, hd, h.ne, h.bel.trans (ho.below h.bel.size ?_), h.lo⟩
  · obtain ⟨n1, n2, n3, n4⟩ := h.ne
    rintro k (rfl | rfl | rfl) (e | e | e)
    · exact h.n.m1.no_blk h.m.hp e
    · exact h.n.m2.no_blk h.m.hp e
    · exact blk_ne h.m.hp hr (by decide) e
    · exact n1 e
    · exact n2 e
    · exact h.m.m1.no_blk hr e.symm
    · exact n3 e
    · exact n4 e
    · exact h.m.m2.no_blk hr e.symm
  · obtain ⟨_, _, l3, l4, l5⟩ := h.lo
    rintro j (rfl | rfl | rfl) <;> omega
theorem Tri.set {g : Nat} {L : List Value} (h : Tri w pm b1 b2 pn d1 d2 r Sm Sn c wr) (hg : Blk wr g L 36) (hl : w.heap.size ≤ g) (ho : Out (fun k => k = g) wr wr') : Tri w pm b1 b2 pn d1 d2 r Sm Sn c wr' := by
  obtain ⟨a, n, cc, hr, hrow⟩ := h.d.row
  refine ⟨h.m.out ho ?_, h.n.out ho ?_, ⟨⟨a, n, cc, ho.blk hr (fun e => blk_ne hr hg (by decide) e), ho.own hrow (fun j hj e => own_ne hg hrow (by decide) (by rw [hj, e]))⟩, h.d.good⟩, h.ne, h.bel.trans (ho.below h.bel.size (by rintro j rfl; exact hl)), h.lo⟩
  · rintro k (rfl | rfl | rfl) e
    · exact blk_ne h.m.hp hg (by decide) e
    · exact h.m.m1.no_blk hg e.symm
    · exact h.m.m2.no_blk hg e.symm
  · rintro k (rfl | rfl | rfl) e
    · exact blk_ne h.n.hp hg (by decide) e
    · exact h.n.m1.no_blk hg e.symm
    · exact h.n.m2.no_blk hg e.symm
end
/-- The one has what the other has of a tenant. -/
structure Apart (t : Int) (k : Nat) (Sm Sn : List Pl) : Prop where
  same : ∀ q : Pl, q.1.1 = t → (q ∈ Sm ↔ q ∈ Sn)
  own : ∀ q ∈ Sn, q.1.1 = t
  lm : ∀ q ∈ Sm, q.2.2 < 2 * (k : Int)
  ln : ∀ q ∈ Sn, q.2.2 < 2 * (k : Int)
  len : Sn.length ≤ k
section
variable {t : Int} {k : Nat} {Sm Sn : List Pl}
theorem apart_start (t : Int) : Apart t 0 [] [] := ⟨by simp, by simp, by simp, by simp, by simp⟩
theorem Apart.get (h : Apart t k Sm Sn) (gm : Good Sm) (gn : Good Sn) (b : Int) : getS Sm (t, b) = getS Sn (t, b) := by
  apply Option.ext
  intro s
  rw [getS_some gm, getS_some gn]
  exact h.same _ rfl
theorem Apart.cnt (h : Apart t k Sm Sn) (gm : Good Sm) (gn : Good Sn) : cntS Sm t = cntS Sn t := by
  unfold cntS
  congr 1
  refine eq_of_mem (f := fun p : Pl => p.1) (gm.up.filter _) (gn.up.filter _) (fun q => ?_)
  rw [List.mem_filter, List.mem_filter]
  constructor
  · rintro ⟨h1, h2⟩
    have h2' : q.1.1 = t := by simpa using h2
    exact ⟨(h.same q h2').1 h1, h2⟩
  · rintro ⟨h1, h2⟩
    have h2' : q.1.1 = t := by simpa using h2
    exact ⟨(h.same q h2').2 h1, h2⟩
/-- A call of the tenant's own. -/
theorem Apart.mine (h : Apart t k Sm Sn) (gm : Good Sm) (gn : Good Sn) (dr : Bool) (x : Pl) (hx : x.1.1 = t) (hb : x.2.2 = 2 * (k : Int)) : Apart t (k + 1) (doS Sm (dr, x)) (doS Sn (dr, x)) := by
  cases dr with
  | true =>
    show Apart t (k + 1) (dropS Sm x.1) (dropS Sn x.1)
    refine ⟨fun q hq => ?_, fun q hq => h.own q (mem_dropS.1 hq).1, fun q hq => ?_, fun q hq => ?_, ?_⟩
    · rw [mem_dropS, mem_dropS, h.same q hq]
    · have := h.lm q (mem_dropS.1 hq).1; omega
    · have := h.ln q (mem_dropS.1 hq).1; omega
    · have h1 := dropS_len Sn x.1; have h2 := h.len; omega
  | false =>
    show Apart t (k + 1) (putS Sm x) (putS Sn x)
    refine ⟨fun q hq => ?_, fun q hq => ?_, fun q hq => ?_, fun q hq => ?_, ?_⟩
    · rw [mem_putS gm, mem_putS gn, h.same q hq]
    · rcases (mem_putS gn).1 hq with rfl | ⟨h1, _⟩
      · exact hx
      · exact h.own q h1
    · rcases (mem_putS gm).1 hq with rfl | ⟨h1, _⟩
      · omega
      · have := h.lm q h1; omega
    · rcases (mem_putS gn).1 hq with rfl | ⟨h1, _⟩
      · omega
      · have := h.ln q h1; omega
    · have h1 := putS_len gn x; have h2 := h.len; omega
/-- .. of another one. -/
theorem Apart.other (h : Apart t k Sm Sn) (gm : Good Sm) (dr : Bool) (x : Pl) (hx : x.1.1 ≠ t) (hb : x.2.2 = 2 * (k : Int) + 1) : Apart t (k + 1) (doS Sm (dr, x)) Sn := by
  have hln : ∀ q ∈ Sn, q.2.2 < 2 * ((k + 1 : Nat) : Int) := fun q hq => by have := h.ln q hq; omega
  have hle : Sn.length ≤ k + 1 := by have := h.len; omega
  cases dr with
  | true =>
    show Apart t (k + 1) (dropS Sm x.1) Sn
    refine ⟨fun q hq => ?_, h.own, fun q hq => ?_, hln, hle⟩
    · rw [mem_dropS, h.same q hq]
      exact ⟨fun h => h.1, fun h => ⟨h, fun e => hx (by rw [← e]; exact hq)⟩⟩
    · have := h.lm q (mem_dropS.1 hq).1; omega
  | false =>
    show Apart t (k + 1) (putS Sm x) Sn
    refine ⟨fun q hq => ?_, h.own, fun q hq => ?_, hln, hle⟩
    · rw [mem_putS gm]
      constructor
      · rintro (rfl | ⟨h1, _⟩)
        · exact absurd hq hx
        · exact (h.same q hq).1 h1
      · intro h1
        have h2 := (h.same q hq).2 h1
        refine .inr ⟨h2, fun e => hx (by rw [← e]; exact hq), fun e => ?_⟩
        have := h.lm q h2
        rw [e] at this
        omega
    · rcases (mem_putS gm).1 hq with rfl | ⟨h1, _⟩
      · omega
      · have := h.lm q h1; omega
end
end Go.Proofs.Ytconfkgadmjhhaa
