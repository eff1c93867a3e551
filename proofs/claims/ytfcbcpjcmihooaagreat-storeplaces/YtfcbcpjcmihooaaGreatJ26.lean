/- Texts of this seat, one behind the other: StSq. -/
import Derived.Test.YtfcbcpjcmihooaaGreatJ25
import Derived.Test.YtfcbcpjcmihooaaGreatJ12
/- What the numbers of a store do, call by call. -/
namespace Go.Proofs.YtfcbcpjcmihooaaGreat
open Go.RowKit
set_option linter.unusedVariables false
set_option maxRecDepth 4000
theorem light_ops {s : Sh} {os : List Od} (h : ¬ HvO s os) : SmallS s ∧ os.length ≤ 40 ∧ ∀ o ∈ os, o.l.length ≤ 30 ∧ ∀ p ∈ o.l, p.d.length ≤ 200 :=
  ⟨Classical.byContradiction fun hs => h (.inl hs), Nat.not_lt.1 fun hl => h (.inr (.inl hl)), fun o ho => ⟨Nat.not_lt.1 fun hl => h (.inr (.inr ⟨o, ho, .inl hl⟩)), fun p hp => Nat.not_lt.1 fun hl => h (.inr (.inr ⟨o, ho, .inr ⟨p, hp, hl⟩⟩))⟩⟩
/-- What Put does to the number of the last record. -/
theorem put_seq {st : St} {l : List Pt} (hi : Inv st) (hf : ∀ p ∈ l, p.Fits) (hq : 0 ≤ st.q ∧ st.q ≤ 100000) (hl : l.length ≤ 1000) :
    ((putM st l).1 = 1 ∧ (putM st l).2 = st) ∨ ∃ r : Nat, (putM st l).2.q = st.q + r ∧ r ≤ l.length ∧ (((putM st l).1 = 0 ∧ (0 < l.length → 0 < r)) ∨ (putM st l).1 = 160) ∧ Inv (putM st l).2 ∧ (putM st l).2.s = st.s := by
  by_cases ho : okP st.s l
  · have hm : putM st l = putF l.length st l := by unfold putM; exact if_pos ho
    obtain ⟨m, r, h1, h2, h3, h4, h5, h6, h7⟩ := putFmem l.length st l hi ho hf (Nat.le_refl _)
    rw [hm]
    refine .inr ⟨r, ?_, by omega, ?_, h3, h4⟩
    · rcases h7 with h7 | ⟨h7, h8⟩
      · rw [h7]; omega
      · rw [h8, h7]; simp
    · rcases h6 with ⟨e1, e2, e3⟩ | e1
      · exact .inl ⟨e1, e3⟩
      · exact .inr e1
  · exact .inl (by rw [put_bad ho]; exact ⟨rfl, rfl⟩)
theorem blkP_fits {S : Nat} {p : Pt} (h : p.Fits) : (blkP S p).Fits := by
  unfold blkP
  split
  · exact h
  · exact ⟨h.1, h.2.1, blockB_fits h.2.2⟩
theorem map_fits {S : Nat} {l : List Pt} (h : ∀ p ∈ l, p.Fits) : ∀ p ∈ l.map (blkP S), p.Fits := fun p hp => by
  obtain ⟨q, hq, rfl⟩ := List.mem_map.1 hp
  exact blkP_fits (h q hq)
structure Sq (w W : World) (s : Sh) (D : Nat → Prop) (k : Bs) (st : St) (c : Nat) (i : Nat) : Prop where
  sv : StV D W k st c
  bel : Below w.heap.size w W
  sh : Blk W w.heap.size (shC s) 23
  low : ∀ x, StO D k x → w.heap.size < x
  inv : Inv st
  ss : st.s = s
  qb : 0 ≤ st.q ∧ st.q ≤ 30 * i
  cb : c ≤ 30 * i
section
variable {w W W' : World} {s : Sh} {D : Nat → Prop} {k : Bs} {st : St} {c i : Nat}
theorem Sq.below (h : Sq w W s D k st c i) (hb : Below W.heap.size W W') : Sq w W' s D k st c i :=
  ⟨h.sv.under hb, h.bel.trans (hb.mono h.bel.size), h.sh.below hb h.sh.lt, h.low, h.inv, h.ss, h.qb, h.cb⟩
theorem Sq.blocks {A : Option Addr} {N C S : Nat} {l : List Pt} (h : Sq w W s D k st c i) (hl : PtsIn (fun x => x < w.heap.size) w A N l) (hS : S ≤ 10000) :
    Calls Tryz.prog 21 #[.int .i64 (S : Nat), .slice A N C] W fun e w' => ∃ A' C', e = .returned (.slice A' N C') ∧ Rd w w' s D k st c A' N C' (l.map (blkP S)) :=
  rd_blocks (V := w.alloc (.cells #[] 3)) (by simp) h.bel h.sh h.sv (fun x hx => by have := h.low x hx; simp; omega) hl hS
theorem Rd.put2 {A : Option Addr} {n C : Nat} {l : List Pt} (h : Rd w W s D k st c A n C l) (hc : c + n < 100000) : Calls Tryz.prog 20 #[.pointer (some ⟨k.ps, 0, none⟩), .slice A n C] W fun e w' => e = .returned (.int .u16 (putM st l).1) ∧ (∃ D', Rd w w' s D' k (putM st l).2 (c + n) A n C l) ∧ Out (StO D k) W w' := by
  obtain ⟨X, h1, h2⟩ := h.pts
  refine (sput_of h.st A n C l X h1 h.cap h2 hc).mono ?_
  rintro e w' ⟨rfl, sv⟩
  have ho : Out (StO D k) W w' := by obtain ⟨_, _, _, ho⟩ := sv; exact ho
  exact ⟨rfl, h.next sv, ho⟩
end
end Go.Proofs.YtfcbcpjcmihooaaGreat
