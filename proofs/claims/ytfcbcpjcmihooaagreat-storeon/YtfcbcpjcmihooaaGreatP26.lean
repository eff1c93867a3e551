/- Texts of this seat, one behind the other: StSq. -/
import Derived.Test.YtfcbcpjcmihooaaGreatP25
import Derived.Test.YtfcbcpjcmihooaaGreatP12
/- What the numbers of a store do, call by call. -/
namespace Go.Proofs.YtfcbcpjcmihooaaGreat
open Go.RowKit
set_option linter.unusedVariables false
set_option maxRecDepth 4000
theorem light_ops {s : Sh} {os : List Od} (h : ¬ HvO s os) : SmallS s ∧ os.length ≤ 40 ∧ ∀ o ∈ os, o.l.length ≤ 30 ∧ ∀ p ∈ o.l, p.d.length ≤ 200 :=
  ⟨Classical.byContradiction fun hs => h (.inl hs), Nat.not_lt.1 fun hl => h (.inr (.inl hl)), fun o ho => ⟨Nat.not_lt.1 fun hl => h (.inr (.inr ⟨o, ho, .inl hl⟩)), fun p hp => Nat.not_lt.1 fun hl => h (.inr (.inr ⟨o, ho, .inr ⟨p, hp, hl⟩⟩))⟩⟩
structure Sq (w W : World) (s : Sh) (D : Nat → Prop) (k : Bs) (st : St) (c : Nat) (i : Nat) : Prop where
  sv : StV D W k st c
  bel : Below w.heap.size w W
  sh : Blk W w.heap.size (shC s) 23
  low : ∀ x, StO D k x → w.heap.size < x
  inv : Inv st
  ss : st.s = s
  qb : 0 ≤ st.q ∧ st.q ≤ 30 * i
  cb : c ≤ 30 * i
section
variable {w W W' : World} {s : Sh} {D : Nat → Prop} {k : Bs} {st : St} {c i : Nat}
theorem Sq.below (h : Sq w W s D k st c i) (hb : Below W.heap.size W W') : Sq w W' s D k st c i :=
  ⟨h.sv.under hb, h.bel.trans (hb.mono h.bel.size), h.sh.below hb h.sh.lt, h.low, h.inv, h.ss, h.qb, h.cb⟩
theorem Sq.blocks {A : Option Addr} {N C S : Nat} {l : List Pt} (h : Sq w W s D k st c i) (hl : PtsIn (fun x => x < w.heap.size) w A N l) (hS : S ≤ 10000) :
    Calls Tryz.prog 21 #[.int .i64 (S : Nat), .slice A N C] W fun e w' => ∃ A' C', e = .returned (.slice A' N C') ∧ Rd w w' s D k st c A' N C' (l.map (blkP S)) :=
  rd_blocks (V := w.alloc (.cells #[] 3)) (by simp) h.bel h.sh h.sv (fun x hx => by have := h.low x hx; simp; omega) hl hS
end
end Go.Proofs.YtfcbcpjcmihooaaGreat
