/- Texts of this seat, one behind the other: StLaw, StSq. -/
import Derived.Test.YtncnkpnfmbgifaaGreatP24
import Derived.Test.YtncnkpnfmbgifaaGreatP12
/- Things that the laws of the store have in common. -/
namespace Go.Proofs.YtncnkpnfmbgifaaGreat
open Go.RowKit
set_option linter.unusedVariables false
set_option maxRecDepth 4000
def shC (s : Sh) : List Value := [.int .i64 s.z, .int .i64 s.zb, .int .i64 s.b, .int .i64 s.r]
section
variable {w W W' : World} {s : Sh} {D : Nat → Prop} {k : Bs} {st st' : St} {c c' : Nat} {A : Option Addr} {n C : Nat} {l : List Pt}
end
section
variable {w W W' : World} {s : Sh} {D : Nat → Prop} {k : Bs} {st st' : St} {c c' : Nat} {A : Option Addr} {n C : Nat} {l : List Pt} {B : Nat}
end
end Go.Proofs.YtncnkpnfmbgifaaGreat

/- What the numbers of a store do, call by call. -/
namespace Go.Proofs.YtncnkpnfmbgifaaGreat
open Go.RowKit
set_option linter.unusedVariables false
set_option maxRecDepth 4000
theorem light_ops {s : Sh} {os : List Od} (h : ¬ HvO s os) : SmallS s ∧ os.length ≤ 40 ∧ ∀ o ∈ os, o.l.length ≤ 30 ∧ ∀ p ∈ o.l, p.d.length ≤ 200 :=
 ⟨Classical.byContradiction fun hs => h (.inl hs), Nat.not_lt.1 fun hl => h (.inr (.inl hl)), fun o ho => ⟨Nat.not_lt.1 fun hl => h (.inr (.inr ⟨o, ho, .inl hl⟩)), fun p hp => Nat.not_lt.1 fun hl => h (.inr (.inr ⟨o, ho, .inr ⟨p, hp, hl⟩⟩))⟩⟩
theorem blkP_fits {S : Nat} {p : Pt} (h : p.Fits) : (blkP S p).Fits := by
 unfold blkP
 split
 ·exact h
 ·exact ⟨h.1, h.2.1, blockB_fits h.2.2⟩
section
variable {w W W' : World} {s : Sh} {D : Nat → Prop} {k : Bs} {st : St} {c i : Nat}
end
end Go.Proofs.YtncnkpnfmbgifaaGreat
