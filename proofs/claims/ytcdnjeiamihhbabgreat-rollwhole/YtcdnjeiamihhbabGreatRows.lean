/-
  No cell of these rows narrows 'for every input' (looked for: loops, veiled, ifaces, maps, wideKeys, modest, calm, conditions, laid).
  DERIVED. THE GIVEN ROWS OF THIS SEAT. 2 by the template 'for every input the law returns true; each argument reads behind the call as it read before'; 0 by the template 'total and deterministic' (their statements: YtcdnjeiamihhbabGreatTotals.lean).
  GIVEN WITH THE SEED: the statements are not yours to turn. If you find one false, say at which input.
  Laid BY PROGRAM, IN A SANDBOX (cutbox-rows.mjs): the forced cells as the released guide's own fill.sh prints them over the translation ed128bc18468f7c6… (all of the seat's roots in one cut). By AI agents, Wed Nov 11 2026. No macro, syntax, notation, axiom, sorry.
-/
import Derived.Test.YtcdnjeiamihhbabGreatChecked
import GoSem.Claim
import GoSem.ClaimJoined
import GoSem.ClaimMapViews
import Derived.JoinedTies
import Derived.KernelRfl
namespace Go.Proofs.YtcdnjeiamihhbabGreat
/- THE CELL 'sum', in the pinned program and in every row, IS THE sha256 OF THE DUMP (.gsa) THAT YtcdnjeiamihhbabGreatProg.lean LOADS. Nothing in Lean hashes anything: it is a label: what it is worth is what the hold of that sum in a sandbox is worth. -/
noncomputable def Tryz.pinned : Pinned := { name := "ytcdnjeiamihhbabgreat", sum := "ed128bc18468f7c6cb4bf2c0c89aba5e779a9f8d86e8a32092cb7de5f02d7792", checked := Tryz.checked }
namespace Rows
def none {H : Type} : Left H := { results := [], args := [] }

/-- 'coaminglaw18.RollWhole': WHATEVER THE INPUT: true; the input reads as it did. -/
def rollWholeSpec : ChangeSpec := { name := "rollWhole", fn := fun _ => fun
  | [d1, d2] => { results := [.lit (.bool true)], args := [d1, d2] }
  | _ => none }
def rollWholeRow : OpenClaim := { program := "ytcdnjeiamihhbabgreat", sum := "ed128bc18468f7c6cb4bf2c0c89aba5e779a9f8d86e8a32092cb7de5f02d7792", func := "coaming/coaminglaw18.RollWhole", spec := "rollWhole", unfollowed := true, recurses := true, plainKeys := false, apart := false }
def RollWholeSaid : Prop := rollWholeRow.holds Tryz.pinned (OpenSpec.ofChange rollWholeSpec)

/-- ITS FALSE NEIGHBOUR: 'it returns false'. Refute it at one input. -/
def rollWholeWrong : ChangeSpec := { name := "rollWhole", fn := fun _ => fun
  | [d1, d2] => { results := [.lit (.bool false)], args := [d1, d2] }
  | _ => none }
def RollWholeWrongFalsely : Prop := rollWholeRow.holds Tryz.pinned (OpenSpec.ofChange rollWholeWrong)

/-- 'coaminglaw18.RollNew': WHATEVER THE INPUT: true; the input reads as it did. -/
def rollNewSpec : ChangeSpec := { name := "rollNew", fn := fun _ => fun
  | [d1, d2, d3, d4] => { results := [.lit (.bool true)], args := [d1, d2, d3, d4] }
  | _ => none }
def rollNewRow : OpenClaim := { program := "ytcdnjeiamihhbabgreat", sum := "ed128bc18468f7c6cb4bf2c0c89aba5e779a9f8d86e8a32092cb7de5f02d7792", func := "coaming/coaminglaw18.RollNew", spec := "rollNew", inPlace := ["math.Float64frombits"], unfollowed := true, recurses := true, plainKeys := false, apart := false }
def RollNewSaid : Prop := rollNewRow.holds Tryz.pinned (OpenSpec.ofChange rollNewSpec)

/-- ITS FALSE NEIGHBOUR: 'it returns false'. Refute it at one input. -/
def rollNewWrong : ChangeSpec := { name := "rollNew", fn := fun _ => fun
  | [d1, d2, d3, d4] => { results := [.lit (.bool false)], args := [d1, d2, d3, d4] }
  | _ => none }
def RollNewWrongFalsely : Prop := rollNewRow.holds Tryz.pinned (OpenSpec.ofChange rollNewWrong)

/- THE SECOND FORM. 'bulk': how many values and letters a reading holds, each counted each time it is reached (what is shared counts as often as it is met; a slice's spare places count too). A statement '..UptoSaid' is the law's where the arguments, and the package variables that the reading takes, are together of bulk at most 1048576: NARROWER than '..Said'. Prove '..Said' where nothing that the law and all that it calls make is longer than what came in: it says more and counts as full. Else prove '..UptoSaid'. A law counts once. -/
mutual
def uptoBulk {H : Type} : DataW H → Nat
  | .lit (.string bytes) => bytes.length + 1
  | .lit _ => 1
  | .nil => 1
  | .ptr d => uptoBulk d + 1
  | .slice elems spare => uptoBulkAll elems + uptoBulkAll spare + 1
  | .agg parts => uptoBulkAll parts + 1
  | .iface _ d => uptoBulk d + 1
  | .map entries => uptoBulkEntries entries + 1
  | .held _ => 1
def uptoBulkAll {H : Type} : List (DataW H) → Nat
  | [] => 0
  | d :: r => uptoBulk d + uptoBulkAll r
def uptoBulkEntries {H : Type} : List (Lit × DataW H) → Nat
  | [] => 0
  | x :: r => uptoBulkEntry x + uptoBulkEntries r
def uptoBulkEntry {H : Type} : Lit × DataW H → Nat
  | (.string bytes, d) => bytes.length + uptoBulk d + 1
  | (_, d) => uptoBulk d + 1
 end
def uptoSmall : (H : Type) → List (DataW H) → Bool := fun _ ds => decide (uptoBulkAll ds ≤ 1048576)
def OpenSpec.upto (s : _root_.Go.ChangeSpec) : _root_.Go.OpenSpec := { _root_.Go.OpenSpec.ofChange s with cond := some uptoSmall }

/-- 'coaminglaw18.RollWhole', WHERE WHAT IT READS IS OF BULK AT MOST 1048576: true; the input reads as it did. -/
def rollWholeUptoRow : OpenClaim := { program := "ytcdnjeiamihhbabgreat", sum := "ed128bc18468f7c6cb4bf2c0c89aba5e779a9f8d86e8a32092cb7de5f02d7792", func := "coaming/coaminglaw18.RollWhole", spec := "rollWhole", unfollowed := true, recurses := true, plainKeys := false, apart := false, narrowed := true }
def RollWholeUptoSaid : Prop := rollWholeUptoRow.holds Tryz.pinned (OpenSpec.upto rollWholeSpec)

/-- 'coaminglaw18.RollNew', WHERE WHAT IT READS IS OF BULK AT MOST 1048576: true; the input reads as it did. -/
def rollNewUptoRow : OpenClaim := { program := "ytcdnjeiamihhbabgreat", sum := "ed128bc18468f7c6cb4bf2c0c89aba5e779a9f8d86e8a32092cb7de5f02d7792", func := "coaming/coaminglaw18.RollNew", spec := "rollNew", inPlace := ["math.Float64frombits"], unfollowed := true, recurses := true, plainKeys := false, apart := false, narrowed := true }
def RollNewUptoSaid : Prop := rollNewUptoRow.holds Tryz.pinned (OpenSpec.upto rollNewSpec)

end Rows
end Go.Proofs.YtcdnjeiamihhbabGreat
