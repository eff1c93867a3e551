/-
  No cell of these rows narrows 'for every input' (looked for: loops, veiled, ifaces, maps, wideKeys, modest, calm, conditions, laid).
  DERIVED. THE GIVEN ROWS OF THIS SEAT. 6 by the template 'for every input the law returns true; each argument reads behind the call as it read before'; 0 by the template 'total and deterministic' (their statements: YtcdnjeiamihhbaaGreatTotals.lean).
  GIVEN WITH THE SEED: the statements are not yours to turn. If you find one false, say at which input.
  Laid BY PROGRAM, IN A SANDBOX (cutbox-rows.mjs): the forced cells as the released guide's own fill.sh prints them over the translation 6fb2255e4c6ab389… (all of the seat's roots in one cut). By AI agents, Wed Nov 11 2026. No macro, syntax, notation, axiom, sorry.
-/
import Derived.Test.YtcdnjeiamihhbaaGreatChecked
import GoSem.Claim
import GoSem.ClaimJoined
import GoSem.ClaimMapViews
import Derived.JoinedTies
import Derived.KernelRfl
namespace Go.Proofs.YtcdnjeiamihhbaaGreat
/- THE CELL 'sum', in the pinned program and in every row, IS THE sha256 OF THE DUMP (.gsa) THAT YtcdnjeiamihhbaaGreatProg.lean LOADS. Nothing in Lean hashes anything: it is a label: what it is worth is what the hold of that sum in a sandbox is worth. -/
noncomputable def Tryz.pinned : Pinned := { name := "ytcdnjeiamihhbaagreat", sum := "6fb2255e4c6ab389284d47adc57c6728d32bc8aa7a4f9a3a6e1d1d36173496fc", checked := Tryz.checked }
namespace Rows
def none {H : Type} : Left H := { results := [], args := [] }

/-- 'coaminglaw18.RollAny': WHATEVER THE INPUT: true; the input reads as it did. -/
def rollAnySpec : ChangeSpec := { name := "rollAny", fn := fun _ => fun
  | [d1, d2] => { results := [.lit (.bool true)], args := [d1, d2] }
  | _ => none }
def rollAnyRow : OpenClaim := { program := "ytcdnjeiamihhbaagreat", sum := "6fb2255e4c6ab389284d47adc57c6728d32bc8aa7a4f9a3a6e1d1d36173496fc", func := "coaming/coaminglaw18.RollAny", spec := "rollAny", unfollowed := true, recurses := true, plainKeys := false, apart := false }
def RollAnySaid : Prop := rollAnyRow.holds Tryz.pinned (OpenSpec.ofChange rollAnySpec)

/-- ITS FALSE NEIGHBOUR: 'it returns false'. Refute it at one input. -/
def rollAnyWrong : ChangeSpec := { name := "rollAny", fn := fun _ => fun
  | [d1, d2] => { results := [.lit (.bool false)], args := [d1, d2] }
  | _ => none }
def RollAnyWrongFalsely : Prop := rollAnyRow.holds Tryz.pinned (OpenSpec.ofChange rollAnyWrong)

/-- 'coaminglaw18.RollRecovers': WHATEVER THE INPUT: true; the input reads as it did. -/
def rollRecoversSpec : ChangeSpec := { name := "rollRecovers", fn := fun _ => fun
  | [d1, d2, d3] => { results := [.lit (.bool true)], args := [d1, d2, d3] }
  | _ => none }
def rollRecoversRow : OpenClaim := { program := "ytcdnjeiamihhbaagreat", sum := "6fb2255e4c6ab389284d47adc57c6728d32bc8aa7a4f9a3a6e1d1d36173496fc", func := "coaming/coaminglaw18.RollRecovers", spec := "rollRecovers", inPlace := ["math.Float64frombits"], unfollowed := true, recurses := true, plainKeys := false, apart := false }
def RollRecoversSaid : Prop := rollRecoversRow.holds Tryz.pinned (OpenSpec.ofChange rollRecoversSpec)

/-- ITS FALSE NEIGHBOUR: 'it returns false'. Refute it at one input. -/
def rollRecoversWrong : ChangeSpec := { name := "rollRecovers", fn := fun _ => fun
  | [d1, d2, d3] => { results := [.lit (.bool false)], args := [d1, d2, d3] }
  | _ => none }
def RollRecoversWrongFalsely : Prop := rollRecoversRow.holds Tryz.pinned (OpenSpec.ofChange rollRecoversWrong)

/-- 'coaminglaw18.RollTwice': WHATEVER THE INPUT: true; the input reads as it did. -/
def rollTwiceSpec : ChangeSpec := { name := "rollTwice", fn := fun _ => fun
  | [d1, d2, d3, d4] => { results := [.lit (.bool true)], args := [d1, d2, d3, d4] }
  | _ => none }
def rollTwiceRow : OpenClaim := { program := "ytcdnjeiamihhbaagreat", sum := "6fb2255e4c6ab389284d47adc57c6728d32bc8aa7a4f9a3a6e1d1d36173496fc", func := "coaming/coaminglaw18.RollTwice", spec := "rollTwice", inPlace := ["math.Float64frombits"], unfollowed := true, recurses := true, plainKeys := false, apart := false }
def RollTwiceSaid : Prop := rollTwiceRow.holds Tryz.pinned (OpenSpec.ofChange rollTwiceSpec)

/-- ITS FALSE NEIGHBOUR: 'it returns false'. Refute it at one input. -/
def rollTwiceWrong : ChangeSpec := { name := "rollTwice", fn := fun _ => fun
  | [d1, d2, d3, d4] => { results := [.lit (.bool false)], args := [d1, d2, d3, d4] }
  | _ => none }
def RollTwiceWrongFalsely : Prop := rollTwiceRow.holds Tryz.pinned (OpenSpec.ofChange rollTwiceWrong)

/-- 'coaminglaw18.RollFlushed': WHATEVER THE INPUT: true; the input reads as it did. -/
def rollFlushedSpec : ChangeSpec := { name := "rollFlushed", fn := fun _ => fun
  | [d1, d2, d3] => { results := [.lit (.bool true)], args := [d1, d2, d3] }
  | _ => none }
def rollFlushedRow : OpenClaim := { program := "ytcdnjeiamihhbaagreat", sum := "6fb2255e4c6ab389284d47adc57c6728d32bc8aa7a4f9a3a6e1d1d36173496fc", func := "coaming/coaminglaw18.RollFlushed", spec := "rollFlushed", inPlace := ["math.Float64frombits"], unfollowed := true, recurses := true, plainKeys := false, apart := false }
def RollFlushedSaid : Prop := rollFlushedRow.holds Tryz.pinned (OpenSpec.ofChange rollFlushedSpec)

/-- ITS FALSE NEIGHBOUR: 'it returns false'. Refute it at one input. -/
def rollFlushedWrong : ChangeSpec := { name := "rollFlushed", fn := fun _ => fun
  | [d1, d2, d3] => { results := [.lit (.bool false)], args := [d1, d2, d3] }
  | _ => none }
def RollFlushedWrongFalsely : Prop := rollFlushedRow.holds Tryz.pinned (OpenSpec.ofChange rollFlushedWrong)

/-- 'coaminglaw18.RollFront': WHATEVER THE INPUT: true; the input reads as it did. -/
def rollFrontSpec : ChangeSpec := { name := "rollFront", fn := fun _ => fun
  | [d1, d2, d3] => { results := [.lit (.bool true)], args := [d1, d2, d3] }
  | _ => none }
def rollFrontRow : OpenClaim := { program := "ytcdnjeiamihhbaagreat", sum := "6fb2255e4c6ab389284d47adc57c6728d32bc8aa7a4f9a3a6e1d1d36173496fc", func := "coaming/coaminglaw18.RollFront", spec := "rollFront", inPlace := ["math.Float64frombits"], unfollowed := true, recurses := true, plainKeys := false, apart := false }
def RollFrontSaid : Prop := rollFrontRow.holds Tryz.pinned (OpenSpec.ofChange rollFrontSpec)

/-- ITS FALSE NEIGHBOUR: 'it returns false'. Refute it at one input. -/
def rollFrontWrong : ChangeSpec := { name := "rollFront", fn := fun _ => fun
  | [d1, d2, d3] => { results := [.lit (.bool false)], args := [d1, d2, d3] }
  | _ => none }
def RollFrontWrongFalsely : Prop := rollFrontRow.holds Tryz.pinned (OpenSpec.ofChange rollFrontWrong)

/-- 'coaminglaw18.RollMark': WHATEVER THE INPUT: true; the input reads as it did. -/
def rollMarkSpec : ChangeSpec := { name := "rollMark", fn := fun _ => fun
  | [d1, d2, d3, d4] => { results := [.lit (.bool true)], args := [d1, d2, d3, d4] }
  | _ => none }
def rollMarkRow : OpenClaim := { program := "ytcdnjeiamihhbaagreat", sum := "6fb2255e4c6ab389284d47adc57c6728d32bc8aa7a4f9a3a6e1d1d36173496fc", func := "coaming/coaminglaw18.RollMark", spec := "rollMark", inPlace := ["math.Float64frombits"], unfollowed := true, recurses := true, plainKeys := false, apart := false }
def RollMarkSaid : Prop := rollMarkRow.holds Tryz.pinned (OpenSpec.ofChange rollMarkSpec)

/-- ITS FALSE NEIGHBOUR: 'it returns false'. Refute it at one input. -/
def rollMarkWrong : ChangeSpec := { name := "rollMark", fn := fun _ => fun
  | [d1, d2, d3, d4] => { results := [.lit (.bool false)], args := [d1, d2, d3, d4] }
  | _ => none }
def RollMarkWrongFalsely : Prop := rollMarkRow.holds Tryz.pinned (OpenSpec.ofChange rollMarkWrong)

/- THE SECOND FORM. 'bulk': how many values and letters a reading holds, each counted each time it is reached (what is shared counts as often as it is met; a slice's spare places count too). A statement '..UptoSaid' is the law's where the arguments, and the package variables that the reading takes, are together of bulk at most 1048576: NARROWER than '..Said'. Prove '..Said' where nothing that the law and all that it calls make is longer than what came in: it says more and counts as full. Else prove '..UptoSaid'. A law counts once. -/
mutual
def uptoBulk {H : Type} : DataW H → Nat
  | .lit (.string bytes) => bytes.length + 1
  | .lit _ => 1
  | .nil => 1
  | .ptr d => uptoBulk d + 1
  | .slice elems spare => uptoBulkAll elems + uptoBulkAll spare + 1
  | .agg parts => uptoBulkAll parts + 1
  | .iface _ d => uptoBulk d + 1
  | .map entries => uptoBulkEntries entries + 1
  | .held _ => 1
def uptoBulkAll {H : Type} : List (DataW H) → Nat
  | [] => 0
  | d :: r => uptoBulk d + uptoBulkAll r
def uptoBulkEntries {H : Type} : List (Lit × DataW H) → Nat
  | [] => 0
  | x :: r => uptoBulkEntry x + uptoBulkEntries r
def uptoBulkEntry {H : Type} : Lit × DataW H → Nat
  | (.string bytes, d) => bytes.length + uptoBulk d + 1
  | (_, d) => uptoBulk d + 1
 end
def uptoSmall : (H : Type) → List (DataW H) → Bool := fun _ ds => decide (uptoBulkAll ds ≤ 1048576)
def OpenSpec.upto (s : _root_.Go.ChangeSpec) : _root_.Go.OpenSpec := { _root_.Go.OpenSpec.ofChange s with cond := some uptoSmall }

/-- 'coaminglaw18.RollAny', WHERE WHAT IT READS IS OF BULK AT MOST 1048576: true; the input reads as it did. -/
def rollAnyUptoRow : OpenClaim := { program := "ytcdnjeiamihhbaagreat", sum := "6fb2255e4c6ab389284d47adc57c6728d32bc8aa7a4f9a3a6e1d1d36173496fc", func := "coaming/coaminglaw18.RollAny", spec := "rollAny", unfollowed := true, recurses := true, plainKeys := false, apart := false, narrowed := true }
def RollAnyUptoSaid : Prop := rollAnyUptoRow.holds Tryz.pinned (OpenSpec.upto rollAnySpec)

/-- 'coaminglaw18.RollRecovers', WHERE WHAT IT READS IS OF BULK AT MOST 1048576: true; the input reads as it did. -/
def rollRecoversUptoRow : OpenClaim := { program := "ytcdnjeiamihhbaagreat", sum := "6fb2255e4c6ab389284d47adc57c6728d32bc8aa7a4f9a3a6e1d1d36173496fc", func := "coaming/coaminglaw18.RollRecovers", spec := "rollRecovers", inPlace := ["math.Float64frombits"], unfollowed := true, recurses := true, plainKeys := false, apart := false, narrowed := true }
def RollRecoversUptoSaid : Prop := rollRecoversUptoRow.holds Tryz.pinned (OpenSpec.upto rollRecoversSpec)

/-- 'coaminglaw18.RollTwice', WHERE WHAT IT READS IS OF BULK AT MOST 1048576: true; the input reads as it did. -/
def rollTwiceUptoRow : OpenClaim := { program := "ytcdnjeiamihhbaagreat", sum := "6fb2255e4c6ab389284d47adc57c6728d32bc8aa7a4f9a3a6e1d1d36173496fc", func := "coaming/coaminglaw18.RollTwice", spec := "rollTwice", inPlace := ["math.Float64frombits"], unfollowed := true, recurses := true, plainKeys := false, apart := false, narrowed := true }
def RollTwiceUptoSaid : Prop := rollTwiceUptoRow.holds Tryz.pinned (OpenSpec.upto rollTwiceSpec)

/-- 'coaminglaw18.RollFlushed', WHERE WHAT IT READS IS OF BULK AT MOST 1048576: true; the input reads as it did. -/
def rollFlushedUptoRow : OpenClaim := { program := "ytcdnjeiamihhbaagreat", sum := "6fb2255e4c6ab389284d47adc57c6728d32bc8aa7a4f9a3a6e1d1d36173496fc", func := "coaming/coaminglaw18.RollFlushed", spec := "rollFlushed", inPlace := ["math.Float64frombits"], unfollowed := true, recurses := true, plainKeys := false, apart := false, narrowed := true }
def RollFlushedUptoSaid : Prop := rollFlushedUptoRow.holds Tryz.pinned (OpenSpec.upto rollFlushedSpec)

/-- 'coaminglaw18.RollFront', WHERE WHAT IT READS IS OF BULK AT MOST 1048576: true; the input reads as it did. -/
def rollFrontUptoRow : OpenClaim := { program := "ytcdnjeiamihhbaagreat", sum := "6fb2255e4c6ab389284d47adc57c6728d32bc8aa7a4f9a3a6e1d1d36173496fc", func := "coaming/coaminglaw18.RollFront", spec := "rollFront", inPlace := ["math.Float64frombits"], unfollowed := true, recurses := true, plainKeys := false, apart := false, narrowed := true }
def RollFrontUptoSaid : Prop := rollFrontUptoRow.holds Tryz.pinned (OpenSpec.upto rollFrontSpec)

/-- 'coaminglaw18.RollMark', WHERE WHAT IT READS IS OF BULK AT MOST 1048576: true; the input reads as it did. -/
def rollMarkUptoRow : OpenClaim := { program := "ytcdnjeiamihhbaagreat", sum := "6fb2255e4c6ab389284d47adc57c6728d32bc8aa7a4f9a3a6e1d1d36173496fc", func := "coaming/coaminglaw18.RollMark", spec := "rollMark", inPlace := ["math.Float64frombits"], unfollowed := true, recurses := true, plainKeys := false, apart := false, narrowed := true }
def RollMarkUptoSaid : Prop := rollMarkUptoRow.holds Tryz.pinned (OpenSpec.upto rollMarkSpec)

end Rows
end Go.Proofs.YtcdnjeiamihhbaaGreat
