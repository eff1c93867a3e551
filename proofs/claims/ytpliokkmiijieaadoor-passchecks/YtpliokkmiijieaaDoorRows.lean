/-
  NARROWER THAN 'FOR EVERY INPUT', by the rows' own cells (each row's printed sentence says how): PassIssues: laid · PassLooks: laid · PassChecks: laid · PassOwn: laid · PassTags: laid · PassApart: laid.
  DERIVED. THE GIVEN ROWS OF THIS SEAT. 6 by the template 'for every input the law returns true; each argument reads behind the call as it read before'; 0 by the template 'total and deterministic' (their statements: YtpliokkmiijieaaDoorTotals.lean).
  GIVEN WITH THE SEED: the statements are not yours to turn. If you find one false, say at which input.
  Laid BY PROGRAM, IN A SANDBOX (cutbox-rows.mjs): the forced cells as the released guide's own fill.sh prints them over the translation ebf6a56c5bb58bcc… (all of the seat's roots in one cut). By AI agents, Wed Nov 11 2026. No macro, syntax, notation, axiom, sorry.
-/
import Derived.Test.YtpliokkmiijieaaDoorChecked
import GoSem.Claim
import GoSem.ClaimJoined
import GoSem.ClaimMapViews
import Derived.JoinedTies
import Derived.KernelRfl
namespace Go.Proofs.YtpliokkmiijieaaDoor
/- THE CELL 'sum', in the pinned program and in every row, IS THE sha256 OF THE DUMP (.gsa) THAT YtpliokkmiijieaaDoorProg.lean LOADS. Nothing in Lean hashes anything: it is a label: what it is worth is what the hold of that sum in a sandbox is worth. -/
noncomputable def Tryd.pinned : Pinned := { name := "ytpliokkmiijieaadoor", sum := "ebf6a56c5bb58bcc544b87a3bee63fb3ac6a222a0026bfaaf9071c57e946c719", checked := Tryd.checked }
namespace Rows
def none {H : Type} : Left H := { results := [], args := [] }

/- WHAT THE LISTED PACKAGE-LEVEL VARIABLES READ AS WHEN THE CALL BEGINS. Each datum BY PROGRAM (the guide's laid-datum.mjs) off the statement by which the dump's own 'gosem.cut.vars' lays the variable. In a bare row this is a premise. The card (YtpliokkmiijieaaDoorCards.lean) ties it to the program's text. -/
def laid_coaming_sha_start {H : Type} : DataW H := .agg [.lit (.int .u32 1779033703), .lit (.int .u32 3144134277), .lit (.int .u32 1013904242), .lit (.int .u32 2773480762), .lit (.int .u32 1359893119), .lit (.int .u32 2600822924), .lit (.int .u32 528734635), .lit (.int .u32 1541459225)]
def laid_coaming_sha_roundAdds {H : Type} : DataW H := .agg [.lit (.int .u32 1116352408), .lit (.int .u32 1899447441), .lit (.int .u32 3049323471), .lit (.int .u32 3921009573), .lit (.int .u32 961987163), .lit (.int .u32 1508970993), .lit (.int .u32 2453635748), .lit (.int .u32 2870763221), .lit (.int .u32 3624381080), .lit (.int .u32 310598401), .lit (.int .u32 607225278), .lit (.int .u32 1426881987), .lit (.int .u32 1925078388), .lit (.int .u32 2162078206), .lit (.int .u32 2614888103), .lit (.int .u32 3248222580), .lit (.int .u32 3835390401), .lit (.int .u32 4022224774), .lit (.int .u32 264347078), .lit (.int .u32 604807628), .lit (.int .u32 770255983), .lit (.int .u32 1249150122), .lit (.int .u32 1555081692), .lit (.int .u32 1996064986), .lit (.int .u32 2554220882), .lit (.int .u32 2821834349), .lit (.int .u32 2952996808), .lit (.int .u32 3210313671), .lit (.int .u32 3336571891), .lit (.int .u32 3584528711), .lit (.int .u32 113926993), .lit (.int .u32 338241895), .lit (.int .u32 666307205), .lit (.int .u32 773529912), .lit (.int .u32 1294757372), .lit (.int .u32 1396182291), .lit (.int .u32 1695183700), .lit (.int .u32 1986661051), .lit (.int .u32 2177026350), .lit (.int .u32 2456956037), .lit (.int .u32 2730485921), .lit (.int .u32 2820302411), .lit (.int .u32 3259730800), .lit (.int .u32 3345764771), .lit (.int .u32 3516065817), .lit (.int .u32 3600352804), .lit (.int .u32 4094571909), .lit (.int .u32 275423344), .lit (.int .u32 430227734), .lit (.int .u32 506948616), .lit (.int .u32 659060556), .lit (.int .u32 883997877), .lit (.int .u32 958139571), .lit (.int .u32 1322822218), .lit (.int .u32 1537002063), .lit (.int .u32 1747873779), .lit (.int .u32 1955562222), .lit (.int .u32 2024104815), .lit (.int .u32 2227730452), .lit (.int .u32 2361852424), .lit (.int .u32 2428436474), .lit (.int .u32 2756734187), .lit (.int .u32 3204031479), .lit (.int .u32 3329325298)]

/-- 'coaminglaw05.PassIssues': WHATEVER THE INPUT: true; the input reads as it did. -/
def passIssuesSpec : ChangeSpec := { name := "passIssues", fn := fun _ => fun
  | [d1, d2] => { results := [.lit (.bool true)], args := [d1, d2] }
  | _ => none }
def passIssuesRow : OpenClaim := { program := "ytpliokkmiijieaadoor", sum := "ebf6a56c5bb58bcc544b87a3bee63fb3ac6a222a0026bfaaf9071c57e946c719", func := "coaming/coaminglaw05.PassIssues", spec := "passIssues", named := ["coaming/sha.start", "coaming/sha.roundAdds"], apart := false, laid := [("coaming/sha.start", laid_coaming_sha_start), ("coaming/sha.roundAdds", laid_coaming_sha_roundAdds)] }
def PassIssuesSaid : Prop := passIssuesRow.holds Tryd.pinned (OpenSpec.ofChange passIssuesSpec)

/-- ITS FALSE NEIGHBOUR: 'it returns false'. Refute it at one input. -/
def passIssuesWrong : ChangeSpec := { name := "passIssues", fn := fun _ => fun
  | [d1, d2] => { results := [.lit (.bool false)], args := [d1, d2] }
  | _ => none }
def PassIssuesWrongFalsely : Prop := passIssuesRow.holds Tryd.pinned (OpenSpec.ofChange passIssuesWrong)

/-- 'coaminglaw05.PassLooks': WHATEVER THE INPUT: true; the input reads as it did. -/
def passLooksSpec : ChangeSpec := { name := "passLooks", fn := fun _ => fun
  | [d] => { results := [.lit (.bool true)], args := [d] }
  | _ => none }
def passLooksRow : OpenClaim := { program := "ytpliokkmiijieaadoor", sum := "ebf6a56c5bb58bcc544b87a3bee63fb3ac6a222a0026bfaaf9071c57e946c719", func := "coaming/coaminglaw05.PassLooks", spec := "passLooks", named := ["coaming/sha.start", "coaming/sha.roundAdds"], apart := false, laid := [("coaming/sha.start", laid_coaming_sha_start), ("coaming/sha.roundAdds", laid_coaming_sha_roundAdds)] }
def PassLooksSaid : Prop := passLooksRow.holds Tryd.pinned (OpenSpec.ofChange passLooksSpec)

/-- ITS FALSE NEIGHBOUR: 'it returns false'. Refute it at one input. -/
def passLooksWrong : ChangeSpec := { name := "passLooks", fn := fun _ => fun
  | [d] => { results := [.lit (.bool false)], args := [d] }
  | _ => none }
def PassLooksWrongFalsely : Prop := passLooksRow.holds Tryd.pinned (OpenSpec.ofChange passLooksWrong)

/-- 'coaminglaw05.PassChecks': WHATEVER THE INPUT: true; the input reads as it did. -/
def passChecksSpec : ChangeSpec := { name := "passChecks", fn := fun _ => fun
  | [d1, d2, d3] => { results := [.lit (.bool true)], args := [d1, d2, d3] }
  | _ => none }
def passChecksRow : OpenClaim := { program := "ytpliokkmiijieaadoor", sum := "ebf6a56c5bb58bcc544b87a3bee63fb3ac6a222a0026bfaaf9071c57e946c719", func := "coaming/coaminglaw05.PassChecks", spec := "passChecks", named := ["coaming/sha.start", "coaming/sha.roundAdds"], apart := false, laid := [("coaming/sha.start", laid_coaming_sha_start), ("coaming/sha.roundAdds", laid_coaming_sha_roundAdds)] }
def PassChecksSaid : Prop := passChecksRow.holds Tryd.pinned (OpenSpec.ofChange passChecksSpec)

/-- ITS FALSE NEIGHBOUR: 'it returns false'. Refute it at one input. -/
def passChecksWrong : ChangeSpec := { name := "passChecks", fn := fun _ => fun
  | [d1, d2, d3] => { results := [.lit (.bool false)], args := [d1, d2, d3] }
  | _ => none }
def PassChecksWrongFalsely : Prop := passChecksRow.holds Tryd.pinned (OpenSpec.ofChange passChecksWrong)

/-- 'coaminglaw05.PassOwn': WHATEVER THE INPUT: true; the input reads as it did. -/
def passOwnSpec : ChangeSpec := { name := "passOwn", fn := fun _ => fun
  | [d1, d2, d3, d4] => { results := [.lit (.bool true)], args := [d1, d2, d3, d4] }
  | _ => none }
def passOwnRow : OpenClaim := { program := "ytpliokkmiijieaadoor", sum := "ebf6a56c5bb58bcc544b87a3bee63fb3ac6a222a0026bfaaf9071c57e946c719", func := "coaming/coaminglaw05.PassOwn", spec := "passOwn", named := ["coaming/sha.start", "coaming/sha.roundAdds"], apart := false, laid := [("coaming/sha.start", laid_coaming_sha_start), ("coaming/sha.roundAdds", laid_coaming_sha_roundAdds)] }
def PassOwnSaid : Prop := passOwnRow.holds Tryd.pinned (OpenSpec.ofChange passOwnSpec)

/-- ITS FALSE NEIGHBOUR: 'it returns false'. Refute it at one input. -/
def passOwnWrong : ChangeSpec := { name := "passOwn", fn := fun _ => fun
  | [d1, d2, d3, d4] => { results := [.lit (.bool false)], args := [d1, d2, d3, d4] }
  | _ => none }
def PassOwnWrongFalsely : Prop := passOwnRow.holds Tryd.pinned (OpenSpec.ofChange passOwnWrong)

/-- 'coaminglaw05.PassTags': WHATEVER THE INPUT: true; the input reads as it did. -/
def passTagsSpec : ChangeSpec := { name := "passTags", fn := fun _ => fun
  | [d1, d2, d3] => { results := [.lit (.bool true)], args := [d1, d2, d3] }
  | _ => none }
def passTagsRow : OpenClaim := { program := "ytpliokkmiijieaadoor", sum := "ebf6a56c5bb58bcc544b87a3bee63fb3ac6a222a0026bfaaf9071c57e946c719", func := "coaming/coaminglaw05.PassTags", spec := "passTags", named := ["coaming/sha.start", "coaming/sha.roundAdds"], apart := false, laid := [("coaming/sha.start", laid_coaming_sha_start), ("coaming/sha.roundAdds", laid_coaming_sha_roundAdds)] }
def PassTagsSaid : Prop := passTagsRow.holds Tryd.pinned (OpenSpec.ofChange passTagsSpec)

/-- ITS FALSE NEIGHBOUR: 'it returns false'. Refute it at one input. -/
def passTagsWrong : ChangeSpec := { name := "passTags", fn := fun _ => fun
  | [d1, d2, d3] => { results := [.lit (.bool false)], args := [d1, d2, d3] }
  | _ => none }
def PassTagsWrongFalsely : Prop := passTagsRow.holds Tryd.pinned (OpenSpec.ofChange passTagsWrong)

/-- 'coaminglaw05.PassApart': WHATEVER THE INPUT: true; the input reads as it did. -/
def passApartSpec : ChangeSpec := { name := "passApart", fn := fun _ => fun
  | [d1, d2, d3] => { results := [.lit (.bool true)], args := [d1, d2, d3] }
  | _ => none }
def passApartRow : OpenClaim := { program := "ytpliokkmiijieaadoor", sum := "ebf6a56c5bb58bcc544b87a3bee63fb3ac6a222a0026bfaaf9071c57e946c719", func := "coaming/coaminglaw05.PassApart", spec := "passApart", named := ["coaming/sha.start", "coaming/sha.roundAdds"], apart := false, laid := [("coaming/sha.start", laid_coaming_sha_start), ("coaming/sha.roundAdds", laid_coaming_sha_roundAdds)] }
def PassApartSaid : Prop := passApartRow.holds Tryd.pinned (OpenSpec.ofChange passApartSpec)

/-- ITS FALSE NEIGHBOUR: 'it returns false'. Refute it at one input. -/
def passApartWrong : ChangeSpec := { name := "passApart", fn := fun _ => fun
  | [d1, d2, d3] => { results := [.lit (.bool false)], args := [d1, d2, d3] }
  | _ => none }
def PassApartWrongFalsely : Prop := passApartRow.holds Tryd.pinned (OpenSpec.ofChange passApartWrong)

/- THE SECOND FORM. 'bulk': how many values and letters a reading holds, each counted each time it is reached (what is shared counts as often as it is met; a slice's spare places count too). A statement '..UptoSaid' is the law's where the arguments, and the package variables that the reading takes, are together of bulk at most 1048576: NARROWER than '..Said'. Prove '..Said' where nothing that the law and all that it calls make is longer than what came in: it says more and counts as full. Else prove '..UptoSaid'. A law counts once. -/
mutual
def uptoBulk {H : Type} : DataW H → Nat
  | .lit (.string bytes) => bytes.length + 1
  | .lit _ => 1
  | .nil => 1
  | .ptr d => uptoBulk d + 1
  | .slice elems spare => uptoBulkAll elems + uptoBulkAll spare + 1
  | .agg parts => uptoBulkAll parts + 1
  | .iface _ d => uptoBulk d + 1
  | .map entries => uptoBulkEntries entries + 1
  | .held _ => 1
def uptoBulkAll {H : Type} : List (DataW H) → Nat
  | [] => 0
  | d :: r => uptoBulk d + uptoBulkAll r
def uptoBulkEntries {H : Type} : List (Lit × DataW H) → Nat
  | [] => 0
  | x :: r => uptoBulkEntry x + uptoBulkEntries r
def uptoBulkEntry {H : Type} : Lit × DataW H → Nat
  | (.string bytes, d) => bytes.length + uptoBulk d + 1
  | (_, d) => uptoBulk d + 1
 end
def uptoSmall : (H : Type) → List (DataW H) → Bool := fun _ ds => decide (uptoBulkAll ds ≤ 1048576)
def OpenSpec.upto (s : _root_.Go.ChangeSpec) : _root_.Go.OpenSpec := { _root_.Go.OpenSpec.ofChange s with cond := some uptoSmall }

/-- 'coaminglaw05.PassIssues', WHERE WHAT IT READS IS OF BULK AT MOST 1048576: true; the input reads as it did. -/
def passIssuesUptoRow : OpenClaim := { program := "ytpliokkmiijieaadoor", sum := "ebf6a56c5bb58bcc544b87a3bee63fb3ac6a222a0026bfaaf9071c57e946c719", func := "coaming/coaminglaw05.PassIssues", spec := "passIssues", named := ["coaming/sha.start", "coaming/sha.roundAdds"], apart := false, laid := [("coaming/sha.start", laid_coaming_sha_start), ("coaming/sha.roundAdds", laid_coaming_sha_roundAdds)], narrowed := true }
def PassIssuesUptoSaid : Prop := passIssuesUptoRow.holds Tryd.pinned (OpenSpec.upto passIssuesSpec)

/-- 'coaminglaw05.PassLooks', WHERE WHAT IT READS IS OF BULK AT MOST 1048576: true; the input reads as it did. -/
def passLooksUptoRow : OpenClaim := { program := "ytpliokkmiijieaadoor", sum := "ebf6a56c5bb58bcc544b87a3bee63fb3ac6a222a0026bfaaf9071c57e946c719", func := "coaming/coaminglaw05.PassLooks", spec := "passLooks", named := ["coaming/sha.start", "coaming/sha.roundAdds"], apart := false, laid := [("coaming/sha.start", laid_coaming_sha_start), ("coaming/sha.roundAdds", laid_coaming_sha_roundAdds)], narrowed := true }
def PassLooksUptoSaid : Prop := passLooksUptoRow.holds Tryd.pinned (OpenSpec.upto passLooksSpec)

/-- 'coaminglaw05.PassChecks', WHERE WHAT IT READS IS OF BULK AT MOST 1048576: true; the input reads as it did. -/
def passChecksUptoRow : OpenClaim := { program := "ytpliokkmiijieaadoor", sum := "ebf6a56c5bb58bcc544b87a3bee63fb3ac6a222a0026bfaaf9071c57e946c719", func := "coaming/coaminglaw05.PassChecks", spec := "passChecks", named := ["coaming/sha.start", "coaming/sha.roundAdds"], apart := false, laid := [("coaming/sha.start", laid_coaming_sha_start), ("coaming/sha.roundAdds", laid_coaming_sha_roundAdds)], narrowed := true }
def PassChecksUptoSaid : Prop := passChecksUptoRow.holds Tryd.pinned (OpenSpec.upto passChecksSpec)

/-- 'coaminglaw05.PassOwn', WHERE WHAT IT READS IS OF BULK AT MOST 1048576: true; the input reads as it did. -/
def passOwnUptoRow : OpenClaim := { program := "ytpliokkmiijieaadoor", sum := "ebf6a56c5bb58bcc544b87a3bee63fb3ac6a222a0026bfaaf9071c57e946c719", func := "coaming/coaminglaw05.PassOwn", spec := "passOwn", named := ["coaming/sha.start", "coaming/sha.roundAdds"], apart := false, laid := [("coaming/sha.start", laid_coaming_sha_start), ("coaming/sha.roundAdds", laid_coaming_sha_roundAdds)], narrowed := true }
def PassOwnUptoSaid : Prop := passOwnUptoRow.holds Tryd.pinned (OpenSpec.upto passOwnSpec)

/-- 'coaminglaw05.PassTags', WHERE WHAT IT READS IS OF BULK AT MOST 1048576: true; the input reads as it did. -/
def passTagsUptoRow : OpenClaim := { program := "ytpliokkmiijieaadoor", sum := "ebf6a56c5bb58bcc544b87a3bee63fb3ac6a222a0026bfaaf9071c57e946c719", func := "coaming/coaminglaw05.PassTags", spec := "passTags", named := ["coaming/sha.start", "coaming/sha.roundAdds"], apart := false, laid := [("coaming/sha.start", laid_coaming_sha_start), ("coaming/sha.roundAdds", laid_coaming_sha_roundAdds)], narrowed := true }
def PassTagsUptoSaid : Prop := passTagsUptoRow.holds Tryd.pinned (OpenSpec.upto passTagsSpec)

/-- 'coaminglaw05.PassApart', WHERE WHAT IT READS IS OF BULK AT MOST 1048576: true; the input reads as it did. -/
def passApartUptoRow : OpenClaim := { program := "ytpliokkmiijieaadoor", sum := "ebf6a56c5bb58bcc544b87a3bee63fb3ac6a222a0026bfaaf9071c57e946c719", func := "coaming/coaminglaw05.PassApart", spec := "passApart", named := ["coaming/sha.start", "coaming/sha.roundAdds"], apart := false, laid := [("coaming/sha.start", laid_coaming_sha_start), ("coaming/sha.roundAdds", laid_coaming_sha_roundAdds)], narrowed := true }
def PassApartUptoSaid : Prop := passApartUptoRow.holds Tryd.pinned (OpenSpec.upto passApartSpec)

end Rows
end Go.Proofs.YtpliokkmiijieaaDoor
