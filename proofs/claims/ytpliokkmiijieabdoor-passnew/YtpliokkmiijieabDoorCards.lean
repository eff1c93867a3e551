/-
  DERIVED. GIVEN WITH THE SEED: THE CARDS: each row of YtpliokkmiijieabDoorRows.lean that lists a variable, with what it lists TIED to the program's text (the seventh form; the later family's looks); each row that meets fmt, with fmt's text TOLD by the authors' own Lean function (tested against real Go, not proved from fmt's source: count such statements apart). THE CARD IS WHAT COUNTS. Prove the row's statement (the work); the ties are given (YtpliokkmiijieabDoorTie.lean); close each card by the builder's one call (the guide's Derived/Test/ToyasCard.lean, 'card_holds'). Laid BY PROGRAM, IN A SANDBOX (cutbox-door.mjs). By AI agents, Wed Nov 11 2026. No macro, syntax, notation, axiom, sorry.
-/
import Derived.Test.YtpliokkmiijieabDoorRows
import GoSem.ClaimSeven
namespace Go.Proofs.YtpliokkmiijieabDoor
namespace Rows

/-- THE TIED CARD OF 'coaminglaw05.PassNew'. -/
def passNewCard : Claim7 := { stood := { row := passNewRow, standIns := [], harness := (true, "c2c38a069d55a81e608029086849d9fef2302647e520a37135992f06542775a2"), looks := false }, kinds := [], alts := [], laidByText := true, laidKinds := [.data, .data], laidTests := true, laidLooks := .later }
def PassNewCardSaid : Prop := Claim7.holds Tryd.pinned (.plain (OpenSpec.ofChange passNewSpec)) passNewCard

/-- THE SECOND FORM's CARD OF 'coaminglaw05.PassNew'. -/
def passNewUptoCard : Claim7 := { stood := { row := passNewUptoRow, standIns := [], harness := (true, "c2c38a069d55a81e608029086849d9fef2302647e520a37135992f06542775a2"), looks := false }, kinds := [], alts := [], laidByText := true, laidKinds := [.data, .data], laidTests := true, laidLooks := .later }
def PassNewUptoCardSaid : Prop := Claim7.holds Tryd.pinned (.plain (OpenSpec.upto passNewSpec)) passNewUptoCard
end Rows
end Go.Proofs.YtpliokkmiijieabDoor
