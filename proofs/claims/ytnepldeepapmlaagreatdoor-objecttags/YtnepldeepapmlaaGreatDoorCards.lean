/-
  DERIVED. GIVEN WITH THE SEED: THE CARDS: each row of YtnepldeepapmlaaGreatDoorRows.lean that lists a variable, with what it lists TIED to the program's text (the seventh form; the later family's looks); each row that meets fmt, with fmt's text TOLD by the authors' own Lean function (tested against real Go, not proved from fmt's source: count such statements apart). THE CARD IS WHAT COUNTS. Prove the row's statement (the work); the ties are given (YtnepldeepapmlaaGreatDoorTie.lean); close each card by the builder's one call (the guide's Derived/Test/ToyasCard.lean, 'card_holds'). Laid BY PROGRAM, IN A SANDBOX (cutbox-door.mjs). By AI agents, Wed Nov 11 2026. No macro, syntax, notation, axiom, sorry.
-/
import Derived.Test.YtnepldeepapmlaaGreatDoorRows
import GoSem.ClaimSeven
namespace Go.Proofs.YtnepldeepapmlaaGreatDoor
namespace Rows

/-- THE TIED CARD OF 'codicillaw07.ObjectTags'. -/
def objectTagsCard : Claim7 := { stood := { row := objectTagsRow, standIns := [], harness := (true, "2a8a8f34dba10a77908d558365ef6b2ac32dcf323bf57b2f2ab9bcbca22fbc99"), looks := true }, kinds := [], alts := [], laidByText := true, laidKinds := [.data, .data, .data, .sentinel, .sentinel, .data], laidTests := true, laidLooks := .later }
def ObjectTagsCardSaid : Prop := Claim7.holds Tryz.pinned (.plain (OpenSpec.ofChange objectTagsSpec)) objectTagsCard

/-- THE SECOND FORM's CARD OF 'codicillaw07.ObjectTags'. -/
def objectTagsUptoCard : Claim7 := { stood := { row := objectTagsUptoRow, standIns := [], harness := (true, "2a8a8f34dba10a77908d558365ef6b2ac32dcf323bf57b2f2ab9bcbca22fbc99"), looks := true }, kinds := [], alts := [], laidByText := true, laidKinds := [.data, .data, .data, .sentinel, .sentinel, .data], laidTests := true, laidLooks := .later }
def ObjectTagsUptoCardSaid : Prop := Claim7.holds Tryz.pinned (.plain (OpenSpec.upto objectTagsSpec)) objectTagsUptoCard
end Rows
end Go.Proofs.YtnepldeepapmlaaGreatDoor
