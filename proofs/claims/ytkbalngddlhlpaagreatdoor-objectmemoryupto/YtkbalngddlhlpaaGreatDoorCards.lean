/-
  DERIVED. GIVEN WITH THE SEED: THE CARDS: each row of YtkbalngddlhlpaaGreatDoorRows.lean that lists a variable, with what it lists TIED to the program's text (the seventh form; the later family's looks); each row that meets fmt, with fmt's text TOLD by the authors' own Lean function (tested against real Go, not proved from fmt's source: count such statements apart). THE CARD IS WHAT COUNTS. Prove the row's statement (the work); the ties are given (YtkbalngddlhlpaaGreatDoorTie.lean); close each card by the builder's one call (the guide's Derived/Test/ToyasCard.lean, 'card_holds'). Laid BY PROGRAM, IN A SANDBOX (cutbox-door.mjs). By AI agents, Wed Nov 11 2026. No macro, syntax, notation, axiom, sorry.
-/
import Derived.Test.YtkbalngddlhlpaaGreatDoorRows
import GoSem.ClaimSeven
namespace Go.Proofs.YtkbalngddlhlpaaGreatDoor
namespace Rows

/-- THE TIED CARD OF 'codicillaw07.ObjectFixed'. -/
def objectFixedCard : Claim7 := { stood := { row := objectFixedRow, standIns := [], harness := (true, "af30f7da6248e8a51832b6fda46665e4d5549f6994516b3bcbf9a6e6176f4f4c"), looks := true }, kinds := [], alts := [], laidByText := true, laidKinds := [.data, .data, .data, .sentinel, .sentinel, .data], laidTests := true, laidLooks := .later }
def ObjectFixedCardSaid : Prop := Claim7.holds Tryz.pinned (.plain (OpenSpec.ofChange objectFixedSpec)) objectFixedCard

/-- THE TIED CARD OF 'codicillaw07.ObjectMemory'. -/
def objectMemoryCard : Claim7 := { stood := { row := objectMemoryRow, standIns := [], harness := (true, "af30f7da6248e8a51832b6fda46665e4d5549f6994516b3bcbf9a6e6176f4f4c"), looks := true }, kinds := [], alts := [], laidByText := true, laidKinds := [.data, .data, .data, .sentinel, .sentinel, .data], laidTests := true, laidLooks := .later }
def ObjectMemoryCardSaid : Prop := Claim7.holds Tryz.pinned (.plain (OpenSpec.ofChange objectMemorySpec)) objectMemoryCard

/-- THE SECOND FORM's CARD OF 'codicillaw07.ObjectFixed'. -/
def objectFixedUptoCard : Claim7 := { stood := { row := objectFixedUptoRow, standIns := [], harness := (true, "af30f7da6248e8a51832b6fda46665e4d5549f6994516b3bcbf9a6e6176f4f4c"), looks := true }, kinds := [], alts := [], laidByText := true, laidKinds := [.data, .data, .data, .sentinel, .sentinel, .data], laidTests := true, laidLooks := .later }
def ObjectFixedUptoCardSaid : Prop := Claim7.holds Tryz.pinned (.plain (OpenSpec.upto objectFixedSpec)) objectFixedUptoCard

/-- THE SECOND FORM's CARD OF 'codicillaw07.ObjectMemory'. -/
def objectMemoryUptoCard : Claim7 := { stood := { row := objectMemoryUptoRow, standIns := [], harness := (true, "af30f7da6248e8a51832b6fda46665e4d5549f6994516b3bcbf9a6e6176f4f4c"), looks := true }, kinds := [], alts := [], laidByText := true, laidKinds := [.data, .data, .data, .sentinel, .sentinel, .data], laidTests := true, laidLooks := .later }
def ObjectMemoryUptoCardSaid : Prop := Claim7.holds Tryz.pinned (.plain (OpenSpec.upto objectMemorySpec)) objectMemoryUptoCard
end Rows
end Go.Proofs.YtkbalngddlhlpaaGreatDoor
