/-
  DERIVED. GIVEN WITH THE SEED: THE CARDS: each row of YthbcloplhjmkkaaDoorRows.lean that lists a variable, with what it lists TIED to the program's text (the seventh form; the later family's looks); each row that meets fmt, with fmt's text TOLD by the authors' own Lean function (tested against real Go, not proved from fmt's source: count such statements apart). THE CARD IS WHAT COUNTS. Prove the row's statement (the work); the ties are given (YthbcloplhjmkkaaDoorTie.lean); close each card by the builder's one call (the guide's Derived/Test/ToyasCard.lean, 'card_holds'). Laid BY PROGRAM, IN A SANDBOX (cutbox-door.mjs). By AI agents, Wed Nov 11 2026. No macro, syntax, notation, axiom, sorry.
-/
import Derived.Test.YthbcloplhjmkkaaDoorRows
import GoSem.ClaimSeven
namespace Go.Proofs.YthbcloplhjmkkaaDoor
namespace Rows

/-- THE TIED CARD OF 'codicillaw05.ZlibUnwraps'. -/
def zlibUnwrapsCard : Claim7 := { stood := { row := zlibUnwrapsRow, standIns := [], harness := (true, "50008ce31c3b0c34f70afbbc65e9e0192176145fc9e8390747e3e65eb39919bf"), looks := false }, kinds := [], alts := [], laidByText := true, laidKinds := [.data], laidTests := true, laidLooks := .later }
def ZlibUnwrapsCardSaid : Prop := Claim7.holds Tryd.pinned (.plain (OpenSpec.ofChange zlibUnwrapsSpec)) zlibUnwrapsCard

/-- THE SECOND FORM's CARD OF 'codicillaw05.ZlibUnwraps'. -/
def zlibUnwrapsUptoCard : Claim7 := { stood := { row := zlibUnwrapsUptoRow, standIns := [], harness := (true, "50008ce31c3b0c34f70afbbc65e9e0192176145fc9e8390747e3e65eb39919bf"), looks := false }, kinds := [], alts := [], laidByText := true, laidKinds := [.data], laidTests := true, laidLooks := .later }
def ZlibUnwrapsUptoCardSaid : Prop := Claim7.holds Tryd.pinned (.plain (OpenSpec.upto zlibUnwrapsSpec)) zlibUnwrapsUptoCard
end Rows
end Go.Proofs.YthbcloplhjmkkaaDoor
