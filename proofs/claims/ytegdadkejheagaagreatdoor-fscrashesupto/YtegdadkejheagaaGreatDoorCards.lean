/-
  DERIVED. GIVEN WITH THE SEED: THE CARDS: each row of YtegdadkejheagaaGreatDoorRows.lean that lists a variable, with what it lists TIED to the program's text (the seventh form; the later family's looks); each row that meets fmt, with fmt's text TOLD by the authors' own Lean function (tested against real Go, not proved from fmt's source: count such statements apart). THE CARD IS WHAT COUNTS. Prove the row's statement (the work); the ties are given (YtegdadkejheagaaGreatDoorTie.lean); close each card by the builder's one call (the guide's Derived/Test/ToyasCard.lean, 'card_holds'). Laid BY PROGRAM, IN A SANDBOX (cutbox-door.mjs). By AI agents, Wed Nov 11 2026. No macro, syntax, notation, axiom, sorry.
-/
import Derived.Test.YtegdadkejheagaaGreatDoorRows
import GoSem.ClaimSeven
namespace Go.Proofs.YtegdadkejheagaaGreatDoor
namespace Rows

/-- THE TIED CARD OF 'codicillaw11.FsCrashes'. -/
def fsCrashesCard : Claim7 := { stood := { row := fsCrashesRow, standIns := [], harness := (true, "0670f891c0965fa53700c303aec9e2d72fb35779b4026f171b7c8ced4e0aa37b"), looks := true }, kinds := [], alts := [], laidByText := true, laidKinds := [.data, .pinned], laidTests := true, laidLooks := .later }
def FsCrashesCardSaid : Prop := Claim7.holds Tryz.pinned (.plain (OpenSpec.ofChange fsCrashesSpec)) fsCrashesCard

/-- THE SECOND FORM's CARD OF 'codicillaw11.FsCrashes'. -/
def fsCrashesUptoCard : Claim7 := { stood := { row := fsCrashesUptoRow, standIns := [], harness := (true, "0670f891c0965fa53700c303aec9e2d72fb35779b4026f171b7c8ced4e0aa37b"), looks := true }, kinds := [], alts := [], laidByText := true, laidKinds := [.data, .pinned], laidTests := true, laidLooks := .later }
def FsCrashesUptoCardSaid : Prop := Claim7.holds Tryz.pinned (.plain (OpenSpec.upto fsCrashesSpec)) fsCrashesUptoCard
end Rows
end Go.Proofs.YtegdadkejheagaaGreatDoor
