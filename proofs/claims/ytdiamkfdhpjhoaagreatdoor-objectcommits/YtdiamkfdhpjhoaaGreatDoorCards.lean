/-
  DERIVED. GIVEN WITH THE SEED: THE CARDS: each row of YtdiamkfdhpjhoaaGreatDoorRows.lean that lists a variable, with what it lists TIED to the program's text (the seventh form; the later family's looks); each row that meets fmt, with fmt's text TOLD by the authors' own Lean function (tested against real Go, not proved from fmt's source: count such statements apart). THE CARD IS WHAT COUNTS. Prove the row's statement (the work); the ties are given (YtdiamkfdhpjhoaaGreatDoorTie.lean); close each card by the builder's one call (the guide's Derived/Test/ToyasCard.lean, 'card_holds'). Laid BY PROGRAM, IN A SANDBOX (cutbox-door.mjs). By AI agents, Wed Nov 11 2026. No macro, syntax, notation, axiom, sorry.
-/
import Derived.Test.YtdiamkfdhpjhoaaGreatDoorRows
import GoSem.ClaimSeven
namespace Go.Proofs.YtdiamkfdhpjhoaaGreatDoor
namespace Rows

/-- THE TIED CARD OF 'codicillaw07.ObjectCommits'. -/
def objectCommitsCard : Claim7 := { stood := { row := objectCommitsRow, standIns := [], harness := (true, "a7e26bc14c81615c26340d6fd81ce13ecfa403ee3e5f1fdff2eccd91568d89e3"), looks := true }, kinds := [], alts := [], laidByText := true, laidKinds := [.data, .data, .data, .sentinel, .sentinel, .data], laidTests := true, laidLooks := .later }
def ObjectCommitsCardSaid : Prop := Claim7.holds Tryz.pinned (.plain (OpenSpec.ofChange objectCommitsSpec)) objectCommitsCard

/-- THE SECOND FORM's CARD OF 'codicillaw07.ObjectCommits'. -/
def objectCommitsUptoCard : Claim7 := { stood := { row := objectCommitsUptoRow, standIns := [], harness := (true, "a7e26bc14c81615c26340d6fd81ce13ecfa403ee3e5f1fdff2eccd91568d89e3"), looks := true }, kinds := [], alts := [], laidByText := true, laidKinds := [.data, .data, .data, .sentinel, .sentinel, .data], laidTests := true, laidLooks := .later }
def ObjectCommitsUptoCardSaid : Prop := Claim7.holds Tryz.pinned (.plain (OpenSpec.upto objectCommitsSpec)) objectCommitsUptoCard
end Rows
end Go.Proofs.YtdiamkfdhpjhoaaGreatDoor
