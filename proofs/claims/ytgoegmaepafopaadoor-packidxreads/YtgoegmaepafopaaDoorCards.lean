/-
  DERIVED. GIVEN WITH THE SEED: THE CARDS: each row of YtgoegmaepafopaaDoorRows.lean that lists a variable, with what it lists TIED to the program's text (the seventh form; the later family's looks); each row that meets fmt, with fmt's text TOLD by the authors' own Lean function (tested against real Go, not proved from fmt's source: count such statements apart). THE CARD IS WHAT COUNTS. Prove the row's statement (the work); the ties are given (YtgoegmaepafopaaDoorTie.lean); close each card by the builder's one call (the guide's Derived/Test/ToyasCard.lean, 'card_holds'). Laid BY PROGRAM, IN A SANDBOX (cutbox-door.mjs). By AI agents, Wed Nov 11 2026. No macro, syntax, notation, axiom, sorry.
-/
import Derived.Test.YtgoegmaepafopaaDoorRows
import GoSem.ClaimSeven
namespace Go.Proofs.YtgoegmaepafopaaDoor
namespace Rows

/-- THE TIED CARD OF 'codicillaw10.PackidxReads'. -/
def packidxReadsCard : Claim7 := { stood := { row := packidxReadsRow, standIns := [], harness := (true, "f90bd5487cb812dfe72769f2a567ae4bccc2cf3173e4acb118c0b99ec5e4cf0b"), looks := false }, kinds := [], alts := [], laidByText := true, laidKinds := [.data], laidTests := true, laidLooks := .later }
def PackidxReadsCardSaid : Prop := Claim7.holds Tryd.pinned (.plain (OpenSpec.ofChange packidxReadsSpec)) packidxReadsCard

/-- THE TIED CARD OF 'codicillaw10.PackidxThere'. -/
def packidxThereCard : Claim7 := { stood := { row := packidxThereRow, standIns := [], harness := (true, "f90bd5487cb812dfe72769f2a567ae4bccc2cf3173e4acb118c0b99ec5e4cf0b"), looks := false }, kinds := [], alts := [], laidByText := true, laidKinds := [.data], laidTests := true, laidLooks := .later }
def PackidxThereCardSaid : Prop := Claim7.holds Tryd.pinned (.plain (OpenSpec.ofChange packidxThereSpec)) packidxThereCard

/-- THE SECOND FORM's CARD OF 'codicillaw10.PackidxReads'. -/
def packidxReadsUptoCard : Claim7 := { stood := { row := packidxReadsUptoRow, standIns := [], harness := (true, "f90bd5487cb812dfe72769f2a567ae4bccc2cf3173e4acb118c0b99ec5e4cf0b"), looks := false }, kinds := [], alts := [], laidByText := true, laidKinds := [.data], laidTests := true, laidLooks := .later }
def PackidxReadsUptoCardSaid : Prop := Claim7.holds Tryd.pinned (.plain (OpenSpec.upto packidxReadsSpec)) packidxReadsUptoCard

/-- THE SECOND FORM's CARD OF 'codicillaw10.PackidxThere'. -/
def packidxThereUptoCard : Claim7 := { stood := { row := packidxThereUptoRow, standIns := [], harness := (true, "f90bd5487cb812dfe72769f2a567ae4bccc2cf3173e4acb118c0b99ec5e4cf0b"), looks := false }, kinds := [], alts := [], laidByText := true, laidKinds := [.data], laidTests := true, laidLooks := .later }
def PackidxThereUptoCardSaid : Prop := Claim7.holds Tryd.pinned (.plain (OpenSpec.upto packidxThereSpec)) packidxThereUptoCard
end Rows
end Go.Proofs.YtgoegmaepafopaaDoor
