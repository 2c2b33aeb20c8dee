/-
  DERIVED. GIVEN WITH THE SEED: THE CARDS: each row of YtegdadkejheagaaDoorRows.lean that lists a variable, with what it lists TIED to the program's text (the seventh form; the later family's looks); each row that meets fmt, with fmt's text TOLD by the authors' own Lean function (tested against real Go, not proved from fmt's source: count such statements apart). THE CARD IS WHAT COUNTS. Prove the row's statement (the work); the ties are given (YtegdadkejheagaaDoorTie.lean); close each card by the builder's one call (the guide's Derived/Test/ToyasCard.lean, 'card_holds'). Laid BY PROGRAM, IN A SANDBOX (cutbox-door.mjs). By AI agents, Wed Nov 11 2026. No macro, syntax, notation, axiom, sorry.
-/
import Derived.Test.YtegdadkejheagaaDoorRows
import GoSem.ClaimSeven
namespace Go.Proofs.YtegdadkejheagaaDoor
namespace Rows

/-- THE TIED CARD OF 'codicillaw11.FsLasts'. -/
def fsLastsCard : Claim7 := { stood := { row := fsLastsRow, standIns := [], harness := (true, "e631f4e13827c7f2c2267b40bedd85fdd874d51dbc2e1255a820dbf45cce9aa5"), looks := true }, kinds := [], alts := [], laidByText := true, laidKinds := [.data, .pinned], laidTests := true, laidLooks := .later }
def FsLastsCardSaid : Prop := Claim7.holds Tryd.pinned (.plain (OpenSpec.ofChange fsLastsSpec)) fsLastsCard

/-- THE TIED CARD OF 'codicillaw11.FsFixed'. -/
def fsFixedCard : Claim7 := { stood := { row := fsFixedRow, standIns := [], harness := (true, "e631f4e13827c7f2c2267b40bedd85fdd874d51dbc2e1255a820dbf45cce9aa5"), looks := true }, kinds := [], alts := [], laidByText := true, laidKinds := [.data, .pinned], laidTests := true, laidLooks := .later }
def FsFixedCardSaid : Prop := Claim7.holds Tryd.pinned (.plain (OpenSpec.ofChange fsFixedSpec)) fsFixedCard

/-- THE TIED CARD OF 'codicillaw11.FsMemory'. -/
def fsMemoryCard : Claim7 := { stood := { row := fsMemoryRow, standIns := [], harness := (true, "e631f4e13827c7f2c2267b40bedd85fdd874d51dbc2e1255a820dbf45cce9aa5"), looks := true }, kinds := [], alts := [], laidByText := true, laidKinds := [.data, .pinned], laidTests := true, laidLooks := .later }
def FsMemoryCardSaid : Prop := Claim7.holds Tryd.pinned (.plain (OpenSpec.ofChange fsMemorySpec)) fsMemoryCard

/-- THE SECOND FORM's CARD OF 'codicillaw11.FsLasts'. -/
def fsLastsUptoCard : Claim7 := { stood := { row := fsLastsUptoRow, standIns := [], harness := (true, "e631f4e13827c7f2c2267b40bedd85fdd874d51dbc2e1255a820dbf45cce9aa5"), looks := true }, kinds := [], alts := [], laidByText := true, laidKinds := [.data, .pinned], laidTests := true, laidLooks := .later }
def FsLastsUptoCardSaid : Prop := Claim7.holds Tryd.pinned (.plain (OpenSpec.upto fsLastsSpec)) fsLastsUptoCard

/-- THE SECOND FORM's CARD OF 'codicillaw11.FsFixed'. -/
def fsFixedUptoCard : Claim7 := { stood := { row := fsFixedUptoRow, standIns := [], harness := (true, "e631f4e13827c7f2c2267b40bedd85fdd874d51dbc2e1255a820dbf45cce9aa5"), looks := true }, kinds := [], alts := [], laidByText := true, laidKinds := [.data, .pinned], laidTests := true, laidLooks := .later }
def FsFixedUptoCardSaid : Prop := Claim7.holds Tryd.pinned (.plain (OpenSpec.upto fsFixedSpec)) fsFixedUptoCard

/-- THE SECOND FORM's CARD OF 'codicillaw11.FsMemory'. -/
def fsMemoryUptoCard : Claim7 := { stood := { row := fsMemoryUptoRow, standIns := [], harness := (true, "e631f4e13827c7f2c2267b40bedd85fdd874d51dbc2e1255a820dbf45cce9aa5"), looks := true }, kinds := [], alts := [], laidByText := true, laidKinds := [.data, .pinned], laidTests := true, laidLooks := .later }
def FsMemoryUptoCardSaid : Prop := Claim7.holds Tryd.pinned (.plain (OpenSpec.upto fsMemorySpec)) fsMemoryUptoCard
end Rows
end Go.Proofs.YtegdadkejheagaaDoor
