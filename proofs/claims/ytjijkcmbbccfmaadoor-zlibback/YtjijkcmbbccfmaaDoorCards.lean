/-
  DERIVED. GIVEN WITH THE SEED: THE CARDS: each row of YtjijkcmbbccfmaaDoorRows.lean that lists a variable, with what it lists TIED to the program's text (the seventh form; the later family's looks); each row that meets fmt, with fmt's text TOLD by the authors' own Lean function (tested against real Go, not proved from fmt's source: count such statements apart). THE CARD IS WHAT COUNTS. Prove the row's statement (the work); the ties are given (YtjijkcmbbccfmaaDoorTie.lean); close each card by the builder's one call (the guide's Derived/Test/ToyasCard.lean, 'card_holds'). Laid BY PROGRAM, IN A SANDBOX (cutbox-door.mjs). By AI agents, Wed Nov 11 2026. No macro, syntax, notation, axiom, sorry.
-/
import Derived.Test.YtjijkcmbbccfmaaDoorRows
import GoSem.ClaimSeven
namespace Go.Proofs.YtjijkcmbbccfmaaDoor
namespace Rows

/-- THE TIED CARD OF 'codicillaw04.DeflateBack'. -/
def deflateBackCard : Claim7 := { stood := { row := deflateBackRow, standIns := [], harness := (true, "ffad3ad3a8b85cfdd8a00a0313e5f5c818c9931315e9c901bcb178d4496dab07"), looks := false }, kinds := [], alts := [], laidByText := true, laidKinds := [.data], laidTests := true, laidLooks := .later }
def DeflateBackCardSaid : Prop := Claim7.holds Tryd.pinned (.plain (OpenSpec.ofChange deflateBackSpec)) deflateBackCard

/-- THE TIED CARD OF 'codicillaw04.DeflateFixed'. -/
def deflateFixedCard : Claim7 := { stood := { row := deflateFixedRow, standIns := [], harness := (true, "ffad3ad3a8b85cfdd8a00a0313e5f5c818c9931315e9c901bcb178d4496dab07"), looks := false }, kinds := [], alts := [], laidByText := true, laidKinds := [.data], laidTests := true, laidLooks := .later }
def DeflateFixedCardSaid : Prop := Claim7.holds Tryd.pinned (.plain (OpenSpec.ofChange deflateFixedSpec)) deflateFixedCard

/-- THE TIED CARD OF 'codicillaw05.ZlibBack'. -/
def zlibBackCard : Claim7 := { stood := { row := zlibBackRow, standIns := [], harness := (true, "ffad3ad3a8b85cfdd8a00a0313e5f5c818c9931315e9c901bcb178d4496dab07"), looks := false }, kinds := [], alts := [], laidByText := true, laidKinds := [.data], laidTests := true, laidLooks := .later }
def ZlibBackCardSaid : Prop := Claim7.holds Tryd.pinned (.plain (OpenSpec.ofChange zlibBackSpec)) zlibBackCard

/-- THE TIED CARD OF 'codicillaw05.ZlibFixed'. -/
def zlibFixedCard : Claim7 := { stood := { row := zlibFixedRow, standIns := [], harness := (true, "ffad3ad3a8b85cfdd8a00a0313e5f5c818c9931315e9c901bcb178d4496dab07"), looks := false }, kinds := [], alts := [], laidByText := true, laidKinds := [.data], laidTests := true, laidLooks := .later }
def ZlibFixedCardSaid : Prop := Claim7.holds Tryd.pinned (.plain (OpenSpec.ofChange zlibFixedSpec)) zlibFixedCard

/-- THE TIED CARD OF 'codicillaw05.ZlibMemory'. -/
def zlibMemoryCard : Claim7 := { stood := { row := zlibMemoryRow, standIns := [], harness := (true, "ffad3ad3a8b85cfdd8a00a0313e5f5c818c9931315e9c901bcb178d4496dab07"), looks := false }, kinds := [], alts := [], laidByText := true, laidKinds := [.data], laidTests := true, laidLooks := .later }
def ZlibMemoryCardSaid : Prop := Claim7.holds Tryd.pinned (.plain (OpenSpec.ofChange zlibMemorySpec)) zlibMemoryCard

/-- THE SECOND FORM's CARD OF 'codicillaw04.DeflateBack'. -/
def deflateBackUptoCard : Claim7 := { stood := { row := deflateBackUptoRow, standIns := [], harness := (true, "ffad3ad3a8b85cfdd8a00a0313e5f5c818c9931315e9c901bcb178d4496dab07"), looks := false }, kinds := [], alts := [], laidByText := true, laidKinds := [.data], laidTests := true, laidLooks := .later }
def DeflateBackUptoCardSaid : Prop := Claim7.holds Tryd.pinned (.plain (OpenSpec.upto deflateBackSpec)) deflateBackUptoCard

/-- THE SECOND FORM's CARD OF 'codicillaw04.DeflateFixed'. -/
def deflateFixedUptoCard : Claim7 := { stood := { row := deflateFixedUptoRow, standIns := [], harness := (true, "ffad3ad3a8b85cfdd8a00a0313e5f5c818c9931315e9c901bcb178d4496dab07"), looks := false }, kinds := [], alts := [], laidByText := true, laidKinds := [.data], laidTests := true, laidLooks := .later }
def DeflateFixedUptoCardSaid : Prop := Claim7.holds Tryd.pinned (.plain (OpenSpec.upto deflateFixedSpec)) deflateFixedUptoCard

/-- THE SECOND FORM's CARD OF 'codicillaw05.ZlibBack'. -/
def zlibBackUptoCard : Claim7 := { stood := { row := zlibBackUptoRow, standIns := [], harness := (true, "ffad3ad3a8b85cfdd8a00a0313e5f5c818c9931315e9c901bcb178d4496dab07"), looks := false }, kinds := [], alts := [], laidByText := true, laidKinds := [.data], laidTests := true, laidLooks := .later }
def ZlibBackUptoCardSaid : Prop := Claim7.holds Tryd.pinned (.plain (OpenSpec.upto zlibBackSpec)) zlibBackUptoCard

/-- THE SECOND FORM's CARD OF 'codicillaw05.ZlibFixed'. -/
def zlibFixedUptoCard : Claim7 := { stood := { row := zlibFixedUptoRow, standIns := [], harness := (true, "ffad3ad3a8b85cfdd8a00a0313e5f5c818c9931315e9c901bcb178d4496dab07"), looks := false }, kinds := [], alts := [], laidByText := true, laidKinds := [.data], laidTests := true, laidLooks := .later }
def ZlibFixedUptoCardSaid : Prop := Claim7.holds Tryd.pinned (.plain (OpenSpec.upto zlibFixedSpec)) zlibFixedUptoCard

/-- THE SECOND FORM's CARD OF 'codicillaw05.ZlibMemory'. -/
def zlibMemoryUptoCard : Claim7 := { stood := { row := zlibMemoryUptoRow, standIns := [], harness := (true, "ffad3ad3a8b85cfdd8a00a0313e5f5c818c9931315e9c901bcb178d4496dab07"), looks := false }, kinds := [], alts := [], laidByText := true, laidKinds := [.data], laidTests := true, laidLooks := .later }
def ZlibMemoryUptoCardSaid : Prop := Claim7.holds Tryd.pinned (.plain (OpenSpec.upto zlibMemorySpec)) zlibMemoryUptoCard
end Rows
end Go.Proofs.YtjijkcmbbccfmaaDoor
