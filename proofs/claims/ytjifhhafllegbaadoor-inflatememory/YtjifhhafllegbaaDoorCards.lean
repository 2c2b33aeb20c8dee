/-
  DERIVED. GIVEN WITH THE SEED: THE CARDS: each row of YtjifhhafllegbaaDoorRows.lean that lists a variable, with what it lists TIED to the program's text (the seventh form; the later family's looks); each row that meets fmt, with fmt's text TOLD by the authors' own Lean function (tested against real Go, not proved from fmt's source: count such statements apart). THE CARD IS WHAT COUNTS. Prove the row's statement (the work); the ties are given (YtjifhhafllegbaaDoorTie.lean); close each card by the builder's one call (the guide's Derived/Test/ToyasCard.lean, 'card_holds'). Laid BY PROGRAM, IN A SANDBOX (cutbox-door.mjs). By AI agents, Wed Nov 11 2026. No macro, syntax, notation, axiom, sorry.
-/
import Derived.Test.YtjifhhafllegbaaDoorRows
import GoSem.ClaimSeven
namespace Go.Proofs.YtjifhhafllegbaaDoor
namespace Rows

/-- THE TIED CARD OF 'codicillaw03.InflateReads'. -/
def inflateReadsCard : Claim7 := { stood := { row := inflateReadsRow, standIns := [], harness := (true, "09e89c2bce0bf8beac169fb2ee2db4f50b805c285ba8b2975c84188b4fa8db94"), looks := false }, kinds := [], alts := [], laidByText := true, laidKinds := [.data], laidTests := true, laidLooks := .later }
def InflateReadsCardSaid : Prop := Claim7.holds Tryd.pinned (.plain (OpenSpec.ofChange inflateReadsSpec)) inflateReadsCard

/-- THE TIED CARD OF 'codicillaw03.InflateEnds'. -/
def inflateEndsCard : Claim7 := { stood := { row := inflateEndsRow, standIns := [], harness := (true, "09e89c2bce0bf8beac169fb2ee2db4f50b805c285ba8b2975c84188b4fa8db94"), looks := false }, kinds := [], alts := [], laidByText := true, laidKinds := [.data], laidTests := true, laidLooks := .later }
def InflateEndsCardSaid : Prop := Claim7.holds Tryd.pinned (.plain (OpenSpec.ofChange inflateEndsSpec)) inflateEndsCard

/-- THE TIED CARD OF 'codicillaw03.InflateStored'. -/
def inflateStoredCard : Claim7 := { stood := { row := inflateStoredRow, standIns := [], harness := (true, "09e89c2bce0bf8beac169fb2ee2db4f50b805c285ba8b2975c84188b4fa8db94"), looks := false }, kinds := [], alts := [], laidByText := true, laidKinds := [.data], laidTests := true, laidLooks := .later }
def InflateStoredCardSaid : Prop := Claim7.holds Tryd.pinned (.plain (OpenSpec.ofChange inflateStoredSpec)) inflateStoredCard

/-- THE TIED CARD OF 'codicillaw03.InflateFixed'. -/
def inflateFixedCard : Claim7 := { stood := { row := inflateFixedRow, standIns := [], harness := (true, "09e89c2bce0bf8beac169fb2ee2db4f50b805c285ba8b2975c84188b4fa8db94"), looks := false }, kinds := [], alts := [], laidByText := true, laidKinds := [.data], laidTests := true, laidLooks := .later }
def InflateFixedCardSaid : Prop := Claim7.holds Tryd.pinned (.plain (OpenSpec.ofChange inflateFixedSpec)) inflateFixedCard

/-- THE TIED CARD OF 'codicillaw03.InflateMemory'. -/
def inflateMemoryCard : Claim7 := { stood := { row := inflateMemoryRow, standIns := [], harness := (true, "09e89c2bce0bf8beac169fb2ee2db4f50b805c285ba8b2975c84188b4fa8db94"), looks := false }, kinds := [], alts := [], laidByText := true, laidKinds := [.data], laidTests := true, laidLooks := .later }
def InflateMemoryCardSaid : Prop := Claim7.holds Tryd.pinned (.plain (OpenSpec.ofChange inflateMemorySpec)) inflateMemoryCard

/-- THE TIED CARD OF 'codicillaw04.DeflateBack'. -/
def deflateBackCard : Claim7 := { stood := { row := deflateBackRow, standIns := [], harness := (true, "09e89c2bce0bf8beac169fb2ee2db4f50b805c285ba8b2975c84188b4fa8db94"), looks := false }, kinds := [], alts := [], laidByText := true, laidKinds := [.data], laidTests := true, laidLooks := .later }
def DeflateBackCardSaid : Prop := Claim7.holds Tryd.pinned (.plain (OpenSpec.ofChange deflateBackSpec)) deflateBackCard

/-- THE SECOND FORM's CARD OF 'codicillaw03.InflateReads'. -/
def inflateReadsUptoCard : Claim7 := { stood := { row := inflateReadsUptoRow, standIns := [], harness := (true, "09e89c2bce0bf8beac169fb2ee2db4f50b805c285ba8b2975c84188b4fa8db94"), looks := false }, kinds := [], alts := [], laidByText := true, laidKinds := [.data], laidTests := true, laidLooks := .later }
def InflateReadsUptoCardSaid : Prop := Claim7.holds Tryd.pinned (.plain (OpenSpec.upto inflateReadsSpec)) inflateReadsUptoCard

/-- THE SECOND FORM's CARD OF 'codicillaw03.InflateEnds'. -/
def inflateEndsUptoCard : Claim7 := { stood := { row := inflateEndsUptoRow, standIns := [], harness := (true, "09e89c2bce0bf8beac169fb2ee2db4f50b805c285ba8b2975c84188b4fa8db94"), looks := false }, kinds := [], alts := [], laidByText := true, laidKinds := [.data], laidTests := true, laidLooks := .later }
def InflateEndsUptoCardSaid : Prop := Claim7.holds Tryd.pinned (.plain (OpenSpec.upto inflateEndsSpec)) inflateEndsUptoCard

/-- THE SECOND FORM's CARD OF 'codicillaw03.InflateStored'. -/
def inflateStoredUptoCard : Claim7 := { stood := { row := inflateStoredUptoRow, standIns := [], harness := (true, "09e89c2bce0bf8beac169fb2ee2db4f50b805c285ba8b2975c84188b4fa8db94"), looks := false }, kinds := [], alts := [], laidByText := true, laidKinds := [.data], laidTests := true, laidLooks := .later }
def InflateStoredUptoCardSaid : Prop := Claim7.holds Tryd.pinned (.plain (OpenSpec.upto inflateStoredSpec)) inflateStoredUptoCard

/-- THE SECOND FORM's CARD OF 'codicillaw03.InflateFixed'. -/
def inflateFixedUptoCard : Claim7 := { stood := { row := inflateFixedUptoRow, standIns := [], harness := (true, "09e89c2bce0bf8beac169fb2ee2db4f50b805c285ba8b2975c84188b4fa8db94"), looks := false }, kinds := [], alts := [], laidByText := true, laidKinds := [.data], laidTests := true, laidLooks := .later }
def InflateFixedUptoCardSaid : Prop := Claim7.holds Tryd.pinned (.plain (OpenSpec.upto inflateFixedSpec)) inflateFixedUptoCard

/-- THE SECOND FORM's CARD OF 'codicillaw03.InflateMemory'. -/
def inflateMemoryUptoCard : Claim7 := { stood := { row := inflateMemoryUptoRow, standIns := [], harness := (true, "09e89c2bce0bf8beac169fb2ee2db4f50b805c285ba8b2975c84188b4fa8db94"), looks := false }, kinds := [], alts := [], laidByText := true, laidKinds := [.data], laidTests := true, laidLooks := .later }
def InflateMemoryUptoCardSaid : Prop := Claim7.holds Tryd.pinned (.plain (OpenSpec.upto inflateMemorySpec)) inflateMemoryUptoCard

/-- THE SECOND FORM's CARD OF 'codicillaw04.DeflateBack'. -/
def deflateBackUptoCard : Claim7 := { stood := { row := deflateBackUptoRow, standIns := [], harness := (true, "09e89c2bce0bf8beac169fb2ee2db4f50b805c285ba8b2975c84188b4fa8db94"), looks := false }, kinds := [], alts := [], laidByText := true, laidKinds := [.data], laidTests := true, laidLooks := .later }
def DeflateBackUptoCardSaid : Prop := Claim7.holds Tryd.pinned (.plain (OpenSpec.upto deflateBackSpec)) deflateBackUptoCard
end Rows
end Go.Proofs.YtjifhhafllegbaaDoor
