/-
  NARROWER THAN 'FOR EVERY INPUT', by the rows' own cells (each row's printed sentence says how): InflateReads: laid · InflateEnds: laid · InflateStored: laid · InflateFixed: laid · InflateMemory: laid · DeflateBack: laid.
  DERIVED. THE GIVEN ROWS OF THIS SEAT. 6 by the template 'for every input the law returns true; each argument reads behind the call as it read before'; 0 by the template 'total and deterministic' (their statements: YtjifhhafllegbaaDoorTotals.lean).
  GIVEN WITH THE SEED: the statements are not yours to turn. If you find one false, say at which input.
  Laid BY PROGRAM, IN A SANDBOX (cutbox-rows.mjs): the forced cells as the released guide's own fill.sh prints them over the translation 04c52f05e9838d93… (all of the seat's roots in one cut). By AI agents, Wed Nov 11 2026. No macro, syntax, notation, axiom, sorry.
-/
import Derived.Test.YtjifhhafllegbaaDoorChecked
import GoSem.Claim
import GoSem.ClaimJoined
import GoSem.ClaimMapViews
import Derived.JoinedTies
import Derived.KernelRfl
namespace Go.Proofs.YtjifhhafllegbaaDoor
/- THE CELL 'sum', in the pinned program and in every row, IS THE sha256 OF THE DUMP (.gsa) THAT YtjifhhafllegbaaDoorProg.lean LOADS. Nothing in Lean hashes anything: it is a label: what it is worth is what the hold of that sum in a sandbox is worth. -/
noncomputable def Tryd.pinned : Pinned := { name := "ytjifhhafllegbaadoor", sum := "04c52f05e9838d933bb42cec97564130e092020ac2f729fce5544f054bfff7ba", checked := Tryd.checked }
namespace Rows
def none {H : Type} : Left H := { results := [], args := [] }

/- WHAT THE LISTED PACKAGE-LEVEL VARIABLES READ AS WHEN THE CALL BEGINS. Each datum BY PROGRAM (the guide's laid-datum.mjs) off the statement by which the dump's own 'gosem.cut.vars' lays the variable. In a bare row this is a premise. The card (YtjifhhafllegbaaDoorCards.lean) ties it to the program's text. -/
def laid_codicil_inflate_toldOrder {H : Type} : DataW H := .agg [.lit (.int .i64 16), .lit (.int .i64 17), .lit (.int .i64 18), .lit (.int .i64 0), .lit (.int .i64 8), .lit (.int .i64 7), .lit (.int .i64 9), .lit (.int .i64 6), .lit (.int .i64 10), .lit (.int .i64 5), .lit (.int .i64 11), .lit (.int .i64 4), .lit (.int .i64 12), .lit (.int .i64 3), .lit (.int .i64 13), .lit (.int .i64 2), .lit (.int .i64 14), .lit (.int .i64 1), .lit (.int .i64 15)]

/-- 'codicillaw03.InflateReads': WHATEVER THE INPUT: true; the input reads as it did. -/
def inflateReadsSpec : ChangeSpec := { name := "inflateReads", fn := fun _ => fun
  | [d1, d2] => { results := [.lit (.bool true)], args := [d1, d2] }
  | _ => none }
def inflateReadsRow : OpenClaim := { program := "ytjifhhafllegbaadoor", sum := "04c52f05e9838d933bb42cec97564130e092020ac2f729fce5544f054bfff7ba", func := "codicil/codicillaw03.InflateReads", spec := "inflateReads", named := ["codicil/inflate.toldOrder"], plainKeys := false, apart := false, laid := [("codicil/inflate.toldOrder", laid_codicil_inflate_toldOrder)] }
def InflateReadsSaid : Prop := inflateReadsRow.holds Tryd.pinned (OpenSpec.ofChange inflateReadsSpec)

/-- ITS FALSE NEIGHBOUR: 'it returns false'. Refute it at one input. -/
def inflateReadsWrong : ChangeSpec := { name := "inflateReads", fn := fun _ => fun
  | [d1, d2] => { results := [.lit (.bool false)], args := [d1, d2] }
  | _ => none }
def InflateReadsWrongFalsely : Prop := inflateReadsRow.holds Tryd.pinned (OpenSpec.ofChange inflateReadsWrong)

/-- 'codicillaw03.InflateEnds': WHATEVER THE INPUT: true; the input reads as it did. -/
def inflateEndsSpec : ChangeSpec := { name := "inflateEnds", fn := fun _ => fun
  | [d1, d2, d3] => { results := [.lit (.bool true)], args := [d1, d2, d3] }
  | _ => none }
def inflateEndsRow : OpenClaim := { program := "ytjifhhafllegbaadoor", sum := "04c52f05e9838d933bb42cec97564130e092020ac2f729fce5544f054bfff7ba", func := "codicil/codicillaw03.InflateEnds", spec := "inflateEnds", named := ["codicil/inflate.toldOrder"], plainKeys := false, apart := false, laid := [("codicil/inflate.toldOrder", laid_codicil_inflate_toldOrder)] }
def InflateEndsSaid : Prop := inflateEndsRow.holds Tryd.pinned (OpenSpec.ofChange inflateEndsSpec)

/-- ITS FALSE NEIGHBOUR: 'it returns false'. Refute it at one input. -/
def inflateEndsWrong : ChangeSpec := { name := "inflateEnds", fn := fun _ => fun
  | [d1, d2, d3] => { results := [.lit (.bool false)], args := [d1, d2, d3] }
  | _ => none }
def InflateEndsWrongFalsely : Prop := inflateEndsRow.holds Tryd.pinned (OpenSpec.ofChange inflateEndsWrong)

/-- 'codicillaw03.InflateStored': WHATEVER THE INPUT: true; the input reads as it did. -/
def inflateStoredSpec : ChangeSpec := { name := "inflateStored", fn := fun _ => fun
  | [d] => { results := [.lit (.bool true)], args := [d] }
  | _ => none }
def inflateStoredRow : OpenClaim := { program := "ytjifhhafllegbaadoor", sum := "04c52f05e9838d933bb42cec97564130e092020ac2f729fce5544f054bfff7ba", func := "codicil/codicillaw03.InflateStored", spec := "inflateStored", named := ["codicil/inflate.toldOrder"], plainKeys := false, apart := false, laid := [("codicil/inflate.toldOrder", laid_codicil_inflate_toldOrder)] }
def InflateStoredSaid : Prop := inflateStoredRow.holds Tryd.pinned (OpenSpec.ofChange inflateStoredSpec)

/-- ITS FALSE NEIGHBOUR: 'it returns false'. Refute it at one input. -/
def inflateStoredWrong : ChangeSpec := { name := "inflateStored", fn := fun _ => fun
  | [d] => { results := [.lit (.bool false)], args := [d] }
  | _ => none }
def InflateStoredWrongFalsely : Prop := inflateStoredRow.holds Tryd.pinned (OpenSpec.ofChange inflateStoredWrong)

/-- 'codicillaw03.InflateFixed': WHATEVER THE INPUT: true; the input reads as it did. -/
def inflateFixedSpec : ChangeSpec := { name := "inflateFixed", fn := fun _ => fun
  | [] => { results := [.lit (.bool true)], args := [] }
  | _ => none }
def inflateFixedRow : OpenClaim := { program := "ytjifhhafllegbaadoor", sum := "04c52f05e9838d933bb42cec97564130e092020ac2f729fce5544f054bfff7ba", func := "codicil/codicillaw03.InflateFixed", spec := "inflateFixed", named := ["codicil/inflate.toldOrder"], plainKeys := false, apart := false, laid := [("codicil/inflate.toldOrder", laid_codicil_inflate_toldOrder)] }
def InflateFixedSaid : Prop := inflateFixedRow.holds Tryd.pinned (OpenSpec.ofChange inflateFixedSpec)

/-- ITS FALSE NEIGHBOUR: 'it returns false'. Refute it at one input. -/
def inflateFixedWrong : ChangeSpec := { name := "inflateFixed", fn := fun _ => fun
  | [] => { results := [.lit (.bool false)], args := [] }
  | _ => none }
def InflateFixedWrongFalsely : Prop := inflateFixedRow.holds Tryd.pinned (OpenSpec.ofChange inflateFixedWrong)

/-- 'codicillaw03.InflateMemory': WHATEVER THE INPUT: true; the input reads as it did. -/
def inflateMemorySpec : ChangeSpec := { name := "inflateMemory", fn := fun _ => fun
  | [d] => { results := [.lit (.bool true)], args := [d] }
  | _ => none }
def inflateMemoryRow : OpenClaim := { program := "ytjifhhafllegbaadoor", sum := "04c52f05e9838d933bb42cec97564130e092020ac2f729fce5544f054bfff7ba", func := "codicil/codicillaw03.InflateMemory", spec := "inflateMemory", named := ["codicil/inflate.toldOrder"], plainKeys := false, apart := false, laid := [("codicil/inflate.toldOrder", laid_codicil_inflate_toldOrder)] }
def InflateMemorySaid : Prop := inflateMemoryRow.holds Tryd.pinned (OpenSpec.ofChange inflateMemorySpec)

/-- ITS FALSE NEIGHBOUR: 'it returns false'. Refute it at one input. -/
def inflateMemoryWrong : ChangeSpec := { name := "inflateMemory", fn := fun _ => fun
  | [d] => { results := [.lit (.bool false)], args := [d] }
  | _ => none }
def InflateMemoryWrongFalsely : Prop := inflateMemoryRow.holds Tryd.pinned (OpenSpec.ofChange inflateMemoryWrong)

/-- 'codicillaw04.DeflateBack': WHATEVER THE INPUT: true; the input reads as it did. -/
def deflateBackSpec : ChangeSpec := { name := "deflateBack", fn := fun _ => fun
  | [d1, d2, d3] => { results := [.lit (.bool true)], args := [d1, d2, d3] }
  | _ => none }
def deflateBackRow : OpenClaim := { program := "ytjifhhafllegbaadoor", sum := "04c52f05e9838d933bb42cec97564130e092020ac2f729fce5544f054bfff7ba", func := "codicil/codicillaw04.DeflateBack", spec := "deflateBack", named := ["codicil/inflate.toldOrder"], plainKeys := false, apart := false, laid := [("codicil/inflate.toldOrder", laid_codicil_inflate_toldOrder)] }
def DeflateBackSaid : Prop := deflateBackRow.holds Tryd.pinned (OpenSpec.ofChange deflateBackSpec)

/-- ITS FALSE NEIGHBOUR: 'it returns false'. Refute it at one input. -/
def deflateBackWrong : ChangeSpec := { name := "deflateBack", fn := fun _ => fun
  | [d1, d2, d3] => { results := [.lit (.bool false)], args := [d1, d2, d3] }
  | _ => none }
def DeflateBackWrongFalsely : Prop := deflateBackRow.holds Tryd.pinned (OpenSpec.ofChange deflateBackWrong)

/- THE SECOND FORM. 'bulk': how many values and letters a reading holds, each counted each time it is reached (what is shared counts as often as it is met; a slice's spare places count too). A statement '..UptoSaid' is the law's where the arguments, and the package variables that the reading takes, are together of bulk at most 1048576: NARROWER than '..Said'. Prove '..Said' where nothing that the law and all that it calls make is longer than what came in: it says more and counts as full. Else prove '..UptoSaid'. A law counts once. -/
mutual
def uptoBulk {H : Type} : DataW H → Nat
  | .lit (.string bytes) => bytes.length + 1
  | .lit _ => 1
  | .nil => 1
  | .ptr d => uptoBulk d + 1
  | .slice elems spare => uptoBulkAll elems + uptoBulkAll spare + 1
  | .agg parts => uptoBulkAll parts + 1
  | .iface _ d => uptoBulk d + 1
  | .map entries => uptoBulkEntries entries + 1
  | .held _ => 1
def uptoBulkAll {H : Type} : List (DataW H) → Nat
  | [] => 0
  | d :: r => uptoBulk d + uptoBulkAll r
def uptoBulkEntries {H : Type} : List (Lit × DataW H) → Nat
  | [] => 0
  | x :: r => uptoBulkEntry x + uptoBulkEntries r
def uptoBulkEntry {H : Type} : Lit × DataW H → Nat
  | (.string bytes, d) => bytes.length + uptoBulk d + 1
  | (_, d) => uptoBulk d + 1
 end
def uptoSmall : (H : Type) → List (DataW H) → Bool := fun _ ds => decide (uptoBulkAll ds ≤ 1048576)
def OpenSpec.upto (s : _root_.Go.ChangeSpec) : _root_.Go.OpenSpec := { _root_.Go.OpenSpec.ofChange s with cond := some uptoSmall }

/-- 'codicillaw03.InflateReads', WHERE WHAT IT READS IS OF BULK AT MOST 1048576: true; the input reads as it did. -/
def inflateReadsUptoRow : OpenClaim := { program := "ytjifhhafllegbaadoor", sum := "04c52f05e9838d933bb42cec97564130e092020ac2f729fce5544f054bfff7ba", func := "codicil/codicillaw03.InflateReads", spec := "inflateReads", named := ["codicil/inflate.toldOrder"], plainKeys := false, apart := false, laid := [("codicil/inflate.toldOrder", laid_codicil_inflate_toldOrder)], narrowed := true }
def InflateReadsUptoSaid : Prop := inflateReadsUptoRow.holds Tryd.pinned (OpenSpec.upto inflateReadsSpec)

/-- 'codicillaw03.InflateEnds', WHERE WHAT IT READS IS OF BULK AT MOST 1048576: true; the input reads as it did. -/
def inflateEndsUptoRow : OpenClaim := { program := "ytjifhhafllegbaadoor", sum := "04c52f05e9838d933bb42cec97564130e092020ac2f729fce5544f054bfff7ba", func := "codicil/codicillaw03.InflateEnds", spec := "inflateEnds", named := ["codicil/inflate.toldOrder"], plainKeys := false, apart := false, laid := [("codicil/inflate.toldOrder", laid_codicil_inflate_toldOrder)], narrowed := true }
def InflateEndsUptoSaid : Prop := inflateEndsUptoRow.holds Tryd.pinned (OpenSpec.upto inflateEndsSpec)

/-- 'codicillaw03.InflateStored', WHERE WHAT IT READS IS OF BULK AT MOST 1048576: true; the input reads as it did. -/
def inflateStoredUptoRow : OpenClaim := { program := "ytjifhhafllegbaadoor", sum := "04c52f05e9838d933bb42cec97564130e092020ac2f729fce5544f054bfff7ba", func := "codicil/codicillaw03.InflateStored", spec := "inflateStored", named := ["codicil/inflate.toldOrder"], plainKeys := false, apart := false, laid := [("codicil/inflate.toldOrder", laid_codicil_inflate_toldOrder)], narrowed := true }
def InflateStoredUptoSaid : Prop := inflateStoredUptoRow.holds Tryd.pinned (OpenSpec.upto inflateStoredSpec)

/-- 'codicillaw03.InflateFixed', WHERE WHAT IT READS IS OF BULK AT MOST 1048576: true; the input reads as it did. -/
def inflateFixedUptoRow : OpenClaim := { program := "ytjifhhafllegbaadoor", sum := "04c52f05e9838d933bb42cec97564130e092020ac2f729fce5544f054bfff7ba", func := "codicil/codicillaw03.InflateFixed", spec := "inflateFixed", named := ["codicil/inflate.toldOrder"], plainKeys := false, apart := false, laid := [("codicil/inflate.toldOrder", laid_codicil_inflate_toldOrder)], narrowed := true }
def InflateFixedUptoSaid : Prop := inflateFixedUptoRow.holds Tryd.pinned (OpenSpec.upto inflateFixedSpec)

/-- 'codicillaw03.InflateMemory', WHERE WHAT IT READS IS OF BULK AT MOST 1048576: true; the input reads as it did. -/
def inflateMemoryUptoRow : OpenClaim := { program := "ytjifhhafllegbaadoor", sum := "04c52f05e9838d933bb42cec97564130e092020ac2f729fce5544f054bfff7ba", func := "codicil/codicillaw03.InflateMemory", spec := "inflateMemory", named := ["codicil/inflate.toldOrder"], plainKeys := false, apart := false, laid := [("codicil/inflate.toldOrder", laid_codicil_inflate_toldOrder)], narrowed := true }
def InflateMemoryUptoSaid : Prop := inflateMemoryUptoRow.holds Tryd.pinned (OpenSpec.upto inflateMemorySpec)

/-- 'codicillaw04.DeflateBack', WHERE WHAT IT READS IS OF BULK AT MOST 1048576: true; the input reads as it did. -/
def deflateBackUptoRow : OpenClaim := { program := "ytjifhhafllegbaadoor", sum := "04c52f05e9838d933bb42cec97564130e092020ac2f729fce5544f054bfff7ba", func := "codicil/codicillaw04.DeflateBack", spec := "deflateBack", named := ["codicil/inflate.toldOrder"], plainKeys := false, apart := false, laid := [("codicil/inflate.toldOrder", laid_codicil_inflate_toldOrder)], narrowed := true }
def DeflateBackUptoSaid : Prop := deflateBackUptoRow.holds Tryd.pinned (OpenSpec.upto deflateBackSpec)

end Rows
end Go.Proofs.YtjifhhafllegbaaDoor
