/-
  No cell of these rows narrows 'for every input' (looked for: loops, veiled, ifaces, maps, wideKeys, modest, calm, conditions, laid).
  DERIVED. THE GIVEN ROWS OF THIS SEAT. 3 by the template 'for every input the law returns true; each argument reads behind the call as it read before'; 0 by the template 'total and deterministic' (their statements: YtlcfedgeboafkaaTotals.lean).
  GIVEN WITH THE SEED: the statements are not yours to turn. If you find one false, say at which input.
  Laid BY PROGRAM, IN A SANDBOX (cutbox-rows.mjs): the forced cells as the released guide's own fill.sh prints them over the translation 90feb2d3ffebad7e… (all of the seat's roots in one cut). By AI agents, Wed Nov 11 2026. No macro, syntax, notation, axiom, sorry.
-/
import Derived.Test.YtlcfedgeboafkaaChecked
import GoSem.Claim
import GoSem.ClaimJoined
import GoSem.ClaimMapViews
import Derived.JoinedTies
import Derived.KernelRfl
namespace Go.Proofs.Ytlcfedgeboafkaa
/- THE CELL 'sum', in the pinned program and in every row, IS THE sha256 OF THE DUMP (.gsa) THAT YtlcfedgeboafkaaProg.lean LOADS. Nothing in Lean hashes anything: it is a label: what it is worth is what the hold of that sum in a sandbox is worth. -/
noncomputable def Try.pinned : Pinned := { name := "ytlcfedgeboafkaa", sum := "90feb2d3ffebad7ec796c7c0baa4b7ade2b3ae9a5594a40d13a9cb2d85bbdc60", checked := Try.checked }
namespace Rows
def none {H : Type} : Left H := { results := [], args := [] }

/-- 'codicillaw04.DeflateWrites': WHATEVER THE INPUT: true; the input reads as it did. -/
def deflateWritesSpec : ChangeSpec := { name := "deflateWrites", fn := fun _ => fun
  | [d1, d2] => { results := [.lit (.bool true)], args := [d1, d2] }
  | _ => none }
def deflateWritesRow : OpenClaim := { program := "ytlcfedgeboafkaa", sum := "90feb2d3ffebad7ec796c7c0baa4b7ade2b3ae9a5594a40d13a9cb2d85bbdc60", func := "codicil/codicillaw04.DeflateWrites", spec := "deflateWrites", plainKeys := false, apart := false }
def DeflateWritesSaid : Prop := deflateWritesRow.holds Try.pinned (OpenSpec.ofChange deflateWritesSpec)

/-- ITS FALSE NEIGHBOUR: 'it returns false'. Refute it at one input. -/
def deflateWritesWrong : ChangeSpec := { name := "deflateWrites", fn := fun _ => fun
  | [d1, d2] => { results := [.lit (.bool false)], args := [d1, d2] }
  | _ => none }
def DeflateWritesWrongFalsely : Prop := deflateWritesRow.holds Try.pinned (OpenSpec.ofChange deflateWritesWrong)

/-- 'codicillaw04.DeflateSizes': WHATEVER THE INPUT: true; the input reads as it did. -/
def deflateSizesSpec : ChangeSpec := { name := "deflateSizes", fn := fun _ => fun
  | [d] => { results := [.lit (.bool true)], args := [d] }
  | _ => none }
def deflateSizesRow : OpenClaim := { program := "ytlcfedgeboafkaa", sum := "90feb2d3ffebad7ec796c7c0baa4b7ade2b3ae9a5594a40d13a9cb2d85bbdc60", func := "codicil/codicillaw04.DeflateSizes", spec := "deflateSizes", plainKeys := false, apart := false }
def DeflateSizesSaid : Prop := deflateSizesRow.holds Try.pinned (OpenSpec.ofChange deflateSizesSpec)

/-- ITS FALSE NEIGHBOUR: 'it returns false'. Refute it at one input. -/
def deflateSizesWrong : ChangeSpec := { name := "deflateSizes", fn := fun _ => fun
  | [d] => { results := [.lit (.bool false)], args := [d] }
  | _ => none }
def DeflateSizesWrongFalsely : Prop := deflateSizesRow.holds Try.pinned (OpenSpec.ofChange deflateSizesWrong)

/-- 'codicillaw04.DeflateMemory': WHATEVER THE INPUT: true; the input reads as it did. -/
def deflateMemorySpec : ChangeSpec := { name := "deflateMemory", fn := fun _ => fun
  | [d] => { results := [.lit (.bool true)], args := [d] }
  | _ => none }
def deflateMemoryRow : OpenClaim := { program := "ytlcfedgeboafkaa", sum := "90feb2d3ffebad7ec796c7c0baa4b7ade2b3ae9a5594a40d13a9cb2d85bbdc60", func := "codicil/codicillaw04.DeflateMemory", spec := "deflateMemory", plainKeys := false, apart := false }
def DeflateMemorySaid : Prop := deflateMemoryRow.holds Try.pinned (OpenSpec.ofChange deflateMemorySpec)

/-- ITS FALSE NEIGHBOUR: 'it returns false'. Refute it at one input. -/
def deflateMemoryWrong : ChangeSpec := { name := "deflateMemory", fn := fun _ => fun
  | [d] => { results := [.lit (.bool false)], args := [d] }
  | _ => none }
def DeflateMemoryWrongFalsely : Prop := deflateMemoryRow.holds Try.pinned (OpenSpec.ofChange deflateMemoryWrong)

/- THE SECOND FORM. 'bulk': how many values and letters a reading holds, each counted each time it is reached (what is shared counts as often as it is met; a slice's spare places count too). A statement '..UptoSaid' is the law's where the arguments, and the package variables that the reading takes, are together of bulk at most 1048576: NARROWER than '..Said'. Prove '..Said' where nothing that the law and all that it calls make is longer than what came in: it says more and counts as full. Else prove '..UptoSaid'. A law counts once. -/
mutual
def uptoBulk {H : Type} : DataW H → Nat
  | .lit (.string bytes) => bytes.length + 1
  | .lit _ => 1
  | .nil => 1
  | .ptr d => uptoBulk d + 1
  | .slice elems spare => uptoBulkAll elems + uptoBulkAll spare + 1
  | .agg parts => uptoBulkAll parts + 1
  | .iface _ d => uptoBulk d + 1
  | .map entries => uptoBulkEntries entries + 1
  | .held _ => 1
def uptoBulkAll {H : Type} : List (DataW H) → Nat
  | [] => 0
  | d :: r => uptoBulk d + uptoBulkAll r
def uptoBulkEntries {H : Type} : List (Lit × DataW H) → Nat
  | [] => 0
  | x :: r => uptoBulkEntry x + uptoBulkEntries r
def uptoBulkEntry {H : Type} : Lit × DataW H → Nat
  | (.string bytes, d) => bytes.length + uptoBulk d + 1
  | (_, d) => uptoBulk d + 1
 end
def uptoSmall : (H : Type) → List (DataW H) → Bool := fun _ ds => decide (uptoBulkAll ds ≤ 1048576)
def OpenSpec.upto (s : _root_.Go.ChangeSpec) : _root_.Go.OpenSpec := { _root_.Go.OpenSpec.ofChange s with cond := some uptoSmall }

/-- 'codicillaw04.DeflateWrites', WHERE WHAT IT READS IS OF BULK AT MOST 1048576: true; the input reads as it did. -/
def deflateWritesUptoRow : OpenClaim := { program := "ytlcfedgeboafkaa", sum := "90feb2d3ffebad7ec796c7c0baa4b7ade2b3ae9a5594a40d13a9cb2d85bbdc60", func := "codicil/codicillaw04.DeflateWrites", spec := "deflateWrites", plainKeys := false, apart := false, narrowed := true }
def DeflateWritesUptoSaid : Prop := deflateWritesUptoRow.holds Try.pinned (OpenSpec.upto deflateWritesSpec)

/-- 'codicillaw04.DeflateSizes', WHERE WHAT IT READS IS OF BULK AT MOST 1048576: true; the input reads as it did. -/
def deflateSizesUptoRow : OpenClaim := { program := "ytlcfedgeboafkaa", sum := "90feb2d3ffebad7ec796c7c0baa4b7ade2b3ae9a5594a40d13a9cb2d85bbdc60", func := "codicil/codicillaw04.DeflateSizes", spec := "deflateSizes", plainKeys := false, apart := false, narrowed := true }
def DeflateSizesUptoSaid : Prop := deflateSizesUptoRow.holds Try.pinned (OpenSpec.upto deflateSizesSpec)

/-- 'codicillaw04.DeflateMemory', WHERE WHAT IT READS IS OF BULK AT MOST 1048576: true; the input reads as it did. -/
def deflateMemoryUptoRow : OpenClaim := { program := "ytlcfedgeboafkaa", sum := "90feb2d3ffebad7ec796c7c0baa4b7ade2b3ae9a5594a40d13a9cb2d85bbdc60", func := "codicil/codicillaw04.DeflateMemory", spec := "deflateMemory", plainKeys := false, apart := false, narrowed := true }
def DeflateMemoryUptoSaid : Prop := deflateMemoryUptoRow.holds Try.pinned (OpenSpec.upto deflateMemorySpec)

end Rows
end Go.Proofs.Ytlcfedgeboafkaa
