/-
  No cell of these rows narrows 'for every input' (looked for: loops, veiled, ifaces, maps, wideKeys, modest, calm, conditions, laid).
  DERIVED. THE GIVEN ROWS OF THIS SEAT. 6 by the template 'for every input the law returns true; each argument reads behind the call as it read before'; 0 by the template 'total and deterministic' (their statements: YtidpdhnbnecddaaTotals.lean).
  GIVEN WITH THE SEED: the statements are not yours to turn. If you find one false, say at which input.
  Laid BY PROGRAM, IN A SANDBOX (cutbox-rows.mjs): the forced cells as the released guide's own fill.sh prints them over the translation 56f362967947d664… (all of the seat's roots in one cut). By AI agents, Wed Nov 11 2026. No macro, syntax, notation, axiom, sorry.
-/
import Derived.Test.YtidpdhnbnecddaaChecked
import GoSem.Claim
import GoSem.ClaimJoined
import GoSem.ClaimMapViews
import Derived.JoinedTies
import Derived.KernelRfl
namespace Go.Proofs.Ytidpdhnbnecddaa
/- THE CELL 'sum', in the pinned program and in every row, IS THE sha256 OF THE DUMP (.gsa) THAT YtidpdhnbnecddaaProg.lean LOADS. Nothing in Lean hashes anything: it is a label: what it is worth is what the hold of that sum in a sandbox is worth. -/
noncomputable def Try.pinned : Pinned := { name := "ytidpdhnbnecddaa", sum := "56f362967947d66488bfda42ed3e8311b21b7426442858f513ebcf0f1e1fb1bd", checked := Try.checked }
namespace Rows
def none {H : Type} : Left H := { results := [], args := [] }

/-- 'codicillaw21.MergeThrees': WHATEVER THE INPUT: true; the input reads as it did. -/
def mergeThreesSpec : ChangeSpec := { name := "mergeThrees", fn := fun _ => fun
  | [d1, d2, d3, d4] => { results := [.lit (.bool true)], args := [d1, d2, d3, d4] }
  | _ => none }
def mergeThreesRow : OpenClaim := { program := "ytidpdhnbnecddaa", sum := "56f362967947d66488bfda42ed3e8311b21b7426442858f513ebcf0f1e1fb1bd", func := "codicil/codicillaw21.MergeThrees", spec := "mergeThrees", inPlace := ["internal/bytealg.IndexByte", "internal/bytealg.IndexByteString", "internal/bytealg.IndexString"], unfollowed := true, recurses := true, named := ["internal/bytealg.MaxLen"], apart := false }
def MergeThreesSaid : Prop := mergeThreesRow.holds Try.pinned (OpenSpec.ofChange mergeThreesSpec)

/-- ITS FALSE NEIGHBOUR: 'it returns false'. Refute it at one input. -/
def mergeThreesWrong : ChangeSpec := { name := "mergeThrees", fn := fun _ => fun
  | [d1, d2, d3, d4] => { results := [.lit (.bool false)], args := [d1, d2, d3, d4] }
  | _ => none }
def MergeThreesWrongFalsely : Prop := mergeThreesRow.holds Try.pinned (OpenSpec.ofChange mergeThreesWrong)

/-- 'codicillaw21.MergeIdle': WHATEVER THE INPUT: true; the input reads as it did. -/
def mergeIdleSpec : ChangeSpec := { name := "mergeIdle", fn := fun _ => fun
  | [d1, d2, d3] => { results := [.lit (.bool true)], args := [d1, d2, d3] }
  | _ => none }
def mergeIdleRow : OpenClaim := { program := "ytidpdhnbnecddaa", sum := "56f362967947d66488bfda42ed3e8311b21b7426442858f513ebcf0f1e1fb1bd", func := "codicil/codicillaw21.MergeIdle", spec := "mergeIdle", inPlace := ["internal/bytealg.IndexByte", "internal/bytealg.IndexByteString", "internal/bytealg.IndexString"], unfollowed := true, recurses := true, named := ["internal/bytealg.MaxLen"], apart := false }
def MergeIdleSaid : Prop := mergeIdleRow.holds Try.pinned (OpenSpec.ofChange mergeIdleSpec)

/-- ITS FALSE NEIGHBOUR: 'it returns false'. Refute it at one input. -/
def mergeIdleWrong : ChangeSpec := { name := "mergeIdle", fn := fun _ => fun
  | [d1, d2, d3] => { results := [.lit (.bool false)], args := [d1, d2, d3] }
  | _ => none }
def MergeIdleWrongFalsely : Prop := mergeIdleRow.holds Try.pinned (OpenSpec.ofChange mergeIdleWrong)

/-- 'codicillaw21.MergeSides': WHATEVER THE INPUT: true; the input reads as it did. -/
def mergeSidesSpec : ChangeSpec := { name := "mergeSides", fn := fun _ => fun
  | [d1, d2, d3, d4] => { results := [.lit (.bool true)], args := [d1, d2, d3, d4] }
  | _ => none }
def mergeSidesRow : OpenClaim := { program := "ytidpdhnbnecddaa", sum := "56f362967947d66488bfda42ed3e8311b21b7426442858f513ebcf0f1e1fb1bd", func := "codicil/codicillaw21.MergeSides", spec := "mergeSides", inPlace := ["internal/bytealg.IndexByte", "internal/bytealg.IndexByteString", "internal/bytealg.IndexString"], unfollowed := true, recurses := true, named := ["internal/bytealg.MaxLen"], apart := false }
def MergeSidesSaid : Prop := mergeSidesRow.holds Try.pinned (OpenSpec.ofChange mergeSidesSpec)

/-- ITS FALSE NEIGHBOUR: 'it returns false'. Refute it at one input. -/
def mergeSidesWrong : ChangeSpec := { name := "mergeSides", fn := fun _ => fun
  | [d1, d2, d3, d4] => { results := [.lit (.bool false)], args := [d1, d2, d3, d4] }
  | _ => none }
def MergeSidesWrongFalsely : Prop := mergeSidesRow.holds Try.pinned (OpenSpec.ofChange mergeSidesWrong)

/-- 'codicillaw21.MergeParts': WHATEVER THE INPUT: true; the input reads as it did. -/
def mergePartsSpec : ChangeSpec := { name := "mergeParts", fn := fun _ => fun
  | [d1, d2, d3, d4] => { results := [.lit (.bool true)], args := [d1, d2, d3, d4] }
  | _ => none }
def mergePartsRow : OpenClaim := { program := "ytidpdhnbnecddaa", sum := "56f362967947d66488bfda42ed3e8311b21b7426442858f513ebcf0f1e1fb1bd", func := "codicil/codicillaw21.MergeParts", spec := "mergeParts", inPlace := ["internal/bytealg.IndexByte", "internal/bytealg.IndexByteString", "internal/bytealg.IndexString"], unfollowed := true, recurses := true, named := ["internal/bytealg.MaxLen"], apart := false }
def MergePartsSaid : Prop := mergePartsRow.holds Try.pinned (OpenSpec.ofChange mergePartsSpec)

/-- ITS FALSE NEIGHBOUR: 'it returns false'. Refute it at one input. -/
def mergePartsWrong : ChangeSpec := { name := "mergeParts", fn := fun _ => fun
  | [d1, d2, d3, d4] => { results := [.lit (.bool false)], args := [d1, d2, d3, d4] }
  | _ => none }
def MergePartsWrongFalsely : Prop := mergePartsRow.holds Try.pinned (OpenSpec.ofChange mergePartsWrong)

/-- 'codicillaw21.MergeFixed': WHATEVER THE INPUT: true; the input reads as it did. -/
def mergeFixedSpec : ChangeSpec := { name := "mergeFixed", fn := fun _ => fun
  | [] => { results := [.lit (.bool true)], args := [] }
  | _ => none }
def mergeFixedRow : OpenClaim := { program := "ytidpdhnbnecddaa", sum := "56f362967947d66488bfda42ed3e8311b21b7426442858f513ebcf0f1e1fb1bd", func := "codicil/codicillaw21.MergeFixed", spec := "mergeFixed", inPlace := ["internal/bytealg.IndexByte", "internal/bytealg.IndexByteString", "internal/bytealg.IndexString"], unfollowed := true, recurses := true, named := ["internal/bytealg.MaxLen"], apart := false }
def MergeFixedSaid : Prop := mergeFixedRow.holds Try.pinned (OpenSpec.ofChange mergeFixedSpec)

/-- ITS FALSE NEIGHBOUR: 'it returns false'. Refute it at one input. -/
def mergeFixedWrong : ChangeSpec := { name := "mergeFixed", fn := fun _ => fun
  | [] => { results := [.lit (.bool false)], args := [] }
  | _ => none }
def MergeFixedWrongFalsely : Prop := mergeFixedRow.holds Try.pinned (OpenSpec.ofChange mergeFixedWrong)

/-- 'codicillaw21.MergeMemory': WHATEVER THE INPUT: true; the input reads as it did. -/
def mergeMemorySpec : ChangeSpec := { name := "mergeMemory", fn := fun _ => fun
  | [d1, d2, d3] => { results := [.lit (.bool true)], args := [d1, d2, d3] }
  | _ => none }
def mergeMemoryRow : OpenClaim := { program := "ytidpdhnbnecddaa", sum := "56f362967947d66488bfda42ed3e8311b21b7426442858f513ebcf0f1e1fb1bd", func := "codicil/codicillaw21.MergeMemory", spec := "mergeMemory", inPlace := ["internal/bytealg.IndexByte", "internal/bytealg.IndexByteString", "internal/bytealg.IndexString"], unfollowed := true, recurses := true, named := ["internal/bytealg.MaxLen"], apart := false }
def MergeMemorySaid : Prop := mergeMemoryRow.holds Try.pinned (OpenSpec.ofChange mergeMemorySpec)

/-- ITS FALSE NEIGHBOUR: 'it returns false'. Refute it at one input. -/
def mergeMemoryWrong : ChangeSpec := { name := "mergeMemory", fn := fun _ => fun
  | [d1, d2, d3] => { results := [.lit (.bool false)], args := [d1, d2, d3] }
  | _ => none }
def MergeMemoryWrongFalsely : Prop := mergeMemoryRow.holds Try.pinned (OpenSpec.ofChange mergeMemoryWrong)

/- THE SECOND FORM. 'bulk': how many values and letters a reading holds, each counted each time it is reached (what is shared counts as often as it is met; a slice's spare places count too). A statement '..UptoSaid' is the law's where the arguments, and the package variables that the reading takes, are together of bulk at most 1048576: NARROWER than '..Said'. Prove '..Said' where nothing that the law and all that it calls make is longer than what came in: it says more and counts as full. Else prove '..UptoSaid'. A law counts once. -/
mutual
def uptoBulk {H : Type} : DataW H → Nat
  | .lit (.string bytes) => bytes.length + 1
  | .lit _ => 1
  | .nil => 1
  | .ptr d => uptoBulk d + 1
  | .slice elems spare => uptoBulkAll elems + uptoBulkAll spare + 1
  | .agg parts => uptoBulkAll parts + 1
  | .iface _ d => uptoBulk d + 1
  | .map entries => uptoBulkEntries entries + 1
  | .held _ => 1
def uptoBulkAll {H : Type} : List (DataW H) → Nat
  | [] => 0
  | d :: r => uptoBulk d + uptoBulkAll r
def uptoBulkEntries {H : Type} : List (Lit × DataW H) → Nat
  | [] => 0
  | x :: r => uptoBulkEntry x + uptoBulkEntries r
def uptoBulkEntry {H : Type} : Lit × DataW H → Nat
  | (.string bytes, d) => bytes.length + uptoBulk d + 1
  | (_, d) => uptoBulk d + 1
 end
def uptoSmall : (H : Type) → List (DataW H) → Bool := fun _ ds => decide (uptoBulkAll ds ≤ 1048576)
def OpenSpec.upto (s : _root_.Go.ChangeSpec) : _root_.Go.OpenSpec := { _root_.Go.OpenSpec.ofChange s with cond := some uptoSmall }

/-- 'codicillaw21.MergeThrees', WHERE WHAT IT READS IS OF BULK AT MOST 1048576: true; the input reads as it did. -/
def mergeThreesUptoRow : OpenClaim := { program := "ytidpdhnbnecddaa", sum := "56f362967947d66488bfda42ed3e8311b21b7426442858f513ebcf0f1e1fb1bd", func := "codicil/codicillaw21.MergeThrees", spec := "mergeThrees", inPlace := ["internal/bytealg.IndexByte", "internal/bytealg.IndexByteString", "internal/bytealg.IndexString"], unfollowed := true, recurses := true, named := ["internal/bytealg.MaxLen"], apart := false, narrowed := true }
def MergeThreesUptoSaid : Prop := mergeThreesUptoRow.holds Try.pinned (OpenSpec.upto mergeThreesSpec)

/-- 'codicillaw21.MergeIdle', WHERE WHAT IT READS IS OF BULK AT MOST 1048576: true; the input reads as it did. -/
def mergeIdleUptoRow : OpenClaim := { program := "ytidpdhnbnecddaa", sum := "56f362967947d66488bfda42ed3e8311b21b7426442858f513ebcf0f1e1fb1bd", func := "codicil/codicillaw21.MergeIdle", spec := "mergeIdle", inPlace := ["internal/bytealg.IndexByte", "internal/bytealg.IndexByteString", "internal/bytealg.IndexString"], unfollowed := true, recurses := true, named := ["internal/bytealg.MaxLen"], apart := false, narrowed := true }
def MergeIdleUptoSaid : Prop := mergeIdleUptoRow.holds Try.pinned (OpenSpec.upto mergeIdleSpec)

/-- 'codicillaw21.MergeSides', WHERE WHAT IT READS IS OF BULK AT MOST 1048576: true; the input reads as it did. -/
def mergeSidesUptoRow : OpenClaim := { program := "ytidpdhnbnecddaa", sum := "56f362967947d66488bfda42ed3e8311b21b7426442858f513ebcf0f1e1fb1bd", func := "codicil/codicillaw21.MergeSides", spec := "mergeSides", inPlace := ["internal/bytealg.IndexByte", "internal/bytealg.IndexByteString", "internal/bytealg.IndexString"], unfollowed := true, recurses := true, named := ["internal/bytealg.MaxLen"], apart := false, narrowed := true }
def MergeSidesUptoSaid : Prop := mergeSidesUptoRow.holds Try.pinned (OpenSpec.upto mergeSidesSpec)

/-- 'codicillaw21.MergeParts', WHERE WHAT IT READS IS OF BULK AT MOST 1048576: true; the input reads as it did. -/
def mergePartsUptoRow : OpenClaim := { program := "ytidpdhnbnecddaa", sum := "56f362967947d66488bfda42ed3e8311b21b7426442858f513ebcf0f1e1fb1bd", func := "codicil/codicillaw21.MergeParts", spec := "mergeParts", inPlace := ["internal/bytealg.IndexByte", "internal/bytealg.IndexByteString", "internal/bytealg.IndexString"], unfollowed := true, recurses := true, named := ["internal/bytealg.MaxLen"], apart := false, narrowed := true }
def MergePartsUptoSaid : Prop := mergePartsUptoRow.holds Try.pinned (OpenSpec.upto mergePartsSpec)

/-- 'codicillaw21.MergeFixed', WHERE WHAT IT READS IS OF BULK AT MOST 1048576: true; the input reads as it did. -/
def mergeFixedUptoRow : OpenClaim := { program := "ytidpdhnbnecddaa", sum := "56f362967947d66488bfda42ed3e8311b21b7426442858f513ebcf0f1e1fb1bd", func := "codicil/codicillaw21.MergeFixed", spec := "mergeFixed", inPlace := ["internal/bytealg.IndexByte", "internal/bytealg.IndexByteString", "internal/bytealg.IndexString"], unfollowed := true, recurses := true, named := ["internal/bytealg.MaxLen"], apart := false, narrowed := true }
def MergeFixedUptoSaid : Prop := mergeFixedUptoRow.holds Try.pinned (OpenSpec.upto mergeFixedSpec)

/-- 'codicillaw21.MergeMemory', WHERE WHAT IT READS IS OF BULK AT MOST 1048576: true; the input reads as it did. -/
def mergeMemoryUptoRow : OpenClaim := { program := "ytidpdhnbnecddaa", sum := "56f362967947d66488bfda42ed3e8311b21b7426442858f513ebcf0f1e1fb1bd", func := "codicil/codicillaw21.MergeMemory", spec := "mergeMemory", inPlace := ["internal/bytealg.IndexByte", "internal/bytealg.IndexByteString", "internal/bytealg.IndexString"], unfollowed := true, recurses := true, named := ["internal/bytealg.MaxLen"], apart := false, narrowed := true }
def MergeMemoryUptoSaid : Prop := mergeMemoryUptoRow.holds Try.pinned (OpenSpec.upto mergeMemorySpec)

end Rows
end Go.Proofs.Ytidpdhnbnecddaa
