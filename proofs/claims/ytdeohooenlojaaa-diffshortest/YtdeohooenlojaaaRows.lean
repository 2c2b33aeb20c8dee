/-
  No cell of these rows narrows 'for every input' (looked for: loops, veiled, ifaces, maps, wideKeys, modest, calm, conditions, laid).
  DERIVED. THE GIVEN ROWS OF THIS SEAT. 5 by the template 'for every input the law returns true; each argument reads behind the call as it read before'; 0 by the template 'total and deterministic' (their statements: YtdeohooenlojaaaTotals.lean).
  GIVEN WITH THE SEED: the statements are not yours to turn. If you find one false, say at which input.
  Laid BY PROGRAM, IN A SANDBOX (cutbox-rows.mjs): the forced cells as the released guide's own fill.sh prints them over the translation a8c4886c1302ea14… (all of the seat's roots in one cut). By AI agents, Wed Nov 11 2026. No macro, syntax, notation, axiom, sorry.
-/
import Derived.Test.YtdeohooenlojaaaChecked
import GoSem.Claim
import GoSem.ClaimJoined
import GoSem.ClaimMapViews
import Derived.JoinedTies
import Derived.KernelRfl
namespace Go.Proofs.Ytdeohooenlojaaa
/- THE CELL 'sum', in the pinned program and in every row, IS THE sha256 OF THE DUMP (.gsa) THAT YtdeohooenlojaaaProg.lean LOADS. Nothing in Lean hashes anything: it is a label: what it is worth is what the hold of that sum in a sandbox is worth. -/
noncomputable def Try.pinned : Pinned := { name := "ytdeohooenlojaaa", sum := "a8c4886c1302ea149254ee8c5ebf56b6d0df2f3cb8e27873124e8f9f0d211dae", checked := Try.checked }
namespace Rows
def none {H : Type} : Left H := { results := [], args := [] }

/-- 'codicillaw19.DiffWays': WHATEVER THE INPUT: true; the input reads as it did. -/
def diffWaysSpec : ChangeSpec := { name := "diffWays", fn := fun _ => fun
  | [d1, d2] => { results := [.lit (.bool true)], args := [d1, d2] }
  | _ => none }
def diffWaysRow : OpenClaim := { program := "ytdeohooenlojaaa", sum := "a8c4886c1302ea149254ee8c5ebf56b6d0df2f3cb8e27873124e8f9f0d211dae", func := "codicil/codicillaw19.DiffWays", spec := "diffWays", inPlace := ["internal/abi.NoEscape"], unfollowed := true, recurses := true, apart := false }
def DiffWaysSaid : Prop := diffWaysRow.holds Try.pinned (OpenSpec.ofChange diffWaysSpec)

/-- ITS FALSE NEIGHBOUR: 'it returns false'. Refute it at one input. -/
def diffWaysWrong : ChangeSpec := { name := "diffWays", fn := fun _ => fun
  | [d1, d2] => { results := [.lit (.bool false)], args := [d1, d2] }
  | _ => none }
def DiffWaysWrongFalsely : Prop := diffWaysRow.holds Try.pinned (OpenSpec.ofChange diffWaysWrong)

/-- 'codicillaw19.DiffLines': WHATEVER THE INPUT: true; the input reads as it did. -/
def diffLinesSpec : ChangeSpec := { name := "diffLines", fn := fun _ => fun
  | [d] => { results := [.lit (.bool true)], args := [d] }
  | _ => none }
def diffLinesRow : OpenClaim := { program := "ytdeohooenlojaaa", sum := "a8c4886c1302ea149254ee8c5ebf56b6d0df2f3cb8e27873124e8f9f0d211dae", func := "codicil/codicillaw19.DiffLines", spec := "diffLines", inPlace := ["internal/bytealg.IndexByte"], unfollowed := true, recurses := true, apart := false }
def DiffLinesSaid : Prop := diffLinesRow.holds Try.pinned (OpenSpec.ofChange diffLinesSpec)

/-- ITS FALSE NEIGHBOUR: 'it returns false'. Refute it at one input. -/
def diffLinesWrong : ChangeSpec := { name := "diffLines", fn := fun _ => fun
  | [d] => { results := [.lit (.bool false)], args := [d] }
  | _ => none }
def DiffLinesWrongFalsely : Prop := diffLinesRow.holds Try.pinned (OpenSpec.ofChange diffLinesWrong)

/-- 'codicillaw19.DiffShortest': WHATEVER THE INPUT: true; the input reads as it did. -/
def diffShortestSpec : ChangeSpec := { name := "diffShortest", fn := fun _ => fun
  | [d1, d2] => { results := [.lit (.bool true)], args := [d1, d2] }
  | _ => none }
def diffShortestRow : OpenClaim := { program := "ytdeohooenlojaaa", sum := "a8c4886c1302ea149254ee8c5ebf56b6d0df2f3cb8e27873124e8f9f0d211dae", func := "codicil/codicillaw19.DiffShortest", spec := "diffShortest", unfollowed := true, recurses := true, apart := false }
def DiffShortestSaid : Prop := diffShortestRow.holds Try.pinned (OpenSpec.ofChange diffShortestSpec)

/-- ITS FALSE NEIGHBOUR: 'it returns false'. Refute it at one input. -/
def diffShortestWrong : ChangeSpec := { name := "diffShortest", fn := fun _ => fun
  | [d1, d2] => { results := [.lit (.bool false)], args := [d1, d2] }
  | _ => none }
def DiffShortestWrongFalsely : Prop := diffShortestRow.holds Try.pinned (OpenSpec.ofChange diffShortestWrong)

/-- 'codicillaw19.DiffMetric': WHATEVER THE INPUT: true; the input reads as it did. -/
def diffMetricSpec : ChangeSpec := { name := "diffMetric", fn := fun _ => fun
  | [d1, d2, d3] => { results := [.lit (.bool true)], args := [d1, d2, d3] }
  | _ => none }
def diffMetricRow : OpenClaim := { program := "ytdeohooenlojaaa", sum := "a8c4886c1302ea149254ee8c5ebf56b6d0df2f3cb8e27873124e8f9f0d211dae", func := "codicil/codicillaw19.DiffMetric", spec := "diffMetric", unfollowed := true, recurses := true, apart := false }
def DiffMetricSaid : Prop := diffMetricRow.holds Try.pinned (OpenSpec.ofChange diffMetricSpec)

/-- ITS FALSE NEIGHBOUR: 'it returns false'. Refute it at one input. -/
def diffMetricWrong : ChangeSpec := { name := "diffMetric", fn := fun _ => fun
  | [d1, d2, d3] => { results := [.lit (.bool false)], args := [d1, d2, d3] }
  | _ => none }
def DiffMetricWrongFalsely : Prop := diffMetricRow.holds Try.pinned (OpenSpec.ofChange diffMetricWrong)

/-- 'codicillaw19.DiffFixed': WHATEVER THE INPUT: true; the input reads as it did. -/
def diffFixedSpec : ChangeSpec := { name := "diffFixed", fn := fun _ => fun
  | [] => { results := [.lit (.bool true)], args := [] }
  | _ => none }
def diffFixedRow : OpenClaim := { program := "ytdeohooenlojaaa", sum := "a8c4886c1302ea149254ee8c5ebf56b6d0df2f3cb8e27873124e8f9f0d211dae", func := "codicil/codicillaw19.DiffFixed", spec := "diffFixed", inPlace := ["internal/abi.NoEscape", "internal/bytealg.IndexByte", "math.archTrunc", "math.Float64bits", "math.Float64frombits"], unfollowed := true, recurses := true, apart := false }
def DiffFixedSaid : Prop := diffFixedRow.holds Try.pinned (OpenSpec.ofChange diffFixedSpec)

/-- ITS FALSE NEIGHBOUR: 'it returns false'. Refute it at one input. -/
def diffFixedWrong : ChangeSpec := { name := "diffFixed", fn := fun _ => fun
  | [] => { results := [.lit (.bool false)], args := [] }
  | _ => none }
def DiffFixedWrongFalsely : Prop := diffFixedRow.holds Try.pinned (OpenSpec.ofChange diffFixedWrong)

/- THE SECOND FORM. 'bulk': how many values and letters a reading holds, each counted each time it is reached (what is shared counts as often as it is met; a slice's spare places count too). A statement '..UptoSaid' is the law's where the arguments, and the package variables that the reading takes, are together of bulk at most 1048576: NARROWER than '..Said'. Prove '..Said' where nothing that the law and all that it calls make is longer than what came in: it says more and counts as full. Else prove '..UptoSaid'. A law counts once. -/
mutual
def uptoBulk {H : Type} : DataW H → Nat
  | .lit (.string bytes) => bytes.length + 1
  | .lit _ => 1
  | .nil => 1
  | .ptr d => uptoBulk d + 1
  | .slice elems spare => uptoBulkAll elems + uptoBulkAll spare + 1
  | .agg parts => uptoBulkAll parts + 1
  | .iface _ d => uptoBulk d + 1
  | .map entries => uptoBulkEntries entries + 1
  | .held _ => 1
def uptoBulkAll {H : Type} : List (DataW H) → Nat
  | [] => 0
  | d :: r => uptoBulk d + uptoBulkAll r
def uptoBulkEntries {H : Type} : List (Lit × DataW H) → Nat
  | [] => 0
  | x :: r => uptoBulkEntry x + uptoBulkEntries r
def uptoBulkEntry {H : Type} : Lit × DataW H → Nat
  | (.string bytes, d) => bytes.length + uptoBulk d + 1
  | (_, d) => uptoBulk d + 1
 end
def uptoSmall : (H : Type) → List (DataW H) → Bool := fun _ ds => decide (uptoBulkAll ds ≤ 1048576)
def OpenSpec.upto (s : _root_.Go.ChangeSpec) : _root_.Go.OpenSpec := { _root_.Go.OpenSpec.ofChange s with cond := some uptoSmall }

/-- 'codicillaw19.DiffWays', WHERE WHAT IT READS IS OF BULK AT MOST 1048576: true; the input reads as it did. -/
def diffWaysUptoRow : OpenClaim := { program := "ytdeohooenlojaaa", sum := "a8c4886c1302ea149254ee8c5ebf56b6d0df2f3cb8e27873124e8f9f0d211dae", func := "codicil/codicillaw19.DiffWays", spec := "diffWays", inPlace := ["internal/abi.NoEscape"], unfollowed := true, recurses := true, apart := false, narrowed := true }
def DiffWaysUptoSaid : Prop := diffWaysUptoRow.holds Try.pinned (OpenSpec.upto diffWaysSpec)

/-- 'codicillaw19.DiffLines', WHERE WHAT IT READS IS OF BULK AT MOST 1048576: true; the input reads as it did. -/
def diffLinesUptoRow : OpenClaim := { program := "ytdeohooenlojaaa", sum := "a8c4886c1302ea149254ee8c5ebf56b6d0df2f3cb8e27873124e8f9f0d211dae", func := "codicil/codicillaw19.DiffLines", spec := "diffLines", inPlace := ["internal/bytealg.IndexByte"], unfollowed := true, recurses := true, apart := false, narrowed := true }
def DiffLinesUptoSaid : Prop := diffLinesUptoRow.holds Try.pinned (OpenSpec.upto diffLinesSpec)

/-- 'codicillaw19.DiffShortest', WHERE WHAT IT READS IS OF BULK AT MOST 1048576: true; the input reads as it did. -/
def diffShortestUptoRow : OpenClaim := { program := "ytdeohooenlojaaa", sum := "a8c4886c1302ea149254ee8c5ebf56b6d0df2f3cb8e27873124e8f9f0d211dae", func := "codicil/codicillaw19.DiffShortest", spec := "diffShortest", unfollowed := true, recurses := true, apart := false, narrowed := true }
def DiffShortestUptoSaid : Prop := diffShortestUptoRow.holds Try.pinned (OpenSpec.upto diffShortestSpec)

/-- 'codicillaw19.DiffMetric', WHERE WHAT IT READS IS OF BULK AT MOST 1048576: true; the input reads as it did. -/
def diffMetricUptoRow : OpenClaim := { program := "ytdeohooenlojaaa", sum := "a8c4886c1302ea149254ee8c5ebf56b6d0df2f3cb8e27873124e8f9f0d211dae", func := "codicil/codicillaw19.DiffMetric", spec := "diffMetric", unfollowed := true, recurses := true, apart := false, narrowed := true }
def DiffMetricUptoSaid : Prop := diffMetricUptoRow.holds Try.pinned (OpenSpec.upto diffMetricSpec)

/-- 'codicillaw19.DiffFixed', WHERE WHAT IT READS IS OF BULK AT MOST 1048576: true; the input reads as it did. -/
def diffFixedUptoRow : OpenClaim := { program := "ytdeohooenlojaaa", sum := "a8c4886c1302ea149254ee8c5ebf56b6d0df2f3cb8e27873124e8f9f0d211dae", func := "codicil/codicillaw19.DiffFixed", spec := "diffFixed", inPlace := ["internal/abi.NoEscape", "internal/bytealg.IndexByte", "math.archTrunc", "math.Float64bits", "math.Float64frombits"], unfollowed := true, recurses := true, apart := false, narrowed := true }
def DiffFixedUptoSaid : Prop := diffFixedUptoRow.holds Try.pinned (OpenSpec.upto diffFixedSpec)

end Rows
end Go.Proofs.Ytdeohooenlojaaa
