/-
  No cell of these rows narrows 'for every input' (looked for: loops, veiled, ifaces, maps, wideKeys, modest, calm, conditions, laid).
  DERIVED. THE GIVEN ROWS OF THIS SEAT. 6 by the template 'for every input the law returns true; each argument reads behind the call as it read before'; 0 by the template 'total and deterministic' (their statements: YtkidoknklgoffaaTotals.lean).
  GIVEN WITH THE SEED: the statements are not yours to turn. If you find one false, say at which input.
  Laid BY PROGRAM, IN A SANDBOX (cutbox-rows.mjs): the forced cells as the released guide's own fill.sh prints them over the translation d7d0639621ed80ef… (all of the seat's roots in one cut). By AI agents, Wed Nov 11 2026. No macro, syntax, notation, axiom, sorry.
-/
import Derived.Test.YtkidoknklgoffaaChecked
import GoSem.Claim
import GoSem.ClaimJoined
import GoSem.ClaimMapViews
import Derived.JoinedTies
import Derived.KernelRfl
namespace Go.Proofs.Ytkidoknklgoffaa
/- THE CELL 'sum', in the pinned program and in every row, IS THE sha256 OF THE DUMP (.gsa) THAT YtkidoknklgoffaaProg.lean LOADS. Nothing in Lean hashes anything: it is a label: what it is worth is what the hold of that sum in a sandbox is worth. -/
noncomputable def Try.pinned : Pinned := { name := "ytkidoknklgoffaa", sum := "d7d0639621ed80efee685a71554781730c65f8b917e745f69f6ae0e017737b2f", checked := Try.checked }
namespace Rows
def none {H : Type} : Left H := { results := [], args := [] }

/-- 'codicillaw08.DeltaApplies': WHATEVER THE INPUT: true; the input reads as it did. -/
def deltaAppliesSpec : ChangeSpec := { name := "deltaApplies", fn := fun _ => fun
  | [d1, d2, d3] => { results := [.lit (.bool true)], args := [d1, d2, d3] }
  | _ => none }
def deltaAppliesRow : OpenClaim := { program := "ytkidoknklgoffaa", sum := "d7d0639621ed80efee685a71554781730c65f8b917e745f69f6ae0e017737b2f", func := "codicil/codicillaw08.DeltaApplies", spec := "deltaApplies", plainKeys := false, apart := false }
def DeltaAppliesSaid : Prop := deltaAppliesRow.holds Try.pinned (OpenSpec.ofChange deltaAppliesSpec)

/-- ITS FALSE NEIGHBOUR: 'it returns false'. Refute it at one input. -/
def deltaAppliesWrong : ChangeSpec := { name := "deltaApplies", fn := fun _ => fun
  | [d1, d2, d3] => { results := [.lit (.bool false)], args := [d1, d2, d3] }
  | _ => none }
def DeltaAppliesWrongFalsely : Prop := deltaAppliesRow.holds Try.pinned (OpenSpec.ofChange deltaAppliesWrong)

/-- 'codicillaw08.DeltaCopies': WHATEVER THE INPUT: true; the input reads as it did. -/
def deltaCopiesSpec : ChangeSpec := { name := "deltaCopies", fn := fun _ => fun
  | [d1, d2, d3] => { results := [.lit (.bool true)], args := [d1, d2, d3] }
  | _ => none }
def deltaCopiesRow : OpenClaim := { program := "ytkidoknklgoffaa", sum := "d7d0639621ed80efee685a71554781730c65f8b917e745f69f6ae0e017737b2f", func := "codicil/codicillaw08.DeltaCopies", spec := "deltaCopies", plainKeys := false, apart := false }
def DeltaCopiesSaid : Prop := deltaCopiesRow.holds Try.pinned (OpenSpec.ofChange deltaCopiesSpec)

/-- ITS FALSE NEIGHBOUR: 'it returns false'. Refute it at one input. -/
def deltaCopiesWrong : ChangeSpec := { name := "deltaCopies", fn := fun _ => fun
  | [d1, d2, d3] => { results := [.lit (.bool false)], args := [d1, d2, d3] }
  | _ => none }
def DeltaCopiesWrongFalsely : Prop := deltaCopiesRow.holds Try.pinned (OpenSpec.ofChange deltaCopiesWrong)

/-- 'codicillaw08.DeltaMakes': WHATEVER THE INPUT: true; the input reads as it did. -/
def deltaMakesSpec : ChangeSpec := { name := "deltaMakes", fn := fun _ => fun
  | [d1, d2] => { results := [.lit (.bool true)], args := [d1, d2] }
  | _ => none }
def deltaMakesRow : OpenClaim := { program := "ytkidoknklgoffaa", sum := "d7d0639621ed80efee685a71554781730c65f8b917e745f69f6ae0e017737b2f", func := "codicil/codicillaw08.DeltaMakes", spec := "deltaMakes", plainKeys := false, apart := false }
def DeltaMakesSaid : Prop := deltaMakesRow.holds Try.pinned (OpenSpec.ofChange deltaMakesSpec)

/-- ITS FALSE NEIGHBOUR: 'it returns false'. Refute it at one input. -/
def deltaMakesWrong : ChangeSpec := { name := "deltaMakes", fn := fun _ => fun
  | [d1, d2] => { results := [.lit (.bool false)], args := [d1, d2] }
  | _ => none }
def DeltaMakesWrongFalsely : Prop := deltaMakesRow.holds Try.pinned (OpenSpec.ofChange deltaMakesWrong)

/-- 'codicillaw08.DeltaChains': WHATEVER THE INPUT: true; the input reads as it did. -/
def deltaChainsSpec : ChangeSpec := { name := "deltaChains", fn := fun _ => fun
  | [d] => { results := [.lit (.bool true)], args := [d] }
  | _ => none }
def deltaChainsRow : OpenClaim := { program := "ytkidoknklgoffaa", sum := "d7d0639621ed80efee685a71554781730c65f8b917e745f69f6ae0e017737b2f", func := "codicil/codicillaw08.DeltaChains", spec := "deltaChains", plainKeys := false, apart := false }
def DeltaChainsSaid : Prop := deltaChainsRow.holds Try.pinned (OpenSpec.ofChange deltaChainsSpec)

/-- ITS FALSE NEIGHBOUR: 'it returns false'. Refute it at one input. -/
def deltaChainsWrong : ChangeSpec := { name := "deltaChains", fn := fun _ => fun
  | [d] => { results := [.lit (.bool false)], args := [d] }
  | _ => none }
def DeltaChainsWrongFalsely : Prop := deltaChainsRow.holds Try.pinned (OpenSpec.ofChange deltaChainsWrong)

/-- 'codicillaw08.DeltaFixed': WHATEVER THE INPUT: true; the input reads as it did. -/
def deltaFixedSpec : ChangeSpec := { name := "deltaFixed", fn := fun _ => fun
  | [] => { results := [.lit (.bool true)], args := [] }
  | _ => none }
def deltaFixedRow : OpenClaim := { program := "ytkidoknklgoffaa", sum := "d7d0639621ed80efee685a71554781730c65f8b917e745f69f6ae0e017737b2f", func := "codicil/codicillaw08.DeltaFixed", spec := "deltaFixed", plainKeys := false, apart := false }
def DeltaFixedSaid : Prop := deltaFixedRow.holds Try.pinned (OpenSpec.ofChange deltaFixedSpec)

/-- ITS FALSE NEIGHBOUR: 'it returns false'. Refute it at one input. -/
def deltaFixedWrong : ChangeSpec := { name := "deltaFixed", fn := fun _ => fun
  | [] => { results := [.lit (.bool false)], args := [] }
  | _ => none }
def DeltaFixedWrongFalsely : Prop := deltaFixedRow.holds Try.pinned (OpenSpec.ofChange deltaFixedWrong)

/-- 'codicillaw08.DeltaMemory': WHATEVER THE INPUT: true; the input reads as it did. -/
def deltaMemorySpec : ChangeSpec := { name := "deltaMemory", fn := fun _ => fun
  | [d1, d2] => { results := [.lit (.bool true)], args := [d1, d2] }
  | _ => none }
def deltaMemoryRow : OpenClaim := { program := "ytkidoknklgoffaa", sum := "d7d0639621ed80efee685a71554781730c65f8b917e745f69f6ae0e017737b2f", func := "codicil/codicillaw08.DeltaMemory", spec := "deltaMemory", plainKeys := false, apart := false }
def DeltaMemorySaid : Prop := deltaMemoryRow.holds Try.pinned (OpenSpec.ofChange deltaMemorySpec)

/-- ITS FALSE NEIGHBOUR: 'it returns false'. Refute it at one input. -/
def deltaMemoryWrong : ChangeSpec := { name := "deltaMemory", fn := fun _ => fun
  | [d1, d2] => { results := [.lit (.bool false)], args := [d1, d2] }
  | _ => none }
def DeltaMemoryWrongFalsely : Prop := deltaMemoryRow.holds Try.pinned (OpenSpec.ofChange deltaMemoryWrong)

/- THE SECOND FORM. 'bulk': how many values and letters a reading holds, each counted each time it is reached (what is shared counts as often as it is met; a slice's spare places count too). A statement '..UptoSaid' is the law's where the arguments, and the package variables that the reading takes, are together of bulk at most 1048576: NARROWER than '..Said'. Prove '..Said' where nothing that the law and all that it calls make is longer than what came in: it says more and counts as full. Else prove '..UptoSaid'. A law counts once. -/
mutual
def uptoBulk {H : Type} : DataW H → Nat
  | .lit (.string bytes) => bytes.length + 1
  | .lit _ => 1
  | .nil => 1
  | .ptr d => uptoBulk d + 1
  | .slice elems spare => uptoBulkAll elems + uptoBulkAll spare + 1
  | .agg parts => uptoBulkAll parts + 1
  | .iface _ d => uptoBulk d + 1
  | .map entries => uptoBulkEntries entries + 1
  | .held _ => 1
def uptoBulkAll {H : Type} : List (DataW H) → Nat
  | [] => 0
  | d :: r => uptoBulk d + uptoBulkAll r
def uptoBulkEntries {H : Type} : List (Lit × DataW H) → Nat
  | [] => 0
  | x :: r => uptoBulkEntry x + uptoBulkEntries r
def uptoBulkEntry {H : Type} : Lit × DataW H → Nat
  | (.string bytes, d) => bytes.length + uptoBulk d + 1
  | (_, d) => uptoBulk d + 1
 end
def uptoSmall : (H : Type) → List (DataW H) → Bool := fun _ ds => decide (uptoBulkAll ds ≤ 1048576)
def OpenSpec.upto (s : _root_.Go.ChangeSpec) : _root_.Go.OpenSpec := { _root_.Go.OpenSpec.ofChange s with cond := some uptoSmall }

/-- 'codicillaw08.DeltaApplies', WHERE WHAT IT READS IS OF BULK AT MOST 1048576: true; the input reads as it did. -/
def deltaAppliesUptoRow : OpenClaim := { program := "ytkidoknklgoffaa", sum := "d7d0639621ed80efee685a71554781730c65f8b917e745f69f6ae0e017737b2f", func := "codicil/codicillaw08.DeltaApplies", spec := "deltaApplies", plainKeys := false, apart := false, narrowed := true }
def DeltaAppliesUptoSaid : Prop := deltaAppliesUptoRow.holds Try.pinned (OpenSpec.upto deltaAppliesSpec)

/-- 'codicillaw08.DeltaCopies', WHERE WHAT IT READS IS OF BULK AT MOST 1048576: true; the input reads as it did. -/
def deltaCopiesUptoRow : OpenClaim := { program := "ytkidoknklgoffaa", sum := "d7d0639621ed80efee685a71554781730c65f8b917e745f69f6ae0e017737b2f", func := "codicil/codicillaw08.DeltaCopies", spec := "deltaCopies", plainKeys := false, apart := false, narrowed := true }
def DeltaCopiesUptoSaid : Prop := deltaCopiesUptoRow.holds Try.pinned (OpenSpec.upto deltaCopiesSpec)

/-- 'codicillaw08.DeltaMakes', WHERE WHAT IT READS IS OF BULK AT MOST 1048576: true; the input reads as it did. -/
def deltaMakesUptoRow : OpenClaim := { program := "ytkidoknklgoffaa", sum := "d7d0639621ed80efee685a71554781730c65f8b917e745f69f6ae0e017737b2f", func := "codicil/codicillaw08.DeltaMakes", spec := "deltaMakes", plainKeys := false, apart := false, narrowed := true }
def DeltaMakesUptoSaid : Prop := deltaMakesUptoRow.holds Try.pinned (OpenSpec.upto deltaMakesSpec)

/-- 'codicillaw08.DeltaChains', WHERE WHAT IT READS IS OF BULK AT MOST 1048576: true; the input reads as it did. -/
def deltaChainsUptoRow : OpenClaim := { program := "ytkidoknklgoffaa", sum := "d7d0639621ed80efee685a71554781730c65f8b917e745f69f6ae0e017737b2f", func := "codicil/codicillaw08.DeltaChains", spec := "deltaChains", plainKeys := false, apart := false, narrowed := true }
def DeltaChainsUptoSaid : Prop := deltaChainsUptoRow.holds Try.pinned (OpenSpec.upto deltaChainsSpec)

/-- 'codicillaw08.DeltaFixed', WHERE WHAT IT READS IS OF BULK AT MOST 1048576: true; the input reads as it did. -/
def deltaFixedUptoRow : OpenClaim := { program := "ytkidoknklgoffaa", sum := "d7d0639621ed80efee685a71554781730c65f8b917e745f69f6ae0e017737b2f", func := "codicil/codicillaw08.DeltaFixed", spec := "deltaFixed", plainKeys := false, apart := false, narrowed := true }
def DeltaFixedUptoSaid : Prop := deltaFixedUptoRow.holds Try.pinned (OpenSpec.upto deltaFixedSpec)

/-- 'codicillaw08.DeltaMemory', WHERE WHAT IT READS IS OF BULK AT MOST 1048576: true; the input reads as it did. -/
def deltaMemoryUptoRow : OpenClaim := { program := "ytkidoknklgoffaa", sum := "d7d0639621ed80efee685a71554781730c65f8b917e745f69f6ae0e017737b2f", func := "codicil/codicillaw08.DeltaMemory", spec := "deltaMemory", plainKeys := false, apart := false, narrowed := true }
def DeltaMemoryUptoSaid : Prop := deltaMemoryUptoRow.holds Try.pinned (OpenSpec.upto deltaMemorySpec)

end Rows
end Go.Proofs.Ytkidoknklgoffaa
