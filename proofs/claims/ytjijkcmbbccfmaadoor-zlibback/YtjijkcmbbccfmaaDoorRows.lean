/-
  NARROWER THAN 'FOR EVERY INPUT', by the rows' own cells (each row's printed sentence says how): DeflateBack: laid · DeflateFixed: laid · ZlibBack: laid · ZlibFixed: laid · ZlibMemory: laid.
  DERIVED. THE GIVEN ROWS OF THIS SEAT. 5 by the template 'for every input the law returns true; each argument reads behind the call as it read before'; 0 by the template 'total and deterministic' (their statements: YtjijkcmbbccfmaaDoorTotals.lean).
  GIVEN WITH THE SEED: the statements are not yours to turn. If you find one false, say at which input.
  Laid BY PROGRAM, IN A SANDBOX (cutbox-rows.mjs): the forced cells as the released guide's own fill.sh prints them over the translation 1b3e446edd0288bd… (all of the seat's roots in one cut). By AI agents, Wed Nov 11 2026. No macro, syntax, notation, axiom, sorry.
-/
import Derived.Test.YtjijkcmbbccfmaaDoorChecked
import GoSem.Claim
import GoSem.ClaimJoined
import GoSem.ClaimMapViews
import Derived.JoinedTies
import Derived.KernelRfl
namespace Go.Proofs.YtjijkcmbbccfmaaDoor
/- THE CELL 'sum', in the pinned program and in every row, IS THE sha256 OF THE DUMP (.gsa) THAT YtjijkcmbbccfmaaDoorProg.lean LOADS. Nothing in Lean hashes anything: it is a label: what it is worth is what the hold of that sum in a sandbox is worth. -/
noncomputable def Tryd.pinned : Pinned := { name := "ytjijkcmbbccfmaadoor", sum := "1b3e446edd0288bd380bb70f44e071ea722ac2b9800dcfab10b115a28b27f9b4", checked := Tryd.checked }
namespace Rows
def none {H : Type} : Left H := { results := [], args := [] }

/- WHAT THE LISTED PACKAGE-LEVEL VARIABLES READ AS WHEN THE CALL BEGINS. Each datum BY PROGRAM (the guide's laid-datum.mjs) off the statement by which the dump's own 'gosem.cut.vars' lays the variable. In a bare row this is a premise. The card (YtjijkcmbbccfmaaDoorCards.lean) ties it to the program's text. -/
def laid_codicil_inflate_toldOrder {H : Type} : DataW H := .agg [.lit (.int .i64 16), .lit (.int .i64 17), .lit (.int .i64 18), .lit (.int .i64 0), .lit (.int .i64 8), .lit (.int .i64 7), .lit (.int .i64 9), .lit (.int .i64 6), .lit (.int .i64 10), .lit (.int .i64 5), .lit (.int .i64 11), .lit (.int .i64 4), .lit (.int .i64 12), .lit (.int .i64 3), .lit (.int .i64 13), .lit (.int .i64 2), .lit (.int .i64 14), .lit (.int .i64 1), .lit (.int .i64 15)]

/-- 'codicillaw04.DeflateBack': WHATEVER THE INPUT: true; the input reads as it did. -/
def deflateBackSpec : ChangeSpec := { name := "deflateBack", fn := fun _ => fun
  | [d1, d2, d3] => { results := [.lit (.bool true)], args := [d1, d2, d3] }
  | _ => none }
def deflateBackRow : OpenClaim := { program := "ytjijkcmbbccfmaadoor", sum := "1b3e446edd0288bd380bb70f44e071ea722ac2b9800dcfab10b115a28b27f9b4", func := "codicil/codicillaw04.DeflateBack", spec := "deflateBack", named := ["codicil/inflate.toldOrder"], plainKeys := false, apart := false, laid := [("codicil/inflate.toldOrder", laid_codicil_inflate_toldOrder)] }
def DeflateBackSaid : Prop := deflateBackRow.holds Tryd.pinned (OpenSpec.ofChange deflateBackSpec)

/-- ITS FALSE NEIGHBOUR: 'it returns false'. Refute it at one input. -/
def deflateBackWrong : ChangeSpec := { name := "deflateBack", fn := fun _ => fun
  | [d1, d2, d3] => { results := [.lit (.bool false)], args := [d1, d2, d3] }
  | _ => none }
def DeflateBackWrongFalsely : Prop := deflateBackRow.holds Tryd.pinned (OpenSpec.ofChange deflateBackWrong)

/-- 'codicillaw04.DeflateFixed': WHATEVER THE INPUT: true; the input reads as it did. -/
def deflateFixedSpec : ChangeSpec := { name := "deflateFixed", fn := fun _ => fun
  | [] => { results := [.lit (.bool true)], args := [] }
  | _ => none }
def deflateFixedRow : OpenClaim := { program := "ytjijkcmbbccfmaadoor", sum := "1b3e446edd0288bd380bb70f44e071ea722ac2b9800dcfab10b115a28b27f9b4", func := "codicil/codicillaw04.DeflateFixed", spec := "deflateFixed", named := ["codicil/inflate.toldOrder"], plainKeys := false, apart := false, laid := [("codicil/inflate.toldOrder", laid_codicil_inflate_toldOrder)] }
def DeflateFixedSaid : Prop := deflateFixedRow.holds Tryd.pinned (OpenSpec.ofChange deflateFixedSpec)

/-- ITS FALSE NEIGHBOUR: 'it returns false'. Refute it at one input. -/
def deflateFixedWrong : ChangeSpec := { name := "deflateFixed", fn := fun _ => fun
  | [] => { results := [.lit (.bool false)], args := [] }
  | _ => none }
def DeflateFixedWrongFalsely : Prop := deflateFixedRow.holds Tryd.pinned (OpenSpec.ofChange deflateFixedWrong)

/-- 'codicillaw05.ZlibBack': WHATEVER THE INPUT: true; the input reads as it did. -/
def zlibBackSpec : ChangeSpec := { name := "zlibBack", fn := fun _ => fun
  | [d1, d2, d3, d4, d5] => { results := [.lit (.bool true)], args := [d1, d2, d3, d4, d5] }
  | _ => none }
def zlibBackRow : OpenClaim := { program := "ytjijkcmbbccfmaadoor", sum := "1b3e446edd0288bd380bb70f44e071ea722ac2b9800dcfab10b115a28b27f9b4", func := "codicil/codicillaw05.ZlibBack", spec := "zlibBack", named := ["codicil/inflate.toldOrder"], plainKeys := false, apart := false, laid := [("codicil/inflate.toldOrder", laid_codicil_inflate_toldOrder)] }
def ZlibBackSaid : Prop := zlibBackRow.holds Tryd.pinned (OpenSpec.ofChange zlibBackSpec)

/-- ITS FALSE NEIGHBOUR: 'it returns false'. Refute it at one input. -/
def zlibBackWrong : ChangeSpec := { name := "zlibBack", fn := fun _ => fun
  | [d1, d2, d3, d4, d5] => { results := [.lit (.bool false)], args := [d1, d2, d3, d4, d5] }
  | _ => none }
def ZlibBackWrongFalsely : Prop := zlibBackRow.holds Tryd.pinned (OpenSpec.ofChange zlibBackWrong)

/-- 'codicillaw05.ZlibFixed': WHATEVER THE INPUT: true; the input reads as it did. -/
def zlibFixedSpec : ChangeSpec := { name := "zlibFixed", fn := fun _ => fun
  | [] => { results := [.lit (.bool true)], args := [] }
  | _ => none }
def zlibFixedRow : OpenClaim := { program := "ytjijkcmbbccfmaadoor", sum := "1b3e446edd0288bd380bb70f44e071ea722ac2b9800dcfab10b115a28b27f9b4", func := "codicil/codicillaw05.ZlibFixed", spec := "zlibFixed", named := ["codicil/inflate.toldOrder"], plainKeys := false, apart := false, laid := [("codicil/inflate.toldOrder", laid_codicil_inflate_toldOrder)] }
def ZlibFixedSaid : Prop := zlibFixedRow.holds Tryd.pinned (OpenSpec.ofChange zlibFixedSpec)

/-- ITS FALSE NEIGHBOUR: 'it returns false'. Refute it at one input. -/
def zlibFixedWrong : ChangeSpec := { name := "zlibFixed", fn := fun _ => fun
  | [] => { results := [.lit (.bool false)], args := [] }
  | _ => none }
def ZlibFixedWrongFalsely : Prop := zlibFixedRow.holds Tryd.pinned (OpenSpec.ofChange zlibFixedWrong)

/-- 'codicillaw05.ZlibMemory': WHATEVER THE INPUT: true; the input reads as it did. -/
def zlibMemorySpec : ChangeSpec := { name := "zlibMemory", fn := fun _ => fun
  | [d] => { results := [.lit (.bool true)], args := [d] }
  | _ => none }
def zlibMemoryRow : OpenClaim := { program := "ytjijkcmbbccfmaadoor", sum := "1b3e446edd0288bd380bb70f44e071ea722ac2b9800dcfab10b115a28b27f9b4", func := "codicil/codicillaw05.ZlibMemory", spec := "zlibMemory", named := ["codicil/inflate.toldOrder"], plainKeys := false, apart := false, laid := [("codicil/inflate.toldOrder", laid_codicil_inflate_toldOrder)] }
def ZlibMemorySaid : Prop := zlibMemoryRow.holds Tryd.pinned (OpenSpec.ofChange zlibMemorySpec)

/-- ITS FALSE NEIGHBOUR: 'it returns false'. Refute it at one input. -/
def zlibMemoryWrong : ChangeSpec := { name := "zlibMemory", fn := fun _ => fun
  | [d] => { results := [.lit (.bool false)], args := [d] }
  | _ => none }
def ZlibMemoryWrongFalsely : Prop := zlibMemoryRow.holds Tryd.pinned (OpenSpec.ofChange zlibMemoryWrong)

/- THE SECOND FORM. 'bulk': how many values and letters a reading holds, each counted each time it is reached (what is shared counts as often as it is met; a slice's spare places count too). A statement '..UptoSaid' is the law's where the arguments, and the package variables that the reading takes, are together of bulk at most 1048576: NARROWER than '..Said'. Prove '..Said' where nothing that the law and all that it calls make is longer than what came in: it says more and counts as full. Else prove '..UptoSaid'. A law counts once. -/
mutual
def uptoBulk {H : Type} : DataW H → Nat
  | .lit (.string bytes) => bytes.length + 1
  | .lit _ => 1
  | .nil => 1
  | .ptr d => uptoBulk d + 1
  | .slice elems spare => uptoBulkAll elems + uptoBulkAll spare + 1
  | .agg parts => uptoBulkAll parts + 1
  | .iface _ d => uptoBulk d + 1
  | .map entries => uptoBulkEntries entries + 1
  | .held _ => 1
def uptoBulkAll {H : Type} : List (DataW H) → Nat
  | [] => 0
  | d :: r => uptoBulk d + uptoBulkAll r
def uptoBulkEntries {H : Type} : List (Lit × DataW H) → Nat
  | [] => 0
  | x :: r => uptoBulkEntry x + uptoBulkEntries r
def uptoBulkEntry {H : Type} : Lit × DataW H → Nat
  | (.string bytes, d) => bytes.length + uptoBulk d + 1
  | (_, d) => uptoBulk d + 1
 end
def uptoSmall : (H : Type) → List (DataW H) → Bool := fun _ ds => decide (uptoBulkAll ds ≤ 1048576)
def OpenSpec.upto (s : _root_.Go.ChangeSpec) : _root_.Go.OpenSpec := { _root_.Go.OpenSpec.ofChange s with cond := some uptoSmall }

/-- 'codicillaw04.DeflateBack', WHERE WHAT IT READS IS OF BULK AT MOST 1048576: true; the input reads as it did. -/
def deflateBackUptoRow : OpenClaim := { program := "ytjijkcmbbccfmaadoor", sum := "1b3e446edd0288bd380bb70f44e071ea722ac2b9800dcfab10b115a28b27f9b4", func := "codicil/codicillaw04.DeflateBack", spec := "deflateBack", named := ["codicil/inflate.toldOrder"], plainKeys := false, apart := false, laid := [("codicil/inflate.toldOrder", laid_codicil_inflate_toldOrder)], narrowed := true }
def DeflateBackUptoSaid : Prop := deflateBackUptoRow.holds Tryd.pinned (OpenSpec.upto deflateBackSpec)

/-- 'codicillaw04.DeflateFixed', WHERE WHAT IT READS IS OF BULK AT MOST 1048576: true; the input reads as it did. -/
def deflateFixedUptoRow : OpenClaim := { program := "ytjijkcmbbccfmaadoor", sum := "1b3e446edd0288bd380bb70f44e071ea722ac2b9800dcfab10b115a28b27f9b4", func := "codicil/codicillaw04.DeflateFixed", spec := "deflateFixed", named := ["codicil/inflate.toldOrder"], plainKeys := false, apart := false, laid := [("codicil/inflate.toldOrder", laid_codicil_inflate_toldOrder)], narrowed := true }
def DeflateFixedUptoSaid : Prop := deflateFixedUptoRow.holds Tryd.pinned (OpenSpec.upto deflateFixedSpec)

/-- 'codicillaw05.ZlibBack', WHERE WHAT IT READS IS OF BULK AT MOST 1048576: true; the input reads as it did. -/
def zlibBackUptoRow : OpenClaim := { program := "ytjijkcmbbccfmaadoor", sum := "1b3e446edd0288bd380bb70f44e071ea722ac2b9800dcfab10b115a28b27f9b4", func := "codicil/codicillaw05.ZlibBack", spec := "zlibBack", named := ["codicil/inflate.toldOrder"], plainKeys := false, apart := false, laid := [("codicil/inflate.toldOrder", laid_codicil_inflate_toldOrder)], narrowed := true }
def ZlibBackUptoSaid : Prop := zlibBackUptoRow.holds Tryd.pinned (OpenSpec.upto zlibBackSpec)

/-- 'codicillaw05.ZlibFixed', WHERE WHAT IT READS IS OF BULK AT MOST 1048576: true; the input reads as it did. -/
def zlibFixedUptoRow : OpenClaim := { program := "ytjijkcmbbccfmaadoor", sum := "1b3e446edd0288bd380bb70f44e071ea722ac2b9800dcfab10b115a28b27f9b4", func := "codicil/codicillaw05.ZlibFixed", spec := "zlibFixed", named := ["codicil/inflate.toldOrder"], plainKeys := false, apart := false, laid := [("codicil/inflate.toldOrder", laid_codicil_inflate_toldOrder)], narrowed := true }
def ZlibFixedUptoSaid : Prop := zlibFixedUptoRow.holds Tryd.pinned (OpenSpec.upto zlibFixedSpec)

/-- 'codicillaw05.ZlibMemory', WHERE WHAT IT READS IS OF BULK AT MOST 1048576: true; the input reads as it did. -/
def zlibMemoryUptoRow : OpenClaim := { program := "ytjijkcmbbccfmaadoor", sum := "1b3e446edd0288bd380bb70f44e071ea722ac2b9800dcfab10b115a28b27f9b4", func := "codicil/codicillaw05.ZlibMemory", spec := "zlibMemory", named := ["codicil/inflate.toldOrder"], plainKeys := false, apart := false, laid := [("codicil/inflate.toldOrder", laid_codicil_inflate_toldOrder)], narrowed := true }
def ZlibMemoryUptoSaid : Prop := zlibMemoryUptoRow.holds Tryd.pinned (OpenSpec.upto zlibMemorySpec)

end Rows
end Go.Proofs.YtjijkcmbbccfmaaDoor
