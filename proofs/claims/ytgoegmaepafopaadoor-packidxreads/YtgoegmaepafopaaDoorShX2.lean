/-
  First of the document.
-/
import Derived.Test.YtgoegmaepafopaaDoorShA
namespace Go.Proofs.YtgoegmaepafopaaDoor.Sh
open Go.RowKit
set_option maxHeartbeats 400000 in
set_option maxRecDepth 100000 in
theorem rfirst_any (w : World) : Calls Tryd.prog 46 #[] w fun e w' => e = .returned St.first.agg ∧ Below w.heap.size w w' := by
  go_enter Tryd.func46, Tryd.ntmps46
  go_wp2
  refine bodyPost_ret (v := St.first.agg) (results_cell_row (p := 0) (ty := 80) Tryd.results46 _ _ w.heap.size 80 _ (0, 0) _ rfl (heap_alloc_new w _) Tryd.underlying80 rfl rfl) rfl ⟨rfl, (Below.refl _ _).alloc (Nat.le_refl _) _⟩

end Go.Proofs.YtgoegmaepafopaaDoor.Sh
