/-
  A label built of three fields; what the document's reader of tags guesses. (Pure.)
-/
import Derived.Test.YtkbalngddlhlpaaGreatDoorL11
import Derived.Test.YtkbalngddlhlpaaGreatDoorL13
import Derived.Test.YtkbalngddlhlpaaGreatDoorShD3
import Derived.Test.YtkbalngddlhlpaaGreatDoorO10C
import Derived.Test.YtkbalngddlhlpaaGreatDoorO14
namespace Go.Proofs.YtkbalngddlhlpaaGreatDoor
open Go.RowKit







structure LbS (w1 wa w2 : World) (R : LbC) : Prop where
  al : w1.alloc (.cells lb0.l.toArray 127) = wa
  st : wa.setCells w1.heap.size 0 R.l = w2
  th : wa.there w1.heap.size 0 R.l.toArray.size
  bl : LbB w2 w1.heap.size R
  be : Below w1.heap.size w1 w2
theorem lb_store (w1 : World) {R : LbC} (hok : R.ok) : ∃ wa w2, LbS w1 wa w2 R := by
  obtain ⟨wa, hwa, hBa, hLa⟩ := LbC.box w1 lb0
  exact ⟨wa, _, hwa, rfl, hLa.there lb0_ok _ (by rw [List.size_toArray, LbC.len hok]; exact Nat.le_refl _), hLa.over lb0_ok hok, Sh.below_cells (Nat.le_refl _) _ _ _ _ hBa⟩
theorem lb_info {R : LbC} (hok : R.ok) : (Tryz.prog.info? 127).map (·.size) = some R.l.length := by rw [LbC.len hok]; kernel_rfl
theorem lb_info2 {R : LbC} (hok : R.ok) : (Tryz.prog.info? 127).map (·.size) = some R.l.toArray.size := by rw [List.size_toArray]; exact lb_info hok
end Go.Proofs.YtkbalngddlhlpaaGreatDoor
