/-
  The sum of abc.
-/
import Derived.Test.YthkaohkondkhgaaDoorShS
import Derived.Lib.SlBytesConst
namespace Go.Proofs.YthkaohkondkhgaaDoor.Sh
open Go.RowKit
/-- The table of the rounds. -/
def ksK : List Int := [1116352408, 1899447441, 3049323471, 3921009573, 961987163, 1508970993, 2453635748, 2870763221, 3624381080, 310598401, 607225278, 1426881987, 1925078388, 2162078206, 2614888103, 3248222580, 3835390401, 4022224774, 264347078, 604807628, 770255983, 1249150122, 1555081692, 1996064986, 2554220882, 2821834349, 2952996808, 3210313671, 3336571891, 3584528711, 113926993, 338241895, 666307205, 773529912, 1294757372, 1396182291, 1695183700, 1986661051, 2177026350, 2456956037, 2730485921, 2820302411, 3259730800, 3345764771, 3516065817, 3600352804, 4094571909, 275423344, 430227734, 506948616, 659060556, 883997877, 958139571, 1322822218, 1537002063, 1747873779, 1955562222, 2024104815, 2227730452, 2361852424, 2428436474, 2756734187, 3204031479, 3329325298]
theorem ksK_length : ksK.length = 64 := by decide
theorem digF_allB (l : List Int) : AllB (digF l) := by
  intro x hx
  obtain ⟨i, _, rfl⟩ := List.mem_map.1 hx
  unfold digB
  omega
theorem digF_length (l : List Int) : (digF l).length = 32 := by simp [digF]

theorem rd_blockF (w : World) (arr : List Int) (t : TypeId) (fr : Nat × Nat) (hA : AllB arr) (hn : arr.length ≤ 1000000) : Rd (w.alloc (.cells (cellsU8 arr).toArray t fr)) (.slice (some ⟨w.heap.size, 0, none⟩) arr.length arr.length) arr := by
  refine ⟨some ⟨w.heap.size, 0, none⟩, arr.length, rfl, Nat.le_refl _, by unfold maxLen; omega, hA, (fun h => by cases h), fun _ => ⟨w.heap.size, 0, rfl, by simp, fun i hi => ?_⟩⟩
  rw [Nat.zero_add, cell_of_row _ w.heap.size i _ t fr (heap_alloc_new w _)]
  simp [cellsU8, List.getD, List.getElem?_eq_getElem hi]

end Go.Proofs.YthkaohkondkhgaaDoor.Sh
