/-
  Walks: the document's big, constants.
-/
import Derived.Test.YtgoegmaepafopaaDoorShA
namespace Go.Proofs.YtgoegmaepafopaaDoor.Sh
open Go.RowKit

set_option maxHeartbeats 2000000 in
set_option maxRecDepth 100000 in
theorem big_any (v : Value) (xs : List Int) (i : Nat) (w : World) (hp : Rd w v xs) (hi : i + 3 < xs.length) :
    Calls Tryd.prog 57 #[v, .int .i64 i] w fun e w' => e = .returned (.int .u32 (be4 (xs.getD i 0) (xs.getD (i + 1) 0) (xs.getD (i + 2) 0) (xs.getD (i + 3) 0))) ∧ ∃ n, w' = w.drewN n := by
  obtain ⟨b, off, c, rfl, hlc, hcm, hblt, hcell⟩ := hp.open2 (by omega)
  have c0 := hcell i (by omega)
  have c1 := hcell (i + 1) (by omega)
  have c2 := hcell (i + 2) (by omega)
  have c3 := hcell (i + 3) (by omega)
  have y0 := hp.allB.getD i
  have y1 := hp.allB.getD (i + 1)
  have y2 := hp.allB.getD (i + 2)
  have y3 := hp.allB.getD (i + 3)
  unfold maxLen at hcm
  clear hcell hp
  generalize xs.getD i 0 = x0 at *
  generalize xs.getD (i + 1) 0 = x1 at *
  generalize xs.getD (i + 2) 0 = x2 at *
  generalize xs.getD (i + 3) 0 = x3 at *
  generalize xs.length = n at *
  have m1 : ((i : Int) + 1).toNat = i + 1 := by omega
  have m2 : ((i : Int) + 2).toNat = i + 2 := by omega
  have m3 : ((i : Int) + 3).toNat = i + 3 := by omega
  have HE : Kept (be4 x0 x1 x2 x3 = x0 * 16777216 + x1 * 65536 + x2 * 256 + x3) := ⟨rfl⟩
  generalize be4 x0 x1 x2 x3 = r at *
  go_enter Tryd.func57, Tryd.ntmps57
  go_upto_region 1 with fail
  go_quiet (fail)
  go_wp2
  go_ret
  exact ⟨by rw [HE.out]; rfl, _, rfl⟩

set_option maxHeartbeats 2000000 in
set_option maxRecDepth 100000 in
theorem constants_any (w : World) : Calls Tryd.prog 59 #[] w fun e w' => e = .returned (.agg (cellsU32 ksK).toArray) ∧ Below w.heap.size w w' := by
  have HI : Kept ((Tryd.prog.info? 95).map (·.size) = some (cellsU32 ksK).toArray.size) := ⟨rfl⟩
  have HO := Kept.mk (all_oneCell_toArray (cellsU32_one ksK))
  have HT : Kept ((w.alloc (.cells (cellsU32 zeros64).toArray 95)).there w.heap.size 0 (cellsU32 ksK).toArray.size) := ⟨(alloc_blk w zeros64 95).there _ rfl⟩
  have HF : Kept (Blk ((w.alloc (.cells (cellsU32 zeros64).toArray 95)).setCells w.heap.size 0 (cellsU32 ksK)) w.heap.size 95 ksK ∧ Below w.heap.size w ((w.alloc (.cells (cellsU32 zeros64).toArray 95)).setCells w.heap.size 0 (cellsU32 ksK))) := ⟨(alloc_blk w zeros64 95).over rfl, below_cells (Nat.le_refl _) _ 0 w _ ((Below.refl _ _).alloc (Nat.le_refl _) _)⟩
  go_enter Tryd.func59, Tryd.ntmps59
  go_wp2_with (refine wpList_store_mid rfl 95 _ _ rfl w.heap.size 0 (cellsU32 ksK).toArray rfl rfl HT.out HI.out HO.out ?_)
  refine bodyPost_ret (v := .agg (cellsU32 ksK).toArray) (results_cell_row (p := 0) (ty := 95) Tryd.results59 _ _ w.heap.size 95 _ (0, 0) _ rfl HF.out.1 Tryd.underlying95 rfl HI.out) rfl ⟨rfl, HF.out.2⟩
end Go.Proofs.YtgoegmaepafopaaDoor.Sh
