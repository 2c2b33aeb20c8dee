/-
  Walks: the document's Hex.
-/
import Derived.Test.YtpleamahaogfiaaDoorH
namespace Go.Proofs.YtpleamahaogfiaaDoor
open Go.RowKit

set_option maxHeartbeats 2000000 in
set_option maxRecDepth 100000 in
theorem rhex_any (ids : List Int) (w : World) (hl : ids.length = 32) (hA : AllB ids) :
    Calls Tryd.prog 21 #[.agg (cellsU8 ids).toArray] w fun e w' => e = .returned (.string (strOfNums (hexF ids))) ∧ Below w.heap.size w w' := by
  obtain ⟨i0, z0, hi, hz, hs, hb, hc, -⟩ := info5
  have HR1 : Kept ((w.alloc (.cells (cellsU8 ids).toArray 32)).rangeAt w.heap.size 0 (cellsU8 ids)) := ⟨(alloc_blk8 w ids 32).range⟩
  have HI1 : Kept ((Tryd.prog.info? 32).map (·.size) = some (cellsU8 ids).length) := ⟨by rw [cellsU8_length, hl]; rfl⟩
  go_enter Tryd.func21, Tryd.ntmps21
  go_upto_region 2 with fail
  have BB1 : Below w.heap.size w (w.alloc (.cells (cellsU8 ids).toArray 32)) := (Below.refl _ w).alloc (Nat.le_refl _) _
  have HO := Kept.mk (Own.nil 5 (w.alloc (.cells (cellsU8 ids).toArray 32)) w.heap.size)
  go_wp2_with (refine wpList_load_mid rfl 32 _ rfl w.heap.size 0 rfl (cellsU8 ids) _ HR1.out Tryd.underlying32 rfl HI1.out ?_)
  go_loopw [3, 7] (fun s3 i wr => ∃ (k : Nat), k ≤ 32 ∧ i = .int .i64 k ∧ Own 5 wr w.heap.size s3 (hexF (ids.take k)) ∧ Below w.heap.size w wr) (fun _ i _ => 32 - (intOf i).toNat)
  case atStart => exact ⟨0, by omega, rfl, HO.out, BB1⟩
  case round =>
    clear HO BB1 HR1 HI1
    obtain ⟨k, hk, rfl, ho, hbel⟩ := hrel
    have HO := Kept.mk ho
    clear ho
    by_cases hlt : k < 32
    · have hix := run_index_ids wr ids hl k hlt
      have hy := hA.getD k
      have HN : Kept (hexF (ids.take (k + 1)) = hexF (ids.take k) ++ [dgt (ids.getD k 0 / 16), dgt (ids.getD k 0 % 16)]) := ⟨by
        rw [List.take_succ_eq_append_getElem (by omega), hexF, List.flatMap_append]
        simp [hexF, List.getD, List.getElem?_eq_getElem (show k < ids.length by omega)]⟩
      generalize ids.getD k 0 = x at *
      have hm1 : ∀ W, (Instr.index 9 (.string { data := #[48, 49, 50, 51, 52, 53, 54, 55, 56, 57, 97, 98, 99, 100, 101, 102] }) (.int .u8 (x / 16))).run Tryd.prog W = .ok (.int .u8 (dgt (x / 16))) W := fun W => run_index_dig W (x / 16) (by omega) (by omega)
      have hm2 : ∀ W, (Instr.index 9 (.string { data := #[48, 49, 50, 51, 52, 53, 54, 55, 56, 57, 97, 98, 99, 100, 101, 102] }) (.int .u8 (x % 16))).run Tryd.prog W = .ok (.int .u8 (dgt (x % 16))) W := fun W => run_index_dig W (x % 16) (by omega) (by omega)
      have ha := and15 x hy.1 hy.2
      go_upto_region 5 with fail
      refine wp_region_tail 1 7 2 (by kernel_rfl) (by kernel_rfl) ?_
      simp only [List.take_succ_cons, List.take_zero, List.drop_succ_cons, List.drop_zero, List.foldl_cons, List.foldl_nil, moved]
      simp only [Act.put, Act.eval, List.setIfInBounds_toArray, List.set_cons_zero, List.set_cons_succ, Array.getD_eq_getD_getElem?, List.getElem?_toArray, List.getElem?_cons_zero, List.getElem?_cons_succ, Option.getD_some]
      repeat (go_big_quiet_step (fail))
      refine wpQuiet_nil ?_
      intro m
      refine wpTail_step (fun K hK => ?_)
      go_simp
      refine hK _ _ ?_
      clear hK K
      have hd1 := dgt_range (x / 16) (by omega) (by omega)
      have hd2 := dgt_range (x % 16) (by omega) (by omega)
      have hr2 : Rd ((wr.drewN m).alloc (.cells (cellsU8 [dgt (x / 16), dgt (x % 16)]).toArray 5)) (.slice (some ⟨(wr.drewN m).heap.size, 0, none⟩) 2 2) [dgt (x / 16), dgt (x % 16)] := Rd.block (wr.drewN m) [dgt (x / 16), dgt (x % 16)] 5 (AllB.two hd1 hd2) (by simp)
      refine wpTail_step (fun K hK => ?_)
      refine wp_append_rd _ _ _ 28 rfl w.heap.size 5 i0 z0 Tryd.underlying28 hi hz hs hb hc u3 (hexF (ids.take k)) rfl ?_ _ [dgt (x / 16), dgt (x % 16)] rfl hr2 ?_ ?_ ?_
      · exact (HO.out.later (below_drewN (Below.refl wr.heap.size wr) m) (Nat.le_refl _)).alloc _
      · rw [hexF_length, List.length_take]
        simp
        omega
      · have := hbel.size
        simp
        omega
      intro v' w' hown hgrow
      refine hK _ _ ?_
      clear hK K
      have HO' := Kept.mk hown
      have hb' : Below w.heap.size w w' := ((below_drewN hbel m).alloc (by simpa using hbel.size) _).grown hgrow (by have := hbel.size; simp; omega) (own_ge HO.out)
      clear hown hgrow hr2
      refine wpTail_step (fun K hK => ?_)
      go_simp
      refine hK _ _ (wpTail_nil (NoPanic.normal ?_))
      clear hK K
      go_wp2
      go_roundw
      case rel => exact ⟨k + 1, by omega, by go_num, by rw [HN.out]; exact HO'.out, hb'⟩
      case measure => simp [intOf]; omega
    · obtain rfl : k = 32 := by omega
      have ho := HO.out
      rw [List.take_of_length_le (by omega)] at ho
      have h1 := (Rd.own ho (hexF_allB hA)).str Tryd.underlying28 Tryd.underlying5 9 Tryd.underlying9
      clear ho HO
      go_wp2
      go_ret
      exact ⟨rfl, hbel⟩
end Go.Proofs.YtpleamahaogfiaaDoor
