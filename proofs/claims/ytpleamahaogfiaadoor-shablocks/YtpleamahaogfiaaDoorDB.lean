/-
  Walks: the document's Block.
-/
import Derived.Test.YtpleamahaogfiaaDoorX3
namespace Go.Proofs.YtpleamahaogfiaaDoor
open Go.RowKit

set_option maxHeartbeats 2000000 in
set_option maxRecDepth 100000 in
theorem docBlock_any (s0 r : St) (bs sch : List Int) (w : World) (hb : bs.length = 64) (hA : AllB bs) (hok : s0.ok) (HS : Kept (schF bs 64 = sch)) (HR : Kept (rdF s0 ksK sch 64 = r)) :
    Calls Tryd.prog 11 #[s0.agg, .agg (cellsU8 bs).toArray] w fun e w' => e = .returned (r.add s0).agg ∧ Below w.heap.size w w' := by
  rw [St.agg_list, St.agg_list]
  obtain ⟨g1, g2, g3⟩ := heap3 w (.cells (cellsU32 s0.list).toArray 23) (.cells (cellsU8 bs).toArray 24) (.cells (cellsU32 zeros8).toArray 23)
  have b0 : Blk (((w.alloc (.cells (cellsU32 s0.list).toArray 23)).alloc (.cells (cellsU8 bs).toArray 24)).alloc (.cells #[.int .u32 0, .int .u32 0, .int .u32 0, .int .u32 0, .int .u32 0, .int .u32 0, .int .u32 0, .int .u32 0] 23)) w.heap.size 23 s0.list := blk_of g1 rfl
  have b1 : Blk8 (((w.alloc (.cells (cellsU32 s0.list).toArray 23)).alloc (.cells (cellsU8 bs).toArray 24)).alloc (.cells #[.int .u32 0, .int .u32 0, .int .u32 0, .int .u32 0, .int .u32 0, .int .u32 0, .int .u32 0, .int .u32 0] 23)) (w.heap.size + 1) 24 bs := blk8_of g2 rfl
  have b2 : Blk (((w.alloc (.cells (cellsU32 s0.list).toArray 23)).alloc (.cells (cellsU8 bs).toArray 24)).alloc (.cells #[.int .u32 0, .int .u32 0, .int .u32 0, .int .u32 0, .int .u32 0, .int .u32 0, .int .u32 0, .int .u32 0] 23)) (w.heap.size + 1 + 1) 23 zeros8 := blk_of g3 rfl
  have hbel : Below w.heap.size w (((w.alloc (.cells (cellsU32 s0.list).toArray 23)).alloc (.cells (cellsU8 bs).toArray 24)).alloc (.cells #[.int .u32 0, .int .u32 0, .int .u32 0, .int .u32 0, .int .u32 0, .int .u32 0, .int .u32 0, .int .u32 0] 23)) := (((Below.refl _ _).alloc (Nat.le_refl _) _).alloc (by simp) _).alloc (by simp; omega) _
  have hz : (((w.alloc (.cells (cellsU32 s0.list).toArray 23)).alloc (.cells (cellsU8 bs).toArray 24)).alloc (.cells #[.int .u32 0, .int .u32 0, .int .u32 0, .int .u32 0, .int .u32 0, .int .u32 0, .int .u32 0, .int .u32 0] 23)).heap.size = w.heap.size + 3 := by simp
  clear g1 g2 g3
  go_enter Tryd.func11, Tryd.ntmps11
  go_upto_region 1 with fail
  generalize ((w.alloc (.cells (cellsU32 s0.list).toArray 23)).alloc (.cells (cellsU8 bs).toArray 24)).alloc (.cells #[.int .u32 0, .int .u32 0, .int .u32 0, .int .u32 0, .int .u32 0, .int .u32 0, .int .u32 0, .int .u32 0] 23) = W at *
  have hrd : ∀ m : Nat, Rd (W.drewN m) (.slice (some ⟨w.heap.size + 1, 0, none⟩) 64 64) bs := fun m =>
    ⟨some ⟨w.heap.size + 1, 0, none⟩, 64, by rw [hb], by omega, by unfold maxLen; omega, hA, (fun h => by cases h), fun _ => ⟨w.heap.size + 1, 0, rfl, by show w.heap.size + 1 < W.heap.size; omega, (b1.drewN m).off⟩⟩
  have HC : Kept (∀ m, Calls Tryd.prog 27 #[.agg (cellsU32 s0.list).toArray, .slice (some ⟨w.heap.size + 1, 0, none⟩) 64 64] (W.drewN m) fun e w' => e = .returned (.agg (cellsU32 (r.add s0).list).toArray) ∧ Below (W.drewN m).heap.size (W.drewN m) w') := ⟨fun m => compress_any s0 r _ bs sch _ (hrd m) hb hok HS HR⟩
  have hl1 : s0.list.length = 8 := rfl
  have hl2 : (r.add s0).list.length = 8 := rfl
  have HR0 : Kept (∀ w', (∃ m, w' = W.drewN m) → w'.rangeAt w.heap.size 0 (cellsU32 s0.list)) := ⟨fun w' ⟨m, hm⟩ => by subst hm; exact (b0.drewN m).range⟩
  have HI0 := Kept.mk (info23 s0.list hl1)
  have HI1 := Kept.mk (info23 (r.add s0).list hl2)
  have HO1 := Kept.mk (all_oneCell_toArray (cellsU32_one (r.add s0).list))
  have HB2 := Kept.mk b2
  have HZ := Kept.mk hz
  clear b0 b1 b2 hrd HS HR hz
  refine wp_region_tail 0 2 1 (by kernel_rfl) (by kernel_rfl) ?_
  simp only [List.take_succ_cons, List.take_zero, List.drop_succ_cons, List.drop_zero, List.foldl_nil]
  refine wpQuiet_by rfl (quiet_load_mid 23 _ rfl w.heap.size 0 rfl (cellsU32 s0.list) _ HR0.out Tryd.underlying23 rfl HI0.out.1 ?_)
  simp only [Act.put, List.setIfInBounds_toArray, List.set_cons_zero, List.set_cons_succ]
  repeat (go_big_quiet_step (fail))
  refine wpQuiet_nil ?_
  intro m
  refine wpTail_step (fun K hK => ?_)
  go_simp
  refine Calls.mono (HC.out m) (fun e wa hp => ?_)
  obtain ⟨rfl, hba⟩ := hp
  refine hK _ _ ?_
  clear hK K
  have hz' := HZ.out
  have C2 := (HB2.out.drewN m).far hba (by show w.heap.size + 1 + 1 < W.heap.size; omega)
  have HT2 : Kept (wa.there (w.heap.size + 1 + 1) 0 (cellsU32 (r.add s0).list).toArray.size) := ⟨C2.there _ (by simp only [List.size_toArray, cellsU32_length, hl2]; rfl)⟩
  have HF : Kept (Blk (wa.setCells (w.heap.size + 1 + 1) 0 (cellsU32 (r.add s0).list)) (w.heap.size + 1 + 1) 23 (r.add s0).list ∧ Below w.heap.size w (wa.setCells (w.heap.size + 1 + 1) 0 (cellsU32 (r.add s0).list))) := ⟨C2.over rfl, below_cells (by omega) _ 0 w wa ((below_drewN hbel m).trans (hba.mono (by show w.heap.size ≤ W.heap.size; omega)))⟩
  clear C2 hba hbel hz'
  refine wpTail_step (fun K hK => ?_)
  refine wp_store_mid 23 _ _ rfl (w.heap.size + 1 + 1) 0 (cellsU32 (r.add s0).list).toArray rfl rfl HT2.out HI1.out.2 HO1.out ?_
  refine hK _ _ (wpTail_nil (NoPanic.normal ?_))
  clear hK K
  simp only [Act.put]
  go_wp2
  refine bodyPost_ret (v := .agg (cellsU32 (r.add s0).list).toArray) (results_cell_row (p := 4) (ty := 23) Tryd.results11 _ _ (w.heap.size + 1 + 1) 23 _ (0, 0) _ rfl HF.out.1 Tryd.underlying23 rfl HI1.out.2) rfl ⟨rfl, HF.out.2⟩
end Go.Proofs.YtpleamahaogfiaaDoor
