/-
  Walks: the law ShaWords.
-/
import Derived.Test.YtpleamahaogfiaaDoorCM
import Derived.Test.YtpleamahaogfiaaDoorD3
import Derived.Test.YtpleamahaogfiaaDoorH2
namespace Go.Proofs.YtpleamahaogfiaaDoor
open Go.RowKit

/-- The worlds in which all that lay in W lies as it lay. -/
def CC (W w' : World) : Prop := Below W.heap.size W w'
theorem CC.on {W w' w'' : World} (h : CC W w') (hb : Below w'.heap.size w' w'') : CC W w'' := Below.trans h (hb.mono (Below.size h))
theorem CC.range {W w' : World} (h : CC W w') {b : Nat} {t : TypeId} {xs : List Int} (hb : Blk8 W b t xs) (hlt : b < W.heap.size) : w'.rangeAt b 0 (cellsU8 xs) := (hb.far h hlt).range
/-- An operation that yields its value whatever the world. -/
theorem quiet_plain {P : Program} {C : World → Prop} {K : Act → Prop} {o : Oper} {a : Act} {v : Value} (h : ∀ w, (execOp a.eval o).run P w = .ok (.value v) w) (hk : K (a.put o.dst v)) : o.quiet P a C K :=
  ⟨v, fun w _ => by
    unfold Oper.quietAt
    rw [h w]
    exact ⟨rfl, rfl⟩, hk⟩
theorem parF_length (s : ByteArray) : (parF s).length = 32 := by
  unfold parF
  split <;> simp
theorem info32 (l : List Int) (h : l.length = 32) : (Tryd.prog.info? 32).map (·.size) = some (cellsU8 l).length ∧ (Tryd.prog.info? 32).map (·.size) = some (cellsU8 l).toArray.size := by
  have e : (Tryd.prog.info? 32).map (·.size) = some 32 := rfl
  rw [List.size_toArray, cellsU8_length, h]
  exact ⟨e, e⟩

set_option maxHeartbeats 4000000 in
set_option maxRecDepth 100000 in
theorem shaWords_walk (xs ys : List Int) (s : ByteArray) (w : World) (hl : xs.length = 32) (hm : ys.length = 32) (hA : AllB xs) (hY : AllB ys) (hB : Tab w ksK) :
    Calls Tryd.prog 5 #[.agg (cellsU8 xs).toArray, .agg (cellsU8 ys).toArray, .string s] w fun e w' => e = .returned (.bool true) ∧ Below w.heap.size w w' := by
  have HB := Kept.mk hB
  have hn : 0 < w.heap.size := hB.1
  clear hB
  have hB1 : Blk8 ((w.alloc (.cells (cellsU8 xs).toArray 32)).alloc (.cells (cellsU8 ys).toArray 32)) w.heap.size 32 xs := (alloc_blk8 w xs 32).alloc _
  have hB2 : Blk8 ((w.alloc (.cells (cellsU8 xs).toArray 32)).alloc (.cells (cellsU8 ys).toArray 32)) (w.heap.size + 1) 32 ys := by
    have := alloc_blk8 (w.alloc (.cells (cellsU8 xs).toArray 32)) ys 32
    rwa [show (w.alloc (.cells (cellsU8 xs).toArray 32)).heap.size = w.heap.size + 1 from by simp] at this
  have hBB : Below w.heap.size w ((w.alloc (.cells (cellsU8 xs).toArray 32)).alloc (.cells (cellsU8 ys).toArray 32)) := ((Below.refl _ _).alloc (Nat.le_refl _) _).alloc (by simp) _
  have hz0 : ((w.alloc (.cells (cellsU8 xs).toArray 32)).alloc (.cells (cellsU8 ys).toArray 32)).heap.size = w.heap.size + 2 := by simp
  go_enter Tryd.func5, Tryd.ntmps5
  go_upto_region 1 with fail
  generalize (w.alloc (.cells (cellsU8 xs).toArray 32)).alloc (.cells (cellsU8 ys).toArray 32) = w0 at *
  have HZ0 := Kept.mk hz0
  clear hz0
  go_wp2_with fail
  refine Calls.mono (awake_any w0 (HB.out.far hBB hn)) (fun e w1 hp => ?_)
  obtain ⟨rfl, hb1⟩ := hp
  have s1 := hb1.size
  have z1 : w.heap.size + 2 ≤ w1.heap.size := by rw [← HZ0.out]; exact s1
  have A1 := hB1.far hb1 (by rw [HZ0.out]; omega)
  have A2 := hB2.far hb1 (by rw [HZ0.out]; omega)
  have AB : Below w.heap.size w w1 := hBB.trans (hb1.mono hBB.size)
  clear hb1 hB1 hB2 hBB s1 HZ0
  go_wp2_with fail
  refine Calls.mono (parse_any s w1) (fun e w2 hp => ?_)
  obtain ⟨rfl, hb2⟩ := hp
  have s2 := hb2.size
  have C1 := A1.far hb2 (by omega)
  have C2 := A2.far hb2 (by omega)
  have CB : Below w.heap.size w w2 := AB.trans (hb2.mono (by omega))
  clear hb2 A1 A2 AB
  have hpl := parF_length s
  generalize hpf : parF s = pl at *
  generalize hpe : parE s = pe at *
  have HPF := Kept.mk hpf
  have HPE := Kept.mk hpe
  clear hpf hpe
  have HI := Kept.mk (info32 pl hpl)
  have HO := Kept.mk (all_oneCell_toArray (cellsU8_one pl))
  have HT : Kept ((w2.alloc (.cells #[.int .u8 0, .int .u8 0, .int .u8 0, .int .u8 0, .int .u8 0, .int .u8 0, .int .u8 0, .int .u8 0, .int .u8 0, .int .u8 0, .int .u8 0, .int .u8 0, .int .u8 0, .int .u8 0, .int .u8 0, .int .u8 0, .int .u8 0, .int .u8 0, .int .u8 0, .int .u8 0, .int .u8 0, .int .u8 0, .int .u8 0, .int .u8 0, .int .u8 0, .int .u8 0, .int .u8 0, .int .u8 0, .int .u8 0, .int .u8 0, .int .u8 0, .int .u8 0] 32)).there w2.heap.size 0 (cellsU8 pl).toArray.size) := ⟨(alloc_blk8 w2 (List.replicate 32 0) 32).there8 _ (by rw [List.size_toArray, cellsU8_length, hpl, List.length_replicate])⟩
  go_upto_region 4 with (refine wpList_store_mid rfl 32 _ _ rfl w2.heap.size 0 (cellsU8 pl).toArray rfl rfl HT.out HI.out.2 HO.out ?_)
  try simp only [Act.put]
  obtain ⟨w3, g7, hw3, hg7, E1, E2, E3, EB, ez, eg⟩ : ∃ w3 g7, (w2.alloc (.cells #[.int .u8 0, .int .u8 0, .int .u8 0, .int .u8 0, .int .u8 0, .int .u8 0, .int .u8 0, .int .u8 0, .int .u8 0, .int .u8 0, .int .u8 0, .int .u8 0, .int .u8 0, .int .u8 0, .int .u8 0, .int .u8 0, .int .u8 0, .int .u8 0, .int .u8 0, .int .u8 0, .int .u8 0, .int .u8 0, .int .u8 0, .int .u8 0, .int .u8 0, .int .u8 0, .int .u8 0, .int .u8 0, .int .u8 0, .int .u8 0, .int .u8 0, .int .u8 0] 32)).setCells w2.heap.size 0 (cellsU8 pl) = w3 ∧ w2.heap.size = g7 ∧ Blk8 w3 w.heap.size 32 xs ∧ Blk8 w3 (w.heap.size + 1) 32 ys ∧ Blk8 w3 g7 32 pl ∧ Below w.heap.size w w3 ∧ g7 < w3.heap.size ∧ w.heap.size + 2 ≤ g7 :=
    ⟨_, _, rfl, rfl, (C1.alloc _).cells_far (by omega) _, (C2.alloc _).cells_far (by omega) _, (alloc_blk8 w2 (List.replicate 32 0) 32).over8 (by rw [hpl, List.length_replicate]), below_cells (by omega) _ 0 w _ (CB.alloc (by omega) _), by rw [size_setCells]; simp, by omega⟩
  rw [hw3, hg7]
  clear hw3 hg7 HT C1 C2 CB
  go_wp2_with fail
  refine Calls.mono (docParse_any s w3) (fun e w4 hp => ?_)
  obtain ⟨rfl, hb4⟩ := hp
  rw [HPF.out, HPE.out]
  have s4 := hb4.size
  have F1 := E1.far hb4 (by omega)
  have F2 := E2.far hb4 (by omega)
  have F3 := E3.far hb4 ez
  have FB : Below w.heap.size w w4 := EB.trans (hb4.mono (by omega))
  clear hb4 E1 E2 E3 EB
  have HT : Kept ((w4.alloc (.cells #[.int .u8 0, .int .u8 0, .int .u8 0, .int .u8 0, .int .u8 0, .int .u8 0, .int .u8 0, .int .u8 0, .int .u8 0, .int .u8 0, .int .u8 0, .int .u8 0, .int .u8 0, .int .u8 0, .int .u8 0, .int .u8 0, .int .u8 0, .int .u8 0, .int .u8 0, .int .u8 0, .int .u8 0, .int .u8 0, .int .u8 0, .int .u8 0, .int .u8 0, .int .u8 0, .int .u8 0, .int .u8 0, .int .u8 0, .int .u8 0, .int .u8 0, .int .u8 0] 32)).there w4.heap.size 0 (cellsU8 pl).toArray.size) := ⟨(alloc_blk8 w4 (List.replicate 32 0) 32).there8 _ (by rw [List.size_toArray, cellsU8_length, hpl, List.length_replicate])⟩
  go_upto_region 5 with (refine wpList_store_mid rfl 32 _ _ rfl w4.heap.size 0 (cellsU8 pl).toArray rfl rfl HT.out HI.out.2 HO.out ?_)
  try simp only [Act.put]
  obtain ⟨w5, g9, hw5, hg9, G1, G2, G3, G4, GB, gz, gg⟩ : ∃ w5 g9, (w4.alloc (.cells #[.int .u8 0, .int .u8 0, .int .u8 0, .int .u8 0, .int .u8 0, .int .u8 0, .int .u8 0, .int .u8 0, .int .u8 0, .int .u8 0, .int .u8 0, .int .u8 0, .int .u8 0, .int .u8 0, .int .u8 0, .int .u8 0, .int .u8 0, .int .u8 0, .int .u8 0, .int .u8 0, .int .u8 0, .int .u8 0, .int .u8 0, .int .u8 0, .int .u8 0, .int .u8 0, .int .u8 0, .int .u8 0, .int .u8 0, .int .u8 0, .int .u8 0, .int .u8 0] 32)).setCells w4.heap.size 0 (cellsU8 pl) = w5 ∧ w4.heap.size = g9 ∧ Blk8 w5 w.heap.size 32 xs ∧ Blk8 w5 (w.heap.size + 1) 32 ys ∧ Blk8 w5 g7 32 pl ∧ Blk8 w5 g9 32 pl ∧ Below w.heap.size w w5 ∧ g9 < w5.heap.size ∧ g7 < g9 :=
    ⟨_, _, rfl, rfl, (F1.alloc _).cells_far (by omega) _, (F2.alloc _).cells_far (by omega) _, (F3.alloc _).cells_far (by omega) _, (alloc_blk8 w4 (List.replicate 32 0) 32).over8 (by rw [hpl, List.length_replicate]), below_cells (by omega) _ 0 w _ (FB.alloc (by omega) _), by rw [size_setCells]; simp, by omega⟩
  rw [hw5, hg9]
  clear hw5 hg9 HT F1 F2 F3 FB HPF HPE HB HO
  have RX : Kept (∀ w', CC w5 w' → w'.rangeAt w.heap.size 0 (cellsU8 xs)) := ⟨fun w' h => h.range G1 (by omega)⟩
  have RY : Kept (∀ w', CC w5 w' → w'.rangeAt (w.heap.size + 1) 0 (cellsU8 ys)) := ⟨fun w' h => h.range G2 (by omega)⟩
  have RP : Kept (∀ w', CC w5 w' → w'.rangeAt g7 0 (cellsU8 pl)) := ⟨fun w' h => h.range G3 (by omega)⟩
  have RQ : Kept (∀ w', CC w5 w' → w'.rangeAt g9 0 (cellsU8 pl)) := ⟨fun w' h => h.range G4 gz⟩
  have IX := Kept.mk (info32 xs hl)
  have IY := Kept.mk (info32 ys hm)
  have H20 : Kept (∀ w', CC w5 w' → Calls Tryd.prog 20 #[.agg (cellsU8 xs).toArray] w' fun e w'' => e = .returned (.string (strOfNums (hexF xs))) ∧ CC w5 w'') := ⟨fun w' h => (hex_any xs w' hl hA).mono fun e w'' hp => ⟨hp.1, h.on hp.2⟩⟩
  have H21 : Kept (∀ w', CC w5 w' → Calls Tryd.prog 21 #[.agg (cellsU8 xs).toArray] w' fun e w'' => e = .returned (.string (strOfNums (hexF xs))) ∧ CC w5 w'') := ⟨fun w' h => (rhex_any xs w' hl hA).mono fun e w'' hp => ⟨hp.1, h.on hp.2⟩⟩
  have H22 : Kept (∀ w', CC w5 w' → Calls Tryd.prog 22 #[.agg (cellsU8 xs).toArray, .agg (cellsU8 ys).toArray] w' fun e w'' => e = .returned (.int .i64 (cmpZ xs ys)) ∧ CC w5 w'') := ⟨fun w' h => (compare_any xs ys w' hl hm hA hY).mono fun e w'' hp => ⟨hp.1, h.on hp.2⟩⟩
  have H23 : Kept (∀ w', CC w5 w' → Calls Tryd.prog 23 #[.agg (cellsU8 xs).toArray, .agg (cellsU8 ys).toArray] w' fun e w'' => e = .returned (.int .i64 (cmpZ xs ys)) ∧ CC w5 w'') := ⟨fun w' h => (rcompare_any xs ys w' hl hm).mono fun e w'' hp => ⟨hp.1, h.on hp.2⟩⟩
  have hsame := fun W => same_ids W pl hpl
  generalize strOfNums (hexF xs) = hx at *
  generalize cmpZ xs ys = cz at *
  refine wp_region_quiet (C := CC w5) (by kernel_rfl) (by kernel_rfl) (Below.refl _ _).drew ?_
  refine BigFrame.wpQuiet_want rfl (fun K hK => quiet_load_mid 32 _ rfl g7 0 rfl (cellsU8 pl) _ RP.out Tryd.underlying32 rfl HI.out.1 (hK _ ?_))
  clear hK K
  simp only [Act.put, List.setIfInBounds_toArray, List.set_cons_zero, List.set_cons_succ]
  refine BigFrame.wpQuiet_want rfl (fun K hK => quiet_load_mid 32 _ rfl g9 0 rfl (cellsU8 pl) _ RQ.out Tryd.underlying32 rfl HI.out.1 (hK _ ?_))
  clear hK K
  simp only [Act.put, List.setIfInBounds_toArray, List.set_cons_zero, List.set_cons_succ]
  refine BigFrame.wpQuiet_want rfl (fun K hK => quiet_plain (v := .bool true) (fun W => by go_simp) (hK _ ?_))
  clear hK K
  simp only [Act.put, List.setIfInBounds_toArray, List.set_cons_zero, List.set_cons_succ]
  go_big_quiet_step (fail)
  go_big_quiet_step (fail)
  go_big_quiet_step (fail)
  refine BigFrame.wpQuiet_want rfl (fun K hK => quiet_plain (v := .bool true) (fun W => by go_simp) (hK _ ?_))
  clear hK K
  simp only [Act.put, List.setIfInBounds_toArray, List.set_cons_zero, List.set_cons_succ]
  refine BigFrame.wpQuiet_want rfl (fun K hK => quiet_plain (v := .bool true) (fun W => by go_simp) (hK _ ?_))
  clear hK K
  simp only [Act.put, List.setIfInBounds_toArray, List.set_cons_zero, List.set_cons_succ]
  go_big_quiet_step (fail)
  refine BigFrame.wpQuiet_want rfl (fun K hK => quiet_load_mid 32 _ rfl w.heap.size 0 rfl (cellsU8 xs) _ RX.out Tryd.underlying32 rfl IX.out.1 (hK _ ?_))
  clear hK K
  simp only [Act.put, List.setIfInBounds_toArray, List.set_cons_zero, List.set_cons_succ]
  go_big_quiet_step ((intro hCw; exact H20.out _ hCw))
  refine BigFrame.wpQuiet_want rfl (fun K hK => quiet_load_mid 32 _ rfl w.heap.size 0 rfl (cellsU8 xs) _ RX.out Tryd.underlying32 rfl IX.out.1 (hK _ ?_))
  clear hK K
  simp only [Act.put, List.setIfInBounds_toArray, List.set_cons_zero, List.set_cons_succ]
  go_big_quiet_step ((intro hCw; exact H21.out _ hCw))
  refine BigFrame.wpQuiet_want rfl (fun K hK => quiet_plain (v := .bool true) (fun W => by go_simp) (hK _ ?_))
  clear hK K
  simp only [Act.put, List.setIfInBounds_toArray, List.set_cons_zero, List.set_cons_succ]
  refine BigFrame.wpQuiet_want rfl (fun K hK => quiet_plain (v := .bool true) (fun W => by go_simp) (hK _ ?_))
  clear hK K
  simp only [Act.put, List.setIfInBounds_toArray, List.set_cons_zero, List.set_cons_succ]
  go_big_quiet_step (fail)
  refine BigFrame.wpQuiet_want rfl (fun K hK => quiet_load_mid 32 _ rfl w.heap.size 0 rfl (cellsU8 xs) _ RX.out Tryd.underlying32 rfl IX.out.1 (hK _ ?_))
  clear hK K
  simp only [Act.put, List.setIfInBounds_toArray, List.set_cons_zero, List.set_cons_succ]
  refine BigFrame.wpQuiet_want rfl (fun K hK => quiet_load_mid 32 _ rfl (w.heap.size + 1) 0 rfl (cellsU8 ys) _ RY.out Tryd.underlying32 rfl IY.out.1 (hK _ ?_))
  clear hK K
  simp only [Act.put, List.setIfInBounds_toArray, List.set_cons_zero, List.set_cons_succ]
  go_big_quiet_step ((intro hCw; exact H22.out _ hCw))
  refine BigFrame.wpQuiet_want rfl (fun K hK => quiet_load_mid 32 _ rfl w.heap.size 0 rfl (cellsU8 xs) _ RX.out Tryd.underlying32 rfl IX.out.1 (hK _ ?_))
  clear hK K
  simp only [Act.put, List.setIfInBounds_toArray, List.set_cons_zero, List.set_cons_succ]
  refine BigFrame.wpQuiet_want rfl (fun K hK => quiet_load_mid 32 _ rfl (w.heap.size + 1) 0 rfl (cellsU8 ys) _ RY.out Tryd.underlying32 rfl IY.out.1 (hK _ ?_))
  clear hK K
  simp only [Act.put, List.setIfInBounds_toArray, List.set_cons_zero, List.set_cons_succ]
  go_big_quiet_step ((intro hCw; exact H23.out _ hCw))
  refine BigFrame.wpQuiet_want rfl (fun K hK => quiet_plain (v := .bool true) (fun W => by go_simp) (hK _ ?_))
  clear hK K
  simp only [Act.put, List.setIfInBounds_toArray, List.set_cons_zero, List.set_cons_succ]
  refine BigFrame.wpQuiet_want rfl (fun K hK => quiet_plain (v := .bool true) (fun W => by go_simp) (hK _ ?_))
  clear hK K
  simp only [Act.put, List.setIfInBounds_toArray, List.set_cons_zero, List.set_cons_succ]
  go_big_quiet_step (fail)
  refine wpQuiet_nil ?_
  intro w' hC'
  go_wp2
  go_ret
  exact ⟨rfl, GB.trans (Below.mono hC' (by omega))⟩
end Go.Proofs.YtpleamahaogfiaaDoor
