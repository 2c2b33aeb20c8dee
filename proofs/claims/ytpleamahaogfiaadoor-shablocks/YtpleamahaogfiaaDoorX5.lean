/-
  Walks: the law ShaBlocks.
-/
import Derived.Test.YtpleamahaogfiaaDoorDB
import Derived.Test.YtpleamahaogfiaaDoorQ3
namespace Go.Proofs.YtpleamahaogfiaaDoor
open Go.RowKit

theorem wpAny_one {P : Program} {md : Region.Mode} {ops : Array Oper} {Q : Exit → Act → World → Prop} {fuel : Nat} {listed : Array Bool} {a : Act} {w : World} {i : Nat} {o : Oper} (hr : Region.ready md ops listed = [i]) (ho : ops[i]? = some o) (hw : Region.wanted o (yielded ops a.tmps) = true)
    (h : ∀ K : Act → World → Prop, (∀ a w, wpAny P md ops Q fuel (listed.setIfInBounds i true) a w → K a w) → o.wp P a w K Q) : wpAny P md ops Q (fuel + 1) listed a w := by
  refine ⟨fun h0 => (by rw [hr] at h0; cases h0), fun j hj => ?_⟩
  rw [hr] at hj
  obtain rfl : j = i := by simpa using hj
  unfold wpOp
  simp only [ho]
  rw [if_pos hw]
  exact .inl (h _ (fun _ _ h => h))

set_option maxHeartbeats 4000000 in
set_option maxRecDepth 100000 in
theorem shaBlocks_walk (s0 : St) (bs : List Int) (n : Int) (w : World) (hb : bs.length = 64) (hA : AllB bs) (hok : s0.ok) (h0 : -9223372036854775808 ≤ n) (h1 : n < 9223372036854775808) (hB : Tab w ksK) :
    Calls Tryd.prog 3 #[.agg (cellsU32 s0.list).toArray, .agg (cellsU8 bs).toArray, .int .i64 n] w fun e w' => e = .returned (.bool true) ∧ Below w.heap.size w w' := by
  have HB := Kept.mk hB
  have hn : 0 < w.heap.size := hB.1
  clear hB
  have b0 : Blk ((w.alloc (.cells (cellsU32 s0.list).toArray 23)).alloc (.cells (cellsU8 bs).toArray 24)) w.heap.size 23 s0.list := (alloc_blk w s0.list 23).alloc _
  have b1 : Blk8 ((w.alloc (.cells (cellsU32 s0.list).toArray 23)).alloc (.cells (cellsU8 bs).toArray 24)) (w.heap.size + 1) 24 bs := by
    have := alloc_blk8 (w.alloc (.cells (cellsU32 s0.list).toArray 23)) bs 24
    rwa [show (w.alloc (.cells (cellsU32 s0.list).toArray 23)).heap.size = w.heap.size + 1 from by simp] at this
  have hbel : Below w.heap.size w ((w.alloc (.cells (cellsU32 s0.list).toArray 23)).alloc (.cells (cellsU8 bs).toArray 24)) := ((Below.refl _ _).alloc (Nat.le_refl _) _).alloc (by simp) _
  have hz : ((w.alloc (.cells (cellsU32 s0.list).toArray 23)).alloc (.cells (cellsU8 bs).toArray 24)).heap.size = w.heap.size + 2 := by simp
  have hl1 : s0.list.length = 8 := rfl
  have hsame := fun W => same_words W ((rdF s0 ksK (schF bs 64) 64).add s0).list rfl
  go_enter Tryd.func3, Tryd.ntmps3
  go_upto_region 1 with fail
  generalize (w.alloc (.cells (cellsU32 s0.list).toArray 23)).alloc (.cells (cellsU8 bs).toArray 24) = W at *
  have RH : Kept (∀ w', CC W w' → w'.rangeAt w.heap.size 0 (cellsU32 s0.list)) := ⟨fun w' h => (b0.far h (by omega)).range⟩
  have RB : Kept (∀ w', CC W w' → w'.rangeAt (w.heap.size + 1) 0 (cellsU8 bs)) := ⟨fun w' h => (b1.far h (by omega)).range⟩
  have IH := Kept.mk (info23 s0.list hl1).1
  have IB := Kept.mk (info24 bs hb)
  have HT : Kept (∀ w', CC W w' → Tab w' ksK) := ⟨fun w' h => (HB.out.far hbel hn).far h (by omega)⟩
  have H9 : Kept (∀ w', CC W w' → Calls Tryd.prog 9 #[] w' fun e w'' => e = .returned (.bool true) ∧ CC W w'') := ⟨fun w' h => (awake_any w' (HT.out w' h)).mono fun e w'' hp => ⟨hp.1, h.on hp.2⟩⟩
  have H10 : Kept (∀ w', CC W w' → Calls Tryd.prog 10 #[.agg (cellsU32 s0.list).toArray, .agg (cellsU8 bs).toArray] w' fun e w'' => e = .returned (.agg (cellsU32 ((rdF s0 ksK (schF bs 64) 64).add s0).list).toArray) ∧ CC W w'') := ⟨fun w' h => (block_any s0 _ bs _ ksK w' hb hA ksK_length (HT.out w' h) hok ⟨rfl⟩ ⟨rfl⟩).mono fun e w'' hp => ⟨hp.1, h.on hp.2⟩⟩
  have H11 : Kept (∀ w', CC W w' → Calls Tryd.prog 11 #[.agg (cellsU32 s0.list).toArray, .agg (cellsU8 bs).toArray] w' fun e w'' => e = .returned (.agg (cellsU32 ((rdF s0 ksK (schF bs 64) 64).add s0).list).toArray) ∧ CC W w'') := ⟨fun w' h => (docBlock_any s0 _ bs _ w' hb hA hok ⟨rfl⟩ ⟨rfl⟩).mono fun e w'' hp => ⟨hp.1, h.on hp.2⟩⟩
  clear HT HB b0 b1 hl1
  generalize ((rdF s0 ksK (schF bs 64) 64).add s0).list = rl at *
  generalize s0.list = sl at *
  refine wp_region_part (C := CC W) 10 7 #[true, true, true, true, true, true, true, true, true, true, true, false, false, false, false, false, false, false] (by kernel_rfl) (by kernel_rfl) (Below.refl _ _).drew ?_
  simp only [List.take_succ_cons, List.take_zero]
  go_big_quiet_step ((intro hCw; exact H9.out _ hCw))
  go_big_quiet_step (fail)
  refine BigFrame.wpQuiet_want rfl (fun K hK => quiet_load_mid 23 _ rfl w.heap.size 0 rfl (cellsU32 sl) _ RH.out Tryd.underlying23 rfl IH.out (hK _ ?_))
  clear hK K
  simp only [Act.put, List.setIfInBounds_toArray, List.set_cons_zero, List.set_cons_succ]
  refine BigFrame.wpQuiet_want rfl (fun K hK => quiet_load_mid 24 _ rfl (w.heap.size + 1) 0 rfl (cellsU8 bs) _ RB.out Tryd.underlying24 rfl IB.out (hK _ ?_))
  clear hK K
  simp only [Act.put, List.setIfInBounds_toArray, List.set_cons_zero, List.set_cons_succ]
  go_big_quiet_step ((intro hCw; exact H10.out _ hCw))
  refine BigFrame.wpQuiet_want rfl (fun K hK => quiet_load_mid 23 _ rfl w.heap.size 0 rfl (cellsU32 sl) _ RH.out Tryd.underlying23 rfl IH.out (hK _ ?_))
  clear hK K
  simp only [Act.put, List.setIfInBounds_toArray, List.set_cons_zero, List.set_cons_succ]
  refine BigFrame.wpQuiet_want rfl (fun K hK => quiet_load_mid 24 _ rfl (w.heap.size + 1) 0 rfl (cellsU8 bs) _ RB.out Tryd.underlying24 rfl IB.out (hK _ ?_))
  clear hK K
  simp only [Act.put, List.setIfInBounds_toArray, List.set_cons_zero, List.set_cons_succ]
  go_big_quiet_step ((intro hCw; exact H11.out _ hCw))
  refine BigFrame.wpQuiet_want rfl (fun K hK => quiet_plain (v := .bool true) (fun W => by go_simp) (hK _ ?_))
  clear hK K
  simp only [Act.put, List.setIfInBounds_toArray, List.set_cons_zero, List.set_cons_succ]
  refine BigFrame.wpQuiet_want rfl (fun K hK => quiet_plain (v := .bool true) (fun W => by go_simp) (hK _ ?_))
  clear hK K
  simp only [Act.put, List.setIfInBounds_toArray, List.set_cons_zero, List.set_cons_succ]
  go_big_quiet_step (fail)
  refine wpQuiet_nil ?_
  intro w' hC'
  have KB : Below w.heap.size w w' := hbel.trans (Below.mono hC' hbel.size)
  clear RH RB IH IB H9 H10 H11 hsame hbel hC' hz
  refine wpAny_take (i := 11) (v := .int .i64 n) rfl (by kernel_rfl) (by kernel_rfl) (by kernel_rfl) (fun _ _ _ h => h) (Or.inl ⟨rfl, fun W => by rfl⟩) ?_
  simp only [Act.put, List.setIfInBounds_toArray, List.set_cons_zero, List.set_cons_succ]
  refine wpAny_take (i := 13) (v := .int .i64 n) rfl (by kernel_rfl) (by kernel_rfl) (by kernel_rfl) (fun _ _ _ h => h) (Or.inl ⟨rfl, fun W => by rfl⟩) ?_
  simp only [Act.put, List.setIfInBounds_toArray, List.set_cons_zero, List.set_cons_succ]
  refine wpAny_one (i := 12) (by kernel_rfl) rfl rfl (fun K hK => ?_)
  go_simp
  refine Calls.mono (pad_any n (if n < 0 then 0 else n.toNat) w' rfl h0 h1) (fun e w1 hp => ?_)
  obtain ⟨v1, rfl, ho1, hb1⟩ := hp
  refine hK _ _ ?_
  clear hK K
  refine wpAny_one (i := 14) (by kernel_rfl) rfl rfl (fun K hK => ?_)
  go_simp
  refine Calls.mono (docPad_any n (if n < 0 then 0 else n.toNat) w1 rfl h0 h1) (fun e w2 hp => ?_)
  obtain ⟨v2, rfl, ho2, hb2⟩ := hp
  refine hK _ _ ?_
  clear hK K
  have hAp := padF_allB (if n < 0 then 0 else n.toNat)
  have r1 := Rd.own (ho1.later hb2 (Nat.le_refl _)) hAp
  have r2 := Rd.own ho2 hAp
  have KB2 : Below w.heap.size w w2 := (KB.trans (hb1.mono KB.size)).trans (hb2.mono (Nat.le_trans KB.size hb1.size))
  refine wpAny_one (i := 15) (by kernel_rfl) rfl rfl (fun K hK => ?_)
  go_simp
  refine Calls.mono (same_any v1 v2 _ _ w2 r1 r2) (fun e w3 hp => ?_)
  obtain ⟨rfl, hw3⟩ := hp
  subst hw3
  refine hK _ _ ?_
  clear hK K r1 r2 ho1 ho2 hb1 hb2 KB hAp
  rw [show decide (padF (if n < 0 then 0 else n.toNat) = padF (if n < 0 then 0 else n.toNat)) = true from decide_eq_true rfl]
  refine wpAny_one (i := 16) (by kernel_rfl) rfl rfl (fun K hK => ?_)
  go_simp
  refine hK _ _ ?_
  clear hK K
  refine wpAny_one (i := 17) (by kernel_rfl) rfl rfl (fun K hK => ?_)
  go_simp
  refine hK _ _ ?_
  clear hK K
  refine wpAny_done (by kernel_rfl) (NoPanic.normal ?_) _
  go_wp2
  go_ret
  exact ⟨rfl, KB2⟩
end Go.Proofs.YtpleamahaogfiaaDoor
