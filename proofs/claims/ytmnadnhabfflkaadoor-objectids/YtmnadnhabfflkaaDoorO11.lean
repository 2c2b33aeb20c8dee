/-
  The document's basic, Id, DocId.
-/
import Derived.Test.YtmnadnhabfflkaaDoorO10
import Derived.Test.YtmnadnhabfflkaaDoorQ2
import Derived.Test.YtmnadnhabfflkaaDoorShR
import Derived.Test.YtmnadnhabfflkaaDoorShR
namespace Go.Proofs.YtmnadnhabfflkaaDoor
open Go.RowKit

/-- An object in a block of the call's own. -/
theorem box_ob (w : World) (k : Int) (v : Value) : ∃ w2, w.alloc (.cells #[.int .i64 k, v] 34) = w2 ∧ Below w.heap.size w w2 ∧ w.heap.size < w2.heap.size ∧ ∀ w', Below w2.heap.size w2 w' → w'.cell? ⟨w.heap.size, 0, none⟩ = some (.int .i64 k) ∧ w'.cell? ⟨w.heap.size, 1, none⟩ = some v := by
  have hlt : w.heap.size < (w.alloc (.cells #[.int .i64 k, v] 34)).heap.size := by simp
  refine ⟨_, rfl, (Below.refl _ _).alloc (Nat.le_refl _) _, hlt, fun w' hw => ⟨?_, ?_⟩⟩
  · rw [hw.cell (p := ⟨w.heap.size, 0, none⟩) hlt]
    exact alloc_cell _ _ _ _ _ rfl
  · rw [hw.cell (p := ⟨w.heap.size, 1, none⟩) hlt]
    exact alloc_cell _ _ _ _ _ rfl
set_option maxHeartbeats 2000000 in
set_option maxRecDepth 100000 in
theorem basic_any (k : Int) (a : Option Addr) (n c : Nat) (w : World) (hn : n ≤ 9223372036854775807) : Calls Tryd.prog 18 #[.agg #[.int .i64 k, .slice a n c]] w fun e w' => e = .returned (.int .i64 (idE k n)) ∧ Below w.heap.size w w' := by
  obtain ⟨w2, hw2, hB2, hlt2, hc2⟩ := box_ob w k (.slice a n c)
  have KB2 := Kept.mk hB2
  obtain ⟨c0, c1⟩ := hc2 w2 (Below.refl _ _)
  clear hB2 hc2
  have KW : Kept (∀ w, Calls Tryd.prog 16 #[.int .i64 k] w fun e w' => e = .returned (.string (wdF k)) ∧ w' = w) := ⟨rword_any k⟩
  have hwe := wd_empty k
  generalize wdF k = D at KW hwe
  have KIt : Kept (∀ (e : Int) w, Calls Tryd.prog 15 #[.bool true, .int .i64 e] w fun x w' => x = .returned (.int .i64 e) ∧ w' = w) := ⟨fun e w => if_any true e w⟩
  have KIf : Kept (∀ (e : Int) w, Calls Tryd.prog 15 #[.bool false, .int .i64 e] w fun x w' => x = .returned (.int .i64 0) ∧ w' = w) := ⟨fun e w => if_any false e w⟩
  have KLs : Kept (∀ (a b : Int) (g : Nat) (w : World), w.heap[g]? = some (.cells #[.int .i64 a, .int .i64 b] 24) → Calls Tryd.prog 14 #[.slice (some ⟨g, 0, none⟩) 2 2] w fun e w' => e = .returned (.int .i64 (lsF (lsF 0 a) b)) ∧ w' = w) := ⟨fun a b g w h => least_two a b g w h⟩
  by_cases h1 : 1048576 < n
  · cases hk : isK k
    · have hk' := hwe
      rw [hk] at hk'
      have hwe' : (D.toList == []) = true := hk'
      have hld : decide ((1048576 : Int) < (n : Int)) = true := by simp; omega
      have KE : Kept (idE k n = 2) := ⟨by unfold idE; rw [if_pos h1]⟩
      have K9 : Kept (∀ w, Calls Tryd.prog 15 #[.bool true, .int .i64 9] w fun x w' => x = .returned (.int .i64 9) ∧ w' = w) := ⟨KIt.out 9⟩
      have K2 : Kept (∀ w, Calls Tryd.prog 15 #[.bool true, .int .i64 2] w fun x w' => x = .returned (.int .i64 2) ∧ w' = w) := ⟨KIt.out 2⟩
      clear hwe hk hk' h1 KIt KIf
      go_enter Tryd.func18, Tryd.ntmps18
      go_upto_region 1 with fail
      refine wp_region_tail 0 10 2 (by kernel_rfl) (by kernel_rfl) ?_
      simp only [List.take_succ_cons, List.take_zero, List.drop_succ_cons, List.drop_zero, List.foldl_nil]
      repeat (go_big_quiet_step ((first | (go_at_call 16; exact Calls.quiet_of_same (KW.out _)) | (go_at_call 15; first | exact Calls.quiet_of_same (K9.out _) | exact Calls.quiet_of_same (K2.out _)))))
      refine wpQuiet_nil ?_
      intro m
      have KB3 := Kept.mk (below_drewN KB2.out m)
      generalize w2.drewN m = w3 at *
      have KL := Kept.mk (KLs.out 9 2 w3.heap.size (w3.alloc (.cells #[.int .i64 9, .int .i64 2] 24)) (heap_alloc_new w3 _))
      have KB4 := Kept.mk (KB3.out.alloc KB3.out.size (.cells #[.int .i64 9, .int .i64 2] 24))
      rw [show lsF (lsF 0 9) 2 = 2 by decide] at KL
      refine wpTail_step (fun K hK => ?_)
      go_simp
      refine hK _ _ ?_
      clear hK K
      refine wpTail_step (fun K hK => ?_)
      go_simp
      refine Calls.mono KL.out (fun e w5 hp => ?_)
      obtain ⟨rfl, rfl⟩ := hp
      refine hK _ _ ?_
      clear hK K
      refine wpTail_step (fun K hK => ?_)
      go_simp
      refine hK _ _ (wpTail_nil (NoPanic.normal ?_))
      clear hK K
      go_wp2
      go_ret
      rw [KE.out]
      exact ⟨rfl, KB4.out⟩
    · have hk' := hwe
      rw [hk] at hk'
      have hwe' : (D.toList == []) = false := hk'
      have hld : decide ((1048576 : Int) < (n : Int)) = true := by simp; omega
      have KE : Kept (idE k n = 2) := ⟨by unfold idE; rw [if_pos h1]⟩
      have K9 : Kept (∀ w, Calls Tryd.prog 15 #[.bool false, .int .i64 9] w fun x w' => x = .returned (.int .i64 0) ∧ w' = w) := ⟨KIf.out 9⟩
      have K2 : Kept (∀ w, Calls Tryd.prog 15 #[.bool true, .int .i64 2] w fun x w' => x = .returned (.int .i64 2) ∧ w' = w) := ⟨KIt.out 2⟩
      clear hwe hk hk' h1 KIt KIf
      go_enter Tryd.func18, Tryd.ntmps18
      go_upto_region 1 with fail
      refine wp_region_tail 0 10 2 (by kernel_rfl) (by kernel_rfl) ?_
      simp only [List.take_succ_cons, List.take_zero, List.drop_succ_cons, List.drop_zero, List.foldl_nil]
      repeat (go_big_quiet_step ((first | (go_at_call 16; exact Calls.quiet_of_same (KW.out _)) | (go_at_call 15; first | exact Calls.quiet_of_same (K9.out _) | exact Calls.quiet_of_same (K2.out _)))))
      refine wpQuiet_nil ?_
      intro m
      have KB3 := Kept.mk (below_drewN KB2.out m)
      generalize w2.drewN m = w3 at *
      have KL := Kept.mk (KLs.out 0 2 w3.heap.size (w3.alloc (.cells #[.int .i64 0, .int .i64 2] 24)) (heap_alloc_new w3 _))
      have KB4 := Kept.mk (KB3.out.alloc KB3.out.size (.cells #[.int .i64 0, .int .i64 2] 24))
      rw [show lsF (lsF 0 0) 2 = 2 by decide] at KL
      refine wpTail_step (fun K hK => ?_)
      go_simp
      refine hK _ _ ?_
      clear hK K
      refine wpTail_step (fun K hK => ?_)
      go_simp
      refine Calls.mono KL.out (fun e w5 hp => ?_)
      obtain ⟨rfl, rfl⟩ := hp
      refine hK _ _ ?_
      clear hK K
      refine wpTail_step (fun K hK => ?_)
      go_simp
      refine hK _ _ (wpTail_nil (NoPanic.normal ?_))
      clear hK K
      go_wp2
      go_ret
      rw [KE.out]
      exact ⟨rfl, KB4.out⟩
  · cases hk : isK k
    · have hk' := hwe
      rw [hk] at hk'
      have hwe' : (D.toList == []) = true := hk'
      have hld : decide ((1048576 : Int) < (n : Int)) = false := by simp; omega
      have KE : Kept (idE k n = 9) := ⟨by unfold idE; rw [if_neg h1, hk]; rfl⟩
      have K9 : Kept (∀ w, Calls Tryd.prog 15 #[.bool true, .int .i64 9] w fun x w' => x = .returned (.int .i64 9) ∧ w' = w) := ⟨KIt.out 9⟩
      have K2 : Kept (∀ w, Calls Tryd.prog 15 #[.bool false, .int .i64 2] w fun x w' => x = .returned (.int .i64 0) ∧ w' = w) := ⟨KIf.out 2⟩
      clear hwe hk hk' h1 KIt KIf
      go_enter Tryd.func18, Tryd.ntmps18
      go_upto_region 1 with fail
      refine wp_region_tail 0 10 2 (by kernel_rfl) (by kernel_rfl) ?_
      simp only [List.take_succ_cons, List.take_zero, List.drop_succ_cons, List.drop_zero, List.foldl_nil]
      repeat (go_big_quiet_step ((first | (go_at_call 16; exact Calls.quiet_of_same (KW.out _)) | (go_at_call 15; first | exact Calls.quiet_of_same (K9.out _) | exact Calls.quiet_of_same (K2.out _)))))
      refine wpQuiet_nil ?_
      intro m
      have KB3 := Kept.mk (below_drewN KB2.out m)
      generalize w2.drewN m = w3 at *
      have KL := Kept.mk (KLs.out 9 0 w3.heap.size (w3.alloc (.cells #[.int .i64 9, .int .i64 0] 24)) (heap_alloc_new w3 _))
      have KB4 := Kept.mk (KB3.out.alloc KB3.out.size (.cells #[.int .i64 9, .int .i64 0] 24))
      rw [show lsF (lsF 0 9) 0 = 9 by decide] at KL
      refine wpTail_step (fun K hK => ?_)
      go_simp
      refine hK _ _ ?_
      clear hK K
      refine wpTail_step (fun K hK => ?_)
      go_simp
      refine Calls.mono KL.out (fun e w5 hp => ?_)
      obtain ⟨rfl, rfl⟩ := hp
      refine hK _ _ ?_
      clear hK K
      refine wpTail_step (fun K hK => ?_)
      go_simp
      refine hK _ _ (wpTail_nil (NoPanic.normal ?_))
      clear hK K
      go_wp2
      go_ret
      rw [KE.out]
      exact ⟨rfl, KB4.out⟩
    · have hk' := hwe
      rw [hk] at hk'
      have hwe' : (D.toList == []) = false := hk'
      have hld : decide ((1048576 : Int) < (n : Int)) = false := by simp; omega
      have KE : Kept (idE k n = 0) := ⟨by unfold idE; rw [if_neg h1, hk]; rfl⟩
      have K9 : Kept (∀ w, Calls Tryd.prog 15 #[.bool false, .int .i64 9] w fun x w' => x = .returned (.int .i64 0) ∧ w' = w) := ⟨KIf.out 9⟩
      have K2 : Kept (∀ w, Calls Tryd.prog 15 #[.bool false, .int .i64 2] w fun x w' => x = .returned (.int .i64 0) ∧ w' = w) := ⟨KIf.out 2⟩
      clear hwe hk hk' h1 KIt KIf
      go_enter Tryd.func18, Tryd.ntmps18
      go_upto_region 1 with fail
      refine wp_region_tail 0 10 2 (by kernel_rfl) (by kernel_rfl) ?_
      simp only [List.take_succ_cons, List.take_zero, List.drop_succ_cons, List.drop_zero, List.foldl_nil]
      repeat (go_big_quiet_step ((first | (go_at_call 16; exact Calls.quiet_of_same (KW.out _)) | (go_at_call 15; first | exact Calls.quiet_of_same (K9.out _) | exact Calls.quiet_of_same (K2.out _)))))
      refine wpQuiet_nil ?_
      intro m
      have KB3 := Kept.mk (below_drewN KB2.out m)
      generalize w2.drewN m = w3 at *
      have KL := Kept.mk (KLs.out 0 0 w3.heap.size (w3.alloc (.cells #[.int .i64 0, .int .i64 0] 24)) (heap_alloc_new w3 _))
      have KB4 := Kept.mk (KB3.out.alloc KB3.out.size (.cells #[.int .i64 0, .int .i64 0] 24))
      rw [show lsF (lsF 0 0) 0 = 0 by decide] at KL
      refine wpTail_step (fun K hK => ?_)
      go_simp
      refine hK _ _ ?_
      clear hK K
      refine wpTail_step (fun K hK => ?_)
      go_simp
      refine Calls.mono KL.out (fun e w5 hp => ?_)
      obtain ⟨rfl, rfl⟩ := hp
      refine hK _ _ ?_
      clear hK K
      refine wpTail_step (fun K hK => ?_)
      go_simp
      refine hK _ _ (wpTail_nil (NoPanic.normal ?_))
      clear hK K
      go_wp2
      go_ret
      rw [KE.out]
      exact ⟨rfl, KB4.out⟩
set_option maxHeartbeats 1000000 in
set_option maxRecDepth 100000 in
theorem rid_any (k : Int) (v : Value) (xs : List Int) (w : World) (hg : Gv w) (hr : Rd .u8 anyB w v xs) (hA : Sh.AllB xs) (hl : xs.length ≤ 1048576) :
    Calls Tryd.prog 19 #[.agg #[.int .i64 k, v]] w fun e w' => e = .returned (.agg (idV (idL k xs))) ∧ Below w.heap.size w w' := by
  obtain ⟨w2, hw2, hB2, hlt2, hc2⟩ := box_obj w k v
  have KR := Kept.mk (hr.later hB2 (Nat.le_refl _))
  obtain ⟨a, c, rfl, hac, hlc, hcm⟩ := hr.form
  have KB2 := Kept.mk hB2
  have KC := Kept.mk hc2
  have KHd := rheader_any k (xs.length : Int) w2 (hg.later hB2) (by omega) (by omega)
  have hHs : (hdB k (xs.length : Int)).size ≤ 1000 := by
    unfold hdB
    have h1 := wd_size k
    have h2 := itoa_size (n := (xs.length : Int)) (by omega) (by omega)
    rw [size_cat, size_cat, size_cat]
    have e1 : (⟨#[32]⟩ : ByteArray).size = 1 := rfl
    have e2 : (⟨#[0]⟩ : ByteArray).size = 1 := rfl
    omega
  have KL : Kept (idL k xs = Sh.digF (Sh.sumS Sh.ksK (strL (hdB k xs.length) ++ xs)).list) := ⟨rfl⟩
  generalize hdB k (xs.length : Int) = HS at *
  have KHd := Kept.mk KHd
  have KA := Kept.mk hA
  have KG := Kept.mk (hg.later hB2)
  obtain ⟨c0, c1, -⟩ := hc2 w2 (Below.refl _ _)
  obtain ⟨i0, z0, hi, hz, hsz, hbb, hzc⟩ := info8
  have KHs := Kept.mk hHs
  clear hB2 hc2 hr hac hlc hcm hg hA
  go_enter Tryd.func19, Tryd.ntmps19
  go_wp2_with fail
  refine Calls.mono KHd.out (fun e w3 hp => ?_)
  obtain ⟨rfl, hb3⟩ := hp
  have K23 := Kept.mk hb3
  clear hb3 c0 c1
  go_wp2_with (first | (at_builtin; refine wpList_append_s _ rfl _ _ rfl w2.heap.size (.slice none 0 0) [] rfl (Own.nil _ _ _ _) HS rfl (by simp; omega) K23.out.size ?_; intro p4 w4 ho4 hg4; have KB4 := Kept.mk (K23.out.grown hg4 K23.out.size (fun k hk => by cases hk)); rw [List.nil_append] at ho4; have KO4 := Kept.mk ho4; obtain ⟨a4, n4, rfl, -, -, -⟩ := ho4.rd.form; obtain ⟨d0, d1, -⟩ := KC.out w4 KB4.out; have KR4 := Kept.mk (KR.out.later KB4.out (Nat.le_refl _)); clear ho4 hg4) | (at_builtin; refine wpList_append_rd _ rfl _ _ 22 rfl .u8 anyB 1 w2.heap.size 5 i0 z0 Tryd.underlying22 hi hz hsz hbb hzc (by omega) _ (strL HS) rfl KO4.out _ xs rfl KR4.out (by have := KHs.out; have := strL_length HS; omega) KB4.out.size ?_; intro p5 w5 ho5 hg5 hat5; have KB5 := Kept.mk (KB4.out.grown hg5 KB4.out.size (fun k hk => (KO4.out.lt k hk).1)); have KO5 := Kept.mk ho5; clear ho5 hg5 hat5 d0 d1))
  have KSm := Sh.rsum_any p5 (strL HS ++ xs) w5 (shRd KO5.out.rd (allB_cat (strL_allB HS) KA.out))
  rw [← KL.out] at KSm
  obtain ⟨DV, hDV⟩ : ∃ DV, (Sh.cellsU8 (idL k xs)).toArray = DV := ⟨_, rfl⟩
  have KDs : Kept (DV.size = 32) := ⟨by rw [← hDV, KL.out, List.size_toArray, Sh.cellsU8_length, Sh.digF_length]⟩
  have KDi : Kept ((Tryd.prog.info? 29).map (·.size) = some DV.size) := ⟨by rw [KDs.out]; exact info_id⟩
  have KDo : Kept (DV.all (·.oneCell') = true) := ⟨by
    rw [← hDV, Array.all_eq_true_iff_forall_mem]
    intro x hx
    exact Sh.cellsU8_one _ x (by simpa using hx)⟩
  rw [hDV] at KSm
  have KDV : Kept (idV (idL k xs) = DV) := ⟨hDV⟩
  have KSm := Kept.mk KSm
  clear hDV
  refine Calls.mono KSm.out (fun e w6 hp => ?_)
  obtain ⟨rfl, hb6⟩ := hp
  have hb26 := KB5.out.trans (hb6.mono KB5.out.size)
  have hrw := (KC.out w6 hb26).2.2
  have RW := Kept.mk hrw
  have hB6 := KB2.out.trans (hb26.mono KB2.out.size)
  have KB7 : Kept (Below w.heap.size w (w6.setRow (w.heap.size + 1) DV)) := ⟨below_setRow hB6 (by omega) _⟩
  have KRW : Kept ((w6.setRow (w.heap.size + 1) DV).heap[w.heap.size + 1]? = some (.cells DV 29)) := ⟨setRow_heap w6 (w.heap.size + 1) _ DV 29 (0, 0) hrw⟩
  clear hb6 hb26 hrw hB6
  go_wp2_with (first | (refine BigFrame.wpList_want rfl (fun K hK => wp_store_row 29 _ _ rfl (w.heap.size + 1) DV rfl rfl 29 _ RW.out KDi.out (by rw [KDs.out]; rfl) KDo.out (hK _ _ ?_))))
  refine bodyPost_ret (v := .agg DV) (results_cell_row (p := 2) (ty := 29) Tryd.results19 _ _ (w.heap.size + 1) 29 _ (0, 0) _ rfl KRW.out Tryd.underlying29 rfl KDi.out) rfl ⟨?_, KB7.out⟩
  rw [KDV.out]
end Go.Proofs.YtmnadnhabfflkaaDoor
