/-
  The document's DocId.
-/
import Derived.Test.YtmnadnhabfflkaaDoorO11
namespace Go.Proofs.YtmnadnhabfflkaaDoor
open Go.RowKit

set_option maxHeartbeats 1000000 in
set_option maxRecDepth 100000 in
theorem docId_any (k : Int) (v : Value) (xs : List Int) (w : World) (hg : Gv w) (hr : Rd .u8 anyB w v xs) (hA : Sh.AllB xs) :
    Calls Tryd.prog 9 #[.agg #[.int .i64 k, v]] w fun e w' => e = .returned (.tuple #[.agg (idV (idR k xs)), .int .i64 (idE k xs.length)]) ∧ Below w.heap.size w w' := by
  obtain ⟨w2, hw2, hB2, hlt2, hc2⟩ := box_obj w k v
  have hR2 := hr.later hB2 (Nat.le_refl _)
  obtain ⟨a, c, rfl, hac, hlc, hcm⟩ := hr.form
  have KB2 := Kept.mk hB2
  have KC := Kept.mk hc2
  have KZi : Kept ((Tryd.prog.info? 29).map (·.size) = some (#[.int .u8 0, .int .u8 0, .int .u8 0, .int .u8 0, .int .u8 0, .int .u8 0, .int .u8 0, .int .u8 0, .int .u8 0, .int .u8 0, .int .u8 0, .int .u8 0, .int .u8 0, .int .u8 0, .int .u8 0, .int .u8 0, .int .u8 0, .int .u8 0, .int .u8 0, .int .u8 0, .int .u8 0, .int .u8 0, .int .u8 0, .int .u8 0, .int .u8 0, .int .u8 0, .int .u8 0, .int .u8 0, .int .u8 0, .int .u8 0, .int .u8 0, .int .u8 0] : Array Value).size) := ⟨by kernel_rfl⟩
  have KZo : Kept ((#[.int .u8 0, .int .u8 0, .int .u8 0, .int .u8 0, .int .u8 0, .int .u8 0, .int .u8 0, .int .u8 0, .int .u8 0, .int .u8 0, .int .u8 0, .int .u8 0, .int .u8 0, .int .u8 0, .int .u8 0, .int .u8 0, .int .u8 0, .int .u8 0, .int .u8 0, .int .u8 0, .int .u8 0, .int .u8 0, .int .u8 0, .int .u8 0, .int .u8 0, .int .u8 0, .int .u8 0, .int .u8 0, .int .u8 0, .int .u8 0, .int .u8 0, .int .u8 0] : Array Value).all (·.oneCell') = true) := ⟨by kernel_rfl⟩
  have KBs := basic_any k a xs.length c w2 (by unfold maxLen at hcm; omega)
  obtain ⟨c0, c1, -⟩ := hc2 w2 (Below.refl _ _)
  by_cases he : idE k xs.length = 0
  · have hl : xs.length ≤ 1048576 := by
      unfold idE at he
      by_cases h : 1048576 < xs.length
      · rw [if_pos h] at he; omega
      · omega
    have KI : Kept (idR k xs = idL k xs) := ⟨by unfold idR; rw [if_pos he]⟩
    have KE := Kept.mk he
    rw [he] at KBs
    have KBs := Kept.mk KBs
    have KRi : Kept (∀ w', Below w2.heap.size w2 w' → Calls Tryd.prog 19 #[.agg #[.int .i64 k, .slice a xs.length c]] w' fun e w3 => e = .returned (.agg (idV (idL k xs))) ∧ Below w'.heap.size w' w3) := ⟨fun w' h => rid_any k _ xs w' ((hg.later hB2).later h) (hR2.later h (Nat.le_refl _)) hA hl⟩
    obtain ⟨DV, hDV⟩ : ∃ DV, idV (idL k xs) = DV := ⟨_, rfl⟩
    have KDs : Kept (DV.size = 32) := ⟨by rw [← hDV]; unfold idV idL; rw [List.size_toArray, Sh.cellsU8_length, Sh.digF_length]⟩
    have KDi : Kept ((Tryd.prog.info? 29).map (·.size) = some DV.size) := ⟨by rw [KDs.out]; exact info_id⟩
    have KDo : Kept (DV.all (·.oneCell') = true) := ⟨by
      rw [← hDV]
      unfold idV
      rw [Array.all_eq_true_iff_forall_mem]
      intro x hx
      exact Sh.cellsU8_one _ x (by simpa using hx)⟩
    rw [hDV] at KRi
    have KDV := Kept.mk hDV
    clear hDV hB2 hc2 hr hR2 hac hlc hcm hg hA he hl
    go_enter Tryd.func9, Tryd.ntmps9
    go_wp2_with fail
    refine Calls.mono KBs.out (fun e w3 hp => ?_)
    obtain ⟨rfl, hb3⟩ := hp
    obtain ⟨d0, d1, -⟩ := KC.out w3 hb3
    have K23 := Kept.mk hb3
    clear hb3 c0 c1
    go_wp2_with fail
    refine Calls.mono (KRi.out w3 K23.out) (fun e w6 hp => ?_)
    obtain ⟨rfl, hb6⟩ := hp
    have hb26 := K23.out.trans (hb6.mono K23.out.size)
    have hrw := (KC.out w6 hb26).2.2
    have RW := Kept.mk hrw
    have hB6 := KB2.out.trans (hb26.mono KB2.out.size)
    have KB7 : Kept (Below w.heap.size w (w6.setRow (w.heap.size + 1) DV)) := ⟨below_setRow hB6 (by omega) _⟩
    have KRW : Kept ((w6.setRow (w.heap.size + 1) DV).heap[w.heap.size + 1]? = some (.cells DV 29)) := ⟨setRow_heap w6 (w.heap.size + 1) _ DV 29 (0, 0) hrw⟩
    clear hb6 hb26 hrw hB6 d0 d1
    go_wp2_with (first | (refine BigFrame.wpList_want rfl (fun K hK => wp_store_row 29 _ _ rfl (w.heap.size + 1) DV rfl rfl 29 _ RW.out KDi.out (by rw [KDs.out]; rfl) KDo.out (hK _ _ ?_))))
    refine bodyPost_ret (v := .tuple #[.agg DV, .int .i64 0]) (results_row2 (p := 2) (u := 3) (ty := 29) Tryd.results9 _ _ (w.heap.size + 1) 29 _ (0, 0) _ rfl KRW.out Tryd.underlying29 rfl KDi.out) rfl ⟨?_, KB7.out⟩
    rw [KE.out, KI.out, KDV.out]
  · have KI : Kept (idR k xs = z32) := ⟨by unfold idR; rw [if_neg he]⟩
    have hne : (idE k xs.length != 0) = true := by simpa using he
    generalize idE k xs.length = E at *
    have KBs := Kept.mk KBs
    clear hB2 hc2 hr hR2 hac hlc hcm hg hA he
    go_enter Tryd.func9, Tryd.ntmps9
    go_wp2_with fail
    refine Calls.mono KBs.out (fun e w3 hp => ?_)
    obtain ⟨rfl, hb3⟩ := hp
    have RW := Kept.mk (KC.out w3 hb3).2.2
    have KB3 := Kept.mk (KB2.out.trans (hb3.mono KB2.out.size))
    clear hb3 c0 c1
    go_wp2_with (first | (refine BigFrame.wpList_want rfl (fun K hK => wp_store_row 29 _ _ rfl (w.heap.size + 1) #[.int .u8 0, .int .u8 0, .int .u8 0, .int .u8 0, .int .u8 0, .int .u8 0, .int .u8 0, .int .u8 0, .int .u8 0, .int .u8 0, .int .u8 0, .int .u8 0, .int .u8 0, .int .u8 0, .int .u8 0, .int .u8 0, .int .u8 0, .int .u8 0, .int .u8 0, .int .u8 0, .int .u8 0, .int .u8 0, .int .u8 0, .int .u8 0, .int .u8 0, .int .u8 0, .int .u8 0, .int .u8 0, .int .u8 0, .int .u8 0, .int .u8 0, .int .u8 0] rfl rfl 29 #[.int .u8 0, .int .u8 0, .int .u8 0, .int .u8 0, .int .u8 0, .int .u8 0, .int .u8 0, .int .u8 0, .int .u8 0, .int .u8 0, .int .u8 0, .int .u8 0, .int .u8 0, .int .u8 0, .int .u8 0, .int .u8 0, .int .u8 0, .int .u8 0, .int .u8 0, .int .u8 0, .int .u8 0, .int .u8 0, .int .u8 0, .int .u8 0, .int .u8 0, .int .u8 0, .int .u8 0, .int .u8 0, .int .u8 0, .int .u8 0, .int .u8 0, .int .u8 0] RW.out KZi.out rfl KZo.out (hK _ _ ?_)); rw [setRow_self _ _ _ _ _ RW.out]))
    refine bodyPost_ret (v := .tuple #[.agg #[.int .u8 0, .int .u8 0, .int .u8 0, .int .u8 0, .int .u8 0, .int .u8 0, .int .u8 0, .int .u8 0, .int .u8 0, .int .u8 0, .int .u8 0, .int .u8 0, .int .u8 0, .int .u8 0, .int .u8 0, .int .u8 0, .int .u8 0, .int .u8 0, .int .u8 0, .int .u8 0, .int .u8 0, .int .u8 0, .int .u8 0, .int .u8 0, .int .u8 0, .int .u8 0, .int .u8 0, .int .u8 0, .int .u8 0, .int .u8 0, .int .u8 0, .int .u8 0], .int .i64 E]) (results_row2 (p := 2) (u := 3) (ty := 29) Tryd.results9 _ _ (w.heap.size + 1) 29 _ (0, 0) _ rfl RW.out Tryd.underlying29 rfl info_id) rfl ⟨?_, KB3.out⟩
    rw [KI.out, zv]
end Go.Proofs.YtmnadnhabfflkaaDoor
