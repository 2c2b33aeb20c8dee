/-
  The walk of ObjectIds.
-/
import Derived.Test.YtmnadnhabfflkaaDoorO13
namespace Go.Proofs.YtmnadnhabfflkaaDoor
open Go.RowKit

theorem idR_length (k : Int) (xs : List Int) : (idR k xs).length = 32 := by
  unfold idR
  split
  · unfold idL
    exact Sh.digF_length _
  · rfl
set_option maxHeartbeats 1000000 in
set_option maxRecDepth 100000 in
theorem ids_walk (k n : Int) (v : Value) (xs : List Int) (w : World) (hg : Gv w) (hr : Rd .u8 anyB w v xs) (hA : Sh.AllB xs) (hl : xs.length ≤ 140737488355328) (hn0 : -9223372036854775808 ≤ n) (hn1 : n < 9223372036854775808) :
    Calls Tryd.prog 3 #[.int .i64 k, .int .i64 n, v] w fun e w' => e = .returned (.bool true) ∧ Below w.heap.size w w' := by
  obtain ⟨pa, pc, rfl, -, -, -⟩ := hr.form
  have KA := Kept.mk (awake_any w hg)
  have KH1 : Kept (∀ w', Below w.heap.size w w' → Calls Tryd.prog 5 #[.int .i64 k, .int .i64 n] w' fun e w2 => e = .returned (.tuple #[.string (hdS k n), .int .i64 (hdE k n)]) ∧ Below w'.heap.size w' w2) := ⟨fun w' h => header_any k n w' (hg.later h) hn0 hn1⟩
  have KH2 : Kept (∀ w', Below w.heap.size w w' → Calls Tryd.prog 6 #[.int .i64 k, .int .i64 n] w' fun e w2 => e = .returned (.tuple #[.string (hdS k n), .int .i64 (hdE k n)]) ∧ Below w'.heap.size w' w2) := ⟨fun w' h => docHeader_any k n w' (hg.later h) hn0 hn1⟩
  have KT : Kept (∀ w', Below w.heap.size w w' → Calls Tryd.prog 8 #[.slice pa xs.length pc] w' fun e w2 => ∃ v', e = .returned v' ∧ Rd .u8 anyB w2 v' xs ∧ Below w'.heap.size w' w2) := ⟨fun w' h => (Sh.twin_any _ xs w' (shRd (hr.later h (Nat.le_refl _)) hA) hl).mono fun e w2 ⟨v', h1, h2, h3⟩ => ⟨v', h1, (show Own .u8 5 w2 w'.heap.size v' xs from h2).rd.any, h3⟩⟩
  have KI1 : Kept (∀ w' v', Below w.heap.size w w' → Rd .u8 anyB w' v' xs → Calls Tryd.prog 7 #[.agg #[.int .i64 k, v']] w' fun e w2 => e = .returned (.tuple #[.agg (idV (idR k xs)), .int .i64 (idE k xs.length)]) ∧ Below w'.heap.size w' w2) := ⟨fun w' v' h hr' => id_any k v' xs w' (hg.later h) hr' hA⟩
  have KI2 : Kept (∀ w', Below w.heap.size w w' → Calls Tryd.prog 9 #[.agg #[.int .i64 k, .slice pa xs.length pc]] w' fun e w2 => e = .returned (.tuple #[.agg (idV (idR k xs)), .int .i64 (idE k xs.length)]) ∧ Below w'.heap.size w' w2) := ⟨fun w' h => docId_any k _ xs w' (hg.later h) (hr.later h (Nat.le_refl _)) hA⟩
  have KSame : Kept (∀ w, (Op.equalIn 10000 29 (.agg (idV (idR k xs))) (.agg (idV (idR k xs)))).run Tryd.prog w = .ok true w) := ⟨fun w => same_id w _ (idR_length k xs)⟩
  unfold idV at KI1 KI2 KSame
  have hdl := idR_length k xs
  generalize hdS k n = HS at *
  generalize hdE k n = HE at *
  generalize idE k xs.length = IE at *
  generalize idR k xs = dl at *
  obtain ⟨DL, hDV⟩ : ∃ DL, Sh.cellsU8 dl = DL := ⟨_, rfl⟩
  have KDs : Kept (DL.toArray.size = 32) := ⟨by rw [← hDV, List.size_toArray, Sh.cellsU8_length, hdl]⟩
  have KDi : Kept ((Tryd.prog.info? 29).map (·.size) = some DL.toArray.size) := ⟨by rw [KDs.out]; exact info_id⟩
  have KDo : Kept (DL.toArray.all (·.oneCell') = true) := ⟨by
    rw [← hDV, Array.all_eq_true_iff_forall_mem]
    intro x hx
    exact Sh.cellsU8_one _ x (by simpa using hx)⟩
  rw [hDV] at KI1 KI2 KSame
  clear hDV hdl hg hr hA hl hn0 hn1
  go_enter Tryd.func3, Tryd.ntmps3
  go_wp2_with fail
  refine Calls.mono KA.out (fun e w1 hp => ?_)
  obtain ⟨rfl, hb⟩ := hp
  have KB1 := Kept.mk hb
  clear hb KA
  go_wp2_with fail
  refine Calls.mono (KH1.out w1 KB1.out) (fun e w2 hp => ?_)
  obtain ⟨rfl, hb⟩ := hp
  have KB2 := Kept.mk (KB1.out.trans (hb.mono KB1.out.size))
  clear hb KH1
  go_wp2_with fail
  refine Calls.mono (KH2.out w2 KB2.out) (fun e w3 hp => ?_)
  obtain ⟨rfl, hb⟩ := hp
  have KB3 := Kept.mk (KB2.out.trans (hb.mono KB2.out.size))
  clear hb KH2
  go_wp2_with fail
  refine Calls.mono (KT.out w3 KB3.out) (fun e w4 hp => ?_)
  obtain ⟨v4, rfl, hr4, hb⟩ := hp
  have hB4 := KB3.out.trans (hb.mono KB3.out.size)
  obtain ⟨a4, c4, rfl, -, -, -⟩ := hr4.form
  have KI1 := Kept.mk (KI1.out w4 _ hB4 hr4)
  have KB4 := Kept.mk hB4
  clear hb hB4 hr4 KT
  go_wp2_with fail
  refine Calls.mono KI1.out (fun e w5 hp => ?_)
  obtain ⟨rfl, hb⟩ := hp
  have KB5 := Kept.mk (KB4.out.trans (hb.mono KB4.out.size))
  clear hb KI1
  go_wp2_with (first | (refine BigFrame.wpList_want rfl (fun K hK => wp_store_row 29 _ _ rfl w5.heap.size DL.toArray rfl rfl 29 _ (heap_alloc_new w5 _) KDi.out (by rw [KDs.out]; rfl) KDo.out (hK _ _ ?_)); rw [World.setRow_alloc_new]))
  obtain ⟨w6, hw6, hB6, hrow6, hlt6⟩ : ∃ w6, w5.alloc (.cells DL.toArray 29) = w6 ∧ Below w5.heap.size w5 w6 ∧ w6.heap[w5.heap.size]? = some (.cells DL.toArray 29) ∧ w5.heap.size < w6.heap.size := ⟨_, rfl, (Below.refl _ _).alloc (Nat.le_refl _) _, heap_alloc_new w5 _, by simp⟩
  rw [hw6]
  have KB6 := Kept.mk (KB5.out.trans (hB6.mono KB5.out.size))
  have KR6 := Kept.mk hrow6
  clear hB6 hrow6 hw6
  refine Calls.mono (KI2.out w6 KB6.out) (fun e w7 hp => ?_)
  obtain ⟨rfl, hb⟩ := hp
  have KB7 := Kept.mk (KB6.out.trans (hb.mono KB6.out.size))
  have KR7 : Kept (w7.heap[w5.heap.size]? = some (.cells DL.toArray 29)) := ⟨by rw [hb.block _ hlt6]; exact KR6.out⟩
  have h57 : w5.heap.size < w7.heap.size := Nat.lt_of_lt_of_le hlt6 hb.size
  clear hb KI2
  have R85 : Kept ((w7.alloc (.cells DL.toArray 29)).heap[w5.heap.size]? = some (.cells DL.toArray 29)) := ⟨by rw [((Below.refl w7.heap.size w7).alloc (Nat.le_refl _) (.cells DL.toArray 29)).block _ h57]; exact KR7.out⟩
  have R87 := Kept.mk (heap_alloc_new w7 (.cells DL.toArray 29))
  have KB8 := Kept.mk (KB7.out.alloc KB7.out.size (.cells DL.toArray 29))
  have hsame := KSame.out
  go_wp2_with (first | (refine BigFrame.wpList_want rfl (fun K hK => wp_store_row 29 _ _ rfl w7.heap.size DL.toArray rfl rfl 29 _ (heap_alloc_new w7 _) KDi.out (by rw [KDs.out]; rfl) KDo.out (hK _ _ ?_)); rw [World.setRow_alloc_new]) | (refine BigFrame.wpList_want rfl (fun K hK => wp_load_row 29 _ rfl _ rfl _ DL.toArray _ _ R85.out Tryd.underlying29 rfl KDi.out (hK _ _ ?_))) | (refine BigFrame.wpList_want rfl (fun K hK => wp_load_row 29 _ rfl _ rfl _ DL.toArray _ _ R87.out Tryd.underlying29 rfl KDi.out (hK _ _ ?_))))
  go_ret
  exact ⟨rfl, KB8.out⟩
end Go.Proofs.YtmnadnhabfflkaaDoor
