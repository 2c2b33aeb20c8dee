/-
  Walks: PutSpan.
-/
import Derived.Test.YtpleamahaogfiabW3
namespace Go.Proofs.Ytpleamahaogfiab
open Go.RowKit

theorem cells_set (arr : List Int) (j : Nat) (b : Int) : (cellsU8 arr).toArray.setIfInBounds j (.int .u8 b) = (cellsU8 (arr.set j b)).toArray := by
  simp [cellsU8, List.map_set]
theorem drop_set (arr : List Int) (j : Nat) (b : Int) (h : j < arr.length) : (arr.set j b).drop j = b :: arr.drop (j + 1) := by
  rw [List.drop_eq_getElem_cons (by simpa using h), List.getElem_set_self]
  congr 1
  apply List.ext_getElem?
  intro i
  simp [List.getElem?_drop, List.getElem?_set]
  omega

theorem rd_back {w w1 : World} {o : Obj} {arr sp : List Int} {k : Nat} (h : arr.drop k = sp ∧ (arr.drop k).length = 10 - k)
    (hc : ∀ i, i < 10 - k → (w.alloc o).drew.cell? ⟨w.heap.size, k + i, none⟩ = some (.int .u8 ((arr.drop k).getD i 0))) (hb : Below (w.alloc o).drew.heap.size (w.alloc o).drew w1) (ha : AllB sp) :
    Rd w1 (.slice (some ⟨w.heap.size, k, none⟩) (10 - k) (10 - k)) sp := by
  obtain ⟨rfl, hl⟩ := h
  refine ⟨some ⟨w.heap.size, k, none⟩, 10 - k, by rw [hl], by omega, by unfold maxLen; omega, ha, (fun h => by cases h), fun _ => ⟨w.heap.size, k, rfl, Nat.lt_of_lt_of_le (by simp) hb.size, fun i hi => ?_⟩⟩
  rw [hb.cell (p := ⟨w.heap.size, k + i, none⟩) (by simp)]
  exact hc i (by omega)

theorem after_clone {w w1 : World} {o : Obj} {v1 : Value} {xs : List Int} (h : Own 5 w1 (w.alloc o).drew.heap.size v1 xs) (hb : Below (w.alloc o).drew.heap.size (w.alloc o).drew w1) : Own 5 w1 w.heap.size v1 xs ∧ w.heap.size ≤ w1.heap.size :=
  ⟨h.mono (by simp), Nat.le_trans (by simp) hb.size⟩

set_option maxHeartbeats 400000 in
theorem putSpan_any (v : Value) (xs : List Int) (x : Int) (w : World) (h : Rd w v xs) (hx0 : 0 ≤ x) (hx1 : x < 18446744073709551616) (hl : xs.length + 10 ≤ 140737488355328) :
    Calls Try.prog 18 #[v, .int .u64 x] w fun e w' => ∃ v', e = .returned v' ∧ Own 5 w' w.heap.size v' (xs ++ spanL x) ∧ Below w.heap.size w w' := by
  obtain ⟨i0, z0, hi, hz, hs, hb0, hc, _⟩ := info5
  have hx127 := u64_and127 x hx0 hx1
  go_enter Try.func18, Try.ntmps18
  go_wp2
  clear hx127
  go_loopw [1, 6] (fun y f wr => ∃ (u : Int) (k : Nat) (arr : List Int), 0 ≤ u ∧ u < spanLim k ∧ u < 18446744073709551616 ∧ y = .int .u64 u ∧ f = .int .i64 k ∧ k < 10 ∧ arr.length = 10 ∧ wr = w.alloc (.cells (cellsU8 arr).toArray 48) ∧ spanB k u ++ arr.drop k = spanL x) (fun y _ _ => (intOf y).toNat)
  case atStart => exact ⟨x, 9, [0, 0, 0, 0, 0, 0, 0, 0, 0, x % 128], hx0, by have := spanLim_9; omega, hx1, rfl, rfl, by omega, rfl, by simp [cellsU8], by simp [spanL]⟩
  case round =>
    obtain ⟨u, k, arr, hu0, hu1, hu2, rfl, rfl, hk, harr, hwr, hsp⟩ := hrel
    by_cases h128 : 128 ≤ u
    · obtain ⟨j, rfl⟩ : ∃ j, k = j + 1 := by
        cases k with
        | zero => simp [spanLim] at hu1; omega
        | succ j => exact ⟨j, rfl⟩
      have hcell : (w.alloc (.cells (cellsU8 arr).toArray 48)).cell? ⟨w.heap.size, j, none⟩ = some (.int .u8 (arr.getD j 0)) := by
        simp [cellsU8, List.getD, List.getElem?_eq_getElem (show j < arr.length by omega)]
      have ha := u64_and127 (u / 128 - 1) (by omega) (by omega)
      have hor := or128' ((u / 128 - 1) % 128) (by omega) (by omega)
      have hset := cells_set arr j ((u / 128 - 1) % 128 + 128)
      have H : Hid (spanB (j + 1) u ++ arr.drop (j + 1) = spanL x ∧ u < spanLim (j + 1)) := ⟨hsp, hu1⟩
      clear hsp hu1
      subst hwr
      go_wp2
      go_roundw
      case rel =>
        obtain ⟨hsp, hu1⟩ := H.out
        rw [spanB_step _ _ h128] at hsp
        refine ⟨u / 128 - 1, j, arr.set j ((u / 128 - 1) % 128 + 128), by omega, by simp only [spanLim] at hu1; omega, by omega, rfl, rfl, by omega, by simpa using harr, rfl, ?_⟩
        rw [drop_set _ _ _ (by omega)]
        simpa using hsp
      case measure => simp [intOf]; omega
    · rw [spanB_small _ _ (by omega), List.nil_append] at hsp
      have hk0 : (0 : Int) ≤ (k : Int) := by omega
      have hk1 : (k : Int) < 10 := by omega
      have hk2 : (k : Int) ≤ 10 := by omega
      have hk3 : ¬ 10 = k := by omega
      subst hwr
      have hbw : Below w.heap.size w (w.alloc (.cells (cellsU8 arr).toArray 48)).drew := ((Below.refl _ _).alloc (Nat.le_refl _) _).drew
      have hcl := clone_any v xs (w.alloc (.cells (cellsU8 arr).toArray 48)).drew (h.later hbw (Nat.le_refl _)) (by omega)
      have hcells : ∀ i, i < 10 - k → (w.alloc (.cells (cellsU8 arr).toArray 48)).drew.cell? ⟨w.heap.size, k + i, none⟩ = some (.int .u8 ((arr.drop k).getD i 0)) := fun i hi => by
        simp [cellsU8, List.getD, List.getElem?_eq_getElem (show k + i < arr.length by omega), List.getElem?_drop]
      have hdl : (arr.drop k).length = 10 - k := by simp [harr]
      have HC : Hid _ := hcl
      have HB : Hid (arr.drop k = spanL x ∧ (arr.drop k).length = 10 - k) := ⟨hsp, hdl⟩
      have HCE : Hid _ := hcells
      clear h hcl hsp hcells hdl
      go_wp2_with fail
      have hll : xs.length + (spanL x).length ≤ 140737488355328 := by have := spanL_length x; omega
      go_region_law (first | (refine step_append_rd _ rfl _ _ 22 rfl w.heap.size 5 i0 z0 Try.underlying22 hi hz hs hb0 hc _ xs rfl ho1 _ (spanL x) rfl hr1 hll hsz ?_; intro v' w2 hown hgrow hat) | (go_simp; refine Calls.mono HC.out (fun e w1 hpost => ?_); obtain ⟨v1, rfl, ho0, hb1⟩ := hpost; obtain ⟨ho1, hsz⟩ := after_clone ho0 hb1; have hr1 := rd_back HB.out HCE.out hb1 (spanL_bytes x)))
      go_wp2
      go_ret
      exact ⟨v', rfl, hown, (hbw.trans (hb1.mono (by simp))).grown hgrow hsz (own_ge ho1)⟩
end Go.Proofs.Ytpleamahaogfiab
