/-
  Walks: the document's Parse.
-/
import Derived.Test.YtpleamahaogfiaaDoorD2
namespace Go.Proofs.YtpleamahaogfiaaDoor
open Go.RowKit

/-- The id behind the first i letters. -/
def docG (s : ByteArray) (i j : Nat) : Int := if 2 * j + 1 < i then pairD s j else if 2 * j < i then valD (sN s (2 * j)) else 0
def docK (s : ByteArray) (i : Nat) : List Int := (List.range 32).map (docG s i)
theorem docK_length (s : ByteArray) (i : Nat) : (docK s i).length = 32 := by simp [docK]
theorem docK_get (s : ByteArray) (i j : Nat) (h : j < 32) : (docK s i).getD j 0 = docG s i j := by
  simp [docK, List.getD, h]
theorem docK_zero (s : ByteArray) : docK s 0 = z32 := by
  rw [z32, List.eq_replicate_iff]
  refine ⟨docK_length s 0, fun b hb => ?_⟩
  obtain ⟨j, _, rfl⟩ := List.mem_map.1 hb
  unfold docG
  rw [if_neg (by omega), if_neg (by omega)]
theorem docK_all (s : ByteArray) : docK s 64 = (List.range 32).map (pairD s) := by
  unfold docK
  apply List.map_congr_left
  intro j hj
  have := List.mem_range.1 hj
  unfold docG
  rw [if_pos (by omega)]
theorem docK_step (s : ByteArray) (i : Nat) (hi : i < 64) (h : ∀ j, j ≤ i → isD (sN s j) = true) : (docK s i).set (i / 2) ((16 * docG s i (i / 2) + valD (sN s i)) % 256) = docK s (i + 1) := by
  apply List.ext_getElem?
  intro j
  rw [List.getElem?_set]
  have hv := valD_range _ (h i (Nat.le_refl _))
  by_cases hj : i / 2 = j
  · subst hj
    rw [if_pos rfl, if_pos (by rw [docK_length]; omega)]
    simp only [docK, List.getElem?_map, List.getElem?_range (show i / 2 < 32 by omega), Option.map_some]
    congr 1
    unfold docG
    rcases Nat.mod_two_eq_zero_or_one i with hm | hm
    · rw [if_neg (by omega), if_neg (by omega), if_neg (by omega), if_pos (by omega), show 2 * (i / 2) = i from by omega]
      omega
    · rw [if_neg (by omega), if_pos (by omega), if_pos (by omega)]
      unfold pairD
      have e1 : 2 * (i / 2) + 1 = i := by omega
      have hv0 := valD_range _ (h (2 * (i / 2)) (by omega))
      rw [e1]
      omega
  · rw [if_neg hj]
    simp only [docK, List.getElem?_map]
    rcases Nat.lt_or_ge j 32 with h' | h'
    · simp only [List.getElem?_range h', Option.map_some]
      congr 1
      unfold docG
      by_cases a1 : 2 * j + 1 < i
      · rw [if_pos a1, if_pos (by omega)]
      · rw [if_neg a1, if_neg (by omega), if_neg (by omega), if_neg (by omega)]
    · simp [h']

set_option maxHeartbeats 2000000 in
set_option maxRecDepth 100000 in
theorem docParse_any (s : ByteArray) (w : World) :
    Calls Tryd.prog 19 #[.string s] w fun e w' => e = .returned (.tuple #[.agg (cellsU8 (parF s)).toArray, .int .i64 (parE s)]) ∧ Below w.heap.size w w' := by
  have HIZ : Kept ((Tryd.prog.info? 32).map (·.size) = some (cellsU8 z32).toArray.size) := ⟨rfl⟩
  have HIL : Kept ((Tryd.prog.info? 32).map (·.size) = some (cellsU8 z32).length) := ⟨rfl⟩
  have HOZ := Kept.mk (all_oneCell_toArray (cellsU8_one z32))
  have HBW : Kept (Blk8 ((w.alloc (.cells (cellsU8 z32).toArray 32)).alloc (.cells (cellsU8 z32).toArray 32)) w.heap.size 32 z32 ∧ Blk8 ((w.alloc (.cells (cellsU8 z32).toArray 32)).alloc (.cells (cellsU8 z32).toArray 32)) (w.heap.size + 1) 32 z32 ∧ Below w.heap.size w ((w.alloc (.cells (cellsU8 z32).toArray 32)).alloc (.cells (cellsU8 z32).toArray 32))) := by
    refine ⟨(alloc_blk8 w z32 32).alloc _, ?_, ((Below.refl _ _).alloc (Nat.le_refl _) _).alloc (by simp) _⟩
    have := alloc_blk8 (w.alloc (.cells (cellsU8 z32).toArray 32)) z32 32
    rwa [show (w.alloc (.cells (cellsU8 z32).toArray 32)).heap.size = w.heap.size + 1 from by simp] at this
  by_cases h64 : s.size = 64
  · go_enter Tryd.func19, Tryd.ntmps19
    go_wp2
    go_loopw [5] (fun i wr => ∃ (k : Nat), k ≤ 64 ∧ i = .int .i64 k ∧ (∀ j, j < k → isD (sN s j) = true) ∧ Blk8 wr w.heap.size 32 z32 ∧ Blk8 wr (w.heap.size + 1) 32 (docK s k) ∧ Below w.heap.size w wr) (fun i _ => 64 - (intOf i).toNat)
    case atStart => exact ⟨0, by omega, rfl, fun j hj => by omega, HBW.out.1, by rw [docK_zero]; exact HBW.out.2.1, HBW.out.2.2⟩
    case round =>
      clear HBW
      obtain ⟨k, hk, rfl, hd, b0, b1, hbel⟩ := hrel
      have HD := Kept.mk hd
      have HB0 := Kept.mk b0
      have HB1 := Kept.mk b1
      clear hd b0 b1
      by_cases hlt : k < 64
      · have hi0 := run_index_text wr s .i64 k (by omega)
        have y0 := sN_range s k
        have d0 := rdigit_any (sN s k) wr y0.1 y0.2
        by_cases D0 : isD (sN s k) = true
        · rw [if_pos D0] at d0
          have hst := docK_step s k hlt (fun j hj => by
            rcases Nat.lt_or_ge j k with h' | h'
            · exact HD.out j h'
            · rw [show j = k from by omega]; exact D0)
          have ck := HB1.out.cell (k / 2) (by rw [docK_length]; omega)
          have fk := HB1.out.frozen8 (k / 2)
          rw [docK_get s k (k / 2) (by omega)] at ck
          have v0 := valD_range _ D0
          have HST := Kept.mk hst
          have HD0 := Kept.mk d0
          have HDK := Kept.mk D0
          clear hst d0 D0
          generalize hx0 : sN s k = x0 at *
          have HX0 := Kept.mk hx0
          clear hx0
          generalize valD x0 = z0 at *
          generalize docG s k (k / 2) = old at *
          go_upto_region 7 with fail
          go_wp2_with fail
          refine Calls.mono HD0.out (fun e wa hp => ?_)
          obtain ⟨rfl, hw⟩ := hp
          subst hw
          go_wp2
          go_roundw
          case rel =>
            refine ⟨k + 1, by omega, by go_num, fun j hj => ?_, HB0.out.other (by omega) _, ?_, hbel.setCell (by show w.heap.size ≤ w.heap.size + 1; omega) _⟩
            · rcases Nat.lt_or_ge j k with h' | h'
              · exact HD.out j h'
              · rw [show j = k from by omega, HX0.out]; exact HDK.out
            · rw [← HST.out, show 16 * old % 256 + z0 = (16 * old + z0) % 256 from by omega]
              exact HB1.out.set8 (k / 2) _
          case measure => simp [intOf]; omega
        · rw [if_neg D0] at d0
          have hbad : okS s = false := okS_false s k (by omega) (by simpa using D0)
          have HT : Kept (wr.there w.heap.size 0 (cellsU8 z32).toArray.size) := ⟨HB0.out.there8 _ rfl⟩
          have HF : Kept (Blk8 (wr.setCells w.heap.size 0 (cellsU8 z32)) w.heap.size 32 z32 ∧ Below w.heap.size w (wr.setCells w.heap.size 0 (cellsU8 z32))) := ⟨HB0.out.over8 rfl, below_cells (Nat.le_refl _) _ 0 w wr hbel⟩
          have HB : Kept (parF s = z32 ∧ parE s = 4) := ⟨by simp [parF, hbad, z32], by simp [parE, hbad]⟩
          have HD0 := Kept.mk d0
          clear hbad HD HB0 HB1 d0 D0
          generalize sN s k = x0 at *
          go_upto_region 7 with fail
          go_wp2_with fail
          refine Calls.mono HD0.out (fun e wa hp => ?_)
          obtain ⟨rfl, hw⟩ := hp
          subst hw
          go_wp2_with (refine wpList_store_mid rfl 32 _ _ rfl w.heap.size 0 (cellsU8 z32).toArray rfl rfl HT.out HIZ.out HOZ.out ?_)
          refine bodyPost_ret (v := .tuple #[.agg (cellsU8 z32).toArray, .int .i64 4]) (results_row2 (p := 2) (u := 3) (ty := 32) Tryd.results19 _ _ w.heap.size 32 _ (0, 0) _ rfl HF.out.1 Tryd.underlying32 rfl HIZ.out) rfl ⟨by rw [HB.out.1, HB.out.2], HF.out.2⟩
      · obtain rfl : k = 64 := by omega
        have hgood : okS s = true := by
          simp only [okS, h64, decide_true, Bool.true_and, List.all_eq_true, List.mem_range]
          exact fun i hi => HD.out i hi
        have HB : Kept (parF s = docK s 64 ∧ parE s = 0) := ⟨by rw [docK_all]; simp [parF, hgood], by simp [parE, hgood]⟩
        have hl32 := docK_length s 64
        clear hgood HD
        generalize docK s 64 = dl at *
        have HR1 := Kept.mk HB1.out.range
        have HI1 : Kept ((Tryd.prog.info? 32).map (·.size) = some (cellsU8 dl).length) := ⟨by rw [cellsU8_length, hl32]; rfl⟩
        have HI2 : Kept ((Tryd.prog.info? 32).map (·.size) = some (cellsU8 dl).toArray.size) := ⟨by rw [List.size_toArray]; exact HI1.out⟩
        have HT1 : Kept (wr.there w.heap.size 0 (cellsU8 dl).toArray.size) := ⟨HB0.out.there8 _ (by rw [List.size_toArray, cellsU8_length, hl32]; rfl)⟩
        have HO1 := Kept.mk (all_oneCell_toArray (cellsU8_one dl))
        have HF1 : Kept (Blk8 (wr.setCells w.heap.size 0 (cellsU8 dl)) w.heap.size 32 dl ∧ Below w.heap.size w (wr.setCells w.heap.size 0 (cellsU8 dl))) := ⟨HB0.out.over8 (by rw [hl32]; rfl), below_cells (Nat.le_refl _) _ 0 w wr hbel⟩
        clear HB0 HB1 hbel
        go_wp2_with (first | (refine wpList_load_mid rfl 32 _ rfl (w.heap.size + 1) 0 rfl (cellsU8 dl) _ HR1.out Tryd.underlying32 rfl HI1.out ?_) | (refine wpList_store_mid rfl 32 _ _ rfl w.heap.size 0 (cellsU8 dl).toArray rfl rfl HT1.out HI2.out HO1.out ?_))
        refine bodyPost_ret (v := .tuple #[.agg (cellsU8 dl).toArray, .int .i64 0]) (results_row2 (p := 2) (u := 3) (ty := 32) Tryd.results19 _ _ w.heap.size 32 _ (0, 0) _ rfl HF1.out.1 Tryd.underlying32 rfl HI2.out) rfl ⟨by rw [HB.out.1, HB.out.2], HF1.out.2⟩
  · have h1 : parF s = z32 := by simp [parF, okS, h64, z32]
    have h2 : parE s = 4 := by simp [parE, okS, h64]
    have h64' : ¬ (s.size : Int) = 64 := by omega
    rw [h1, h2]
    clear h1 h2
    have HT : Kept (((w.alloc (.cells (cellsU8 z32).toArray 32)).alloc (.cells (cellsU8 z32).toArray 32)).there w.heap.size 0 (cellsU8 z32).toArray.size) := ⟨HBW.out.1.there8 _ rfl⟩
    have HR := Kept.mk HBW.out.2.1.range
    go_enter Tryd.func19, Tryd.ntmps19
    go_wp2_with (first | (refine wpList_load_mid rfl 32 _ rfl (w.heap.size + 1) 0 rfl (cellsU8 z32) _ HR.out Tryd.underlying32 rfl HIL.out ?_) | (refine wpList_store_mid rfl 32 _ _ rfl w.heap.size 0 (cellsU8 z32).toArray rfl rfl HT.out HIZ.out HOZ.out ?_))
    refine bodyPost_ret (v := .tuple #[.agg (cellsU8 z32).toArray, .int .i64 4]) (results_row2 (p := 2) (u := 3) (ty := 32) Tryd.results19 _ _ w.heap.size 32 _ (0, 0) _ rfl (HBW.out.1.over8 rfl) Tryd.underlying32 rfl HIZ.out) rfl ⟨rfl, below_cells (Nat.le_refl _) _ 0 w _ HBW.out.2.2⟩
end Go.Proofs.YtpleamahaogfiaaDoor
