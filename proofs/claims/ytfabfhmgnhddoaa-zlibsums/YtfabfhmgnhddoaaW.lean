/-
  Walks: Twin, awake, the law ZlibSums.
-/
import Derived.Test.YtfabfhmgnhddoaaC
import Derived.Lib.SlBytesConst
namespace Go.Proofs.Ytfabfhmgnhddoaa
open Go.RowKit

set_option maxHeartbeats 400000 in
set_option maxRecDepth 100000 in
theorem twin_any {S : Nat → Prop} (v : Value) (xs : List Int) (w : World) (h : Rd .u8 S w v xs) (hl : xs.length ≤ 140737488355328) :
    Calls Try.prog 6 #[v] w fun e w' => ∃ v', e = .returned v' ∧ Own .u8 5 w' w.heap.size v' xs ∧ Below w.heap.size w w' := by
  obtain ⟨i0, z0, hi, hz, hs, hb, hc⟩ := info8
  go_enter Try.func6, Try.ntmps6
  go_wp2_with (at_builtin; refine wpList_append_rd _ rfl _ _ 22 rfl .u8 S 1 w.heap.size 5 i0 z0 Try.underlying22 hi hz hs hb hc (by omega) (.slice none 0 0) [] rfl (Own.nil _ _ _ _) _ xs rfl h (by simp; omega) (Nat.le_refl _) ?_; intro v' w1 hown hgrow hat)
  go_ret
  exact ⟨_, rfl, hown, (Below.refl _ w).grown hgrow (Nat.le_refl _) (fun k e => by simp [Value.ownBlock] at e)⟩

theorem rd_const (w : World) (arr : List Int) (t : TypeId) (fr : Nat × Nat) (hn : arr.length ≤ 1000000) : Rd .u8 anyB (w.alloc (.cells (cellsK .u8 arr).toArray t fr)) (.slice (some ⟨w.heap.size, 0, none⟩) arr.length arr.length) arr := by
  refine ⟨some ⟨w.heap.size, 0, none⟩, arr.length, rfl, Nat.le_refl _, by unfold maxLen; omega, (fun h => by cases h), fun _ => ⟨w.heap.size, 0, rfl, by simp, trivial, fun i hi => ?_⟩⟩
  rw [Nat.zero_add]
  simp only [World.cell?, heap_alloc_new]
  simp [cellsK, List.getElem?_eq_getElem hi, List.getD]

theorem adl_abc : adlF [97, 98, 99] = 38600999 := by decide
set_option maxRecDepth 100000 in
theorem crc_nine : crcF [49, 50, 51, 52, 53, 54, 55, 56, 57] = 3421780262 := by kernel_rfl

set_option maxHeartbeats 400000 in
set_option maxRecDepth 100000 in
theorem awake_any (w : World) : Calls Try.prog 4 #[] w fun e w' => e = .returned (.bool true) ∧ Below w.heap.size w w' := by
  have kc := fun (w : World) (C : Array Value) (n c : Nat) => Lib.run_convert_bytes_const (P := Try.prog) w 22 5 C n c Try.underlying22 Try.underlying5
  go_enter Try.func4, Try.ntmps4
  go_wp2_with fail
  refine Calls.mono (adler_any _ _ [97, 98, 99] (by intro x hx; simp at hx; omega) (rd_const w [97, 98, 99] 5 (3, 4) (by decide))) (fun e w1 hp => ?_)
  obtain ⟨rfl, hw1⟩ := hp
  have hbel : Below w.heap.size w w1 := by
    rw [hw1]
    exact (Below.refl _ _).alloc (Nat.le_refl _) _
  clear hw1
  rw [adl_abc]
  go_wp2_with fail
  refine Calls.mono (crc_any _ _ [49, 50, 51, 52, 53, 54, 55, 56, 57] (by intro x hx; simp at hx; omega) (rd_const w1 [49, 50, 51, 52, 53, 54, 55, 56, 57] 5 (9, 10) (by decide))) (fun e w2 hp => ?_)
  obtain ⟨rfl, hw2⟩ := hp
  have hbel2 : Below w.heap.size w w2 := by
    rw [hw2]
    exact hbel.alloc hbel.size _
  clear hw2
  rw [crc_nine]
  go_wp2
  go_ret
  exact ⟨rfl, hbel2⟩

set_option maxHeartbeats 400000 in
set_option maxRecDepth 100000 in
theorem zlibSums_walk {S : Nat → Prop} (v : Value) (p : List Int) (w : World) (h : Rd .u8 S w v p) (hp : AllB p) (hl : p.length ≤ 140737488355328) : Calls Try.prog 3 #[v] w fun e w' => e = .returned (.bool true) ∧ Below w.heap.size w w' := by
  have KH := Kept.mk h
  have KP := Kept.mk hp
  clear h hp
  go_enter Try.func3, Try.ntmps3
  go_wp2_with fail
  refine Calls.mono (awake_any w) (fun e w1 hp => ?_)
  obtain ⟨rfl, hb1⟩ := hp
  go_wp2_with fail
  refine Calls.mono (twin_any v p w1 (KH.out.later hb1 (Nat.le_refl _)) hl) (fun e w2 hp => ?_)
  obtain ⟨v2, rfl, hO2, hb2⟩ := hp
  have BB2 : Below w.heap.size w w2 := hb1.trans (hb2.mono hb1.size)
  clear hb1 hb2
  go_wp2_with fail
  refine Calls.mono (adler_any w2 v2 p KP.out hO2.rd) (fun e w3 hp => ?_)
  obtain ⟨rfl, rfl⟩ := hp
  clear hO2
  go_wp2_with fail
  refine Calls.mono (radler_any w3 v p KP.out (KH.out.later BB2 (Nat.le_refl _))) (fun e w3' hp => ?_)
  obtain ⟨rfl, rfl⟩ := hp
  go_wp2_with fail
  refine Calls.mono (twin_any v p w3' (KH.out.later BB2 (Nat.le_refl _)) hl) (fun e w4 hp => ?_)
  obtain ⟨v4, rfl, hO4, hb4⟩ := hp
  have BB4 : Below w.heap.size w w4 := BB2.trans (hb4.mono BB2.size)
  clear hb4 BB2
  go_wp2_with fail
  refine Calls.mono (crc_any w4 v4 p KP.out hO4.rd) (fun e w5 hp => ?_)
  obtain ⟨rfl, rfl⟩ := hp
  clear hO4
  go_wp2_with fail
  refine Calls.mono (rcrc_any w5 v p KP.out (KH.out.later BB4 (Nat.le_refl _))) (fun e w6 hp => ?_)
  obtain ⟨rfl, rfl⟩ := hp
  go_wp2
  go_ret
  exact ⟨rfl, BB4⟩
end Go.Proofs.Ytfabfhmgnhddoaa
