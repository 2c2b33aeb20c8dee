/-
  Walks: awake.
-/
import Derived.Test.YtjijkcmbbccfmaaDoorF34
import Derived.Test.YtjijkcmbbccfmaaDoorI2
import Derived.Lib.SlBytesConst
namespace Go.Proofs.YtjijkcmbbccfmaaDoor
open Go.RowKit

theorem Rd.litF (k : IntKind) (w : World) (xs : List Int) (t : TypeId) (fr : Nat × Nat) (h : xs.length ≤ 1000) : Rd k (fun g => g = w.heap.size) (w.alloc (.cells (cellsK k xs).toArray t fr)) (.slice (some ⟨w.heap.size, 0, none⟩) xs.length xs.length) xs := by
  refine ⟨some ⟨w.heap.size, 0, none⟩, xs.length, rfl, Nat.le_refl _, by unfold maxLen; omega, (fun h => by cases h), fun _ => ⟨w.heap.size, 0, rfl, by simp, rfl, fun i hi => ?_⟩⟩
  have hh := heap_alloc_new w (.cells (cellsK k xs).toArray t fr)
  simp only [Nat.zero_add, World.cell?, hh]
  simp [cellsK, List.getD, List.getElem?_eq_getElem hi]
theorem conv_const (w : World) (C : Array Value) (n c : Nat) : (convert 22 22 (.slice (some ⟨w.heap.size, 0, none⟩) n c)).run Tryd.prog (w.alloc (.cells C 5)) = .ok (.slice (some ⟨w.heap.size, 0, none⟩) n c) (w.alloc (.cells C 5 (C.size, C.size + 1))) :=
  Lib.run_convert_bytes_const w _ _ C n c Tryd.underlying22 Tryd.underlying5

/-- The bytes of a text that the program has. -/
theorem lit_step (w : World) (xs : List Int) (h : xs.length ≤ 1000) : ∃ wa, (convert 22 22 (.slice (some ⟨w.heap.size, 0, none⟩) xs.length xs.length)).run Tryd.prog (w.alloc (.cells (cellsK .u8 xs).toArray 5)) = .ok (.slice (some ⟨w.heap.size, 0, none⟩) xs.length xs.length) wa ∧
    Rd .u8 anyB wa (.slice (some ⟨w.heap.size, 0, none⟩) xs.length xs.length) xs ∧ Below w.heap.size w wa :=
  ⟨_, conv_const w _ _ _, (Rd.litF .u8 w xs 5 _ h).any, (Below.refl w.heap.size w).alloc (Nat.le_refl _) _⟩

theorem dfl1 : dflF [97] 1 = ([75, 4, 0], 0) := by kernel_rfl
theorem dfl2 : dflF [97, 98, 99] 0 = ([1, 3, 0, 252, 255, 97, 98, 99], 0) := by kernel_rfl
theorem dfl3 : dflF [97, 97, 97, 97, 97, 97, 97, 97] 1 = ([75, 132, 2, 0], 0) := by kernel_rfl

set_option maxHeartbeats 4000000 in
set_option maxRecDepth 100000 in
theorem awake4_any (w : World) : Calls Tryd.prog 8 #[] w fun e w' => e = .returned (.bool true) ∧ Below w.heap.size w w' := by
  obtain ⟨wa, cvA, rdA, blA⟩ := lit_step w [97] (by simp)
  have cvA : (convert 22 22 (.slice (some ⟨w.heap.size, 0, none⟩) 1 1)).run Tryd.prog (w.alloc (.cells #[.int .u8 97] 5)) = .ok (.slice (some ⟨w.heap.size, 0, none⟩) 1 1) wa := cvA
  have K1 := deflate_any _ [97] 1 wa rdA (allB_lit rfl)
  rw [dfl1] at K1
  have K1 := Kept.mk K1
  have KB0 := Kept.mk blA
  clear blA rdA
  go_enter Tryd.func8, Tryd.ntmps8
  go_wp2_with (rw [cvA])
  refine Calls.mono K1.out (fun e w1 hp => ?_)
  obtain ⟨v1, rfl, ho1, hb1⟩ := hp
  have KB1 := Kept.mk (KB0.out.trans (hb1.mono KB0.out.size))
  have KO1 := Kept.mk ho1
  clear ho1 hb1 K1 KB0 cvA
  obtain ⟨wc, cvC, rdC, blC⟩ := lit_step w1 [97, 98, 99] (by simp)
  have cvC : (convert 22 22 (.slice (some ⟨w1.heap.size, 0, none⟩) 3 3)).run Tryd.prog (w1.alloc (.cells #[.int .u8 97, .int .u8 98, .int .u8 99] 5)) = .ok (.slice (some ⟨w1.heap.size, 0, none⟩) 3 3) wc := cvC
  have K2 := deflate_any _ [97, 98, 99] 0 wc rdC (allB_lit rfl)
  rw [dfl2] at K2
  have K2 := Kept.mk K2
  have KBc := Kept.mk blC
  clear blC rdC
  go_wp2_with (rw [cvC])
  refine Calls.mono K2.out (fun e w2 hp => ?_)
  obtain ⟨v2, rfl, ho2, hb2⟩ := hp
  have hb12 := KBc.out.trans (hb2.mono KBc.out.size)
  have KB2 := Kept.mk (KB1.out.trans (hb12.mono KB1.out.size))
  have KO1 := Kept.mk (KO1.out.later hb12 (Nat.le_refl _))
  have KO2 := Kept.mk ho2
  clear ho2 hb2 hb12 K2 KB1 KBc cvC
  obtain ⟨we, cvE, rdE, blE⟩ := lit_step w2 [97, 97, 97, 97, 97, 97, 97, 97] (by simp)
  have cvE : (convert 22 22 (.slice (some ⟨w2.heap.size, 0, none⟩) 8 8)).run Tryd.prog (w2.alloc (.cells #[.int .u8 97, .int .u8 97, .int .u8 97, .int .u8 97, .int .u8 97, .int .u8 97, .int .u8 97, .int .u8 97] 5)) = .ok (.slice (some ⟨w2.heap.size, 0, none⟩) 8 8) we := cvE
  have K3 := deflate_any _ [97, 97, 97, 97, 97, 97, 97, 97] 1 we rdE (allB_lit rfl)
  rw [dfl3] at K3
  have K3 := Kept.mk K3
  have KBe := Kept.mk blE
  clear blE rdE
  go_wp2_with (rw [cvE])
  refine Calls.mono K3.out (fun e w3 hp => ?_)
  obtain ⟨v3, rfl, ho3, hb3⟩ := hp
  have hb23 := KBe.out.trans (hb3.mono KBe.out.size)
  have KB3 := Kept.mk (KB2.out.trans (hb23.mono KB2.out.size))
  have KO1 := Kept.mk (KO1.out.later hb23 (Nat.le_refl _))
  have KO2 := Kept.mk (KO2.out.later hb23 (Nat.le_refl _))
  have KO3 := Kept.mk ho3
  clear ho3 hb3 hb23 K3 KB2 KBe cvE
  have hbA := (Below.refl w3.heap.size w3).alloc (Nat.le_refl _) (.cells (cellsK .u8 [75, 4, 0]).toArray 5)
  have S1 := same_any _ _ _ _ _ (KO1.out.later hbA (Nat.le_refl _)).rd (Rd.lit .u8 w3 [75, 4, 0] 5 (by simp)) (allB_lit rfl) (allB_lit rfl)
  rw [decide_eq_true rfl] at S1
  have S1 := Kept.mk S1
  obtain ⟨w4, hw4⟩ : ∃ w4, w3.alloc (.cells (cellsK .u8 [75, 4, 0]).toArray 5) = w4 := ⟨_, rfl⟩
  have hw4' : w3.alloc (.cells #[.int .u8 75, .int .u8 4, .int .u8 0] 5) = w4 := hw4
  rw [hw4] at hbA S1
  have hbB := (Below.refl w4.heap.size w4).alloc (Nat.le_refl _) (.cells (cellsK .u8 [1, 3, 0, 252, 255, 97, 98, 99]).toArray 5)
  have hbAB := hbA.trans (hbB.mono hbA.size)
  have S2 := same_any _ _ _ _ _ (KO2.out.later hbAB (Nat.le_refl _)).rd (Rd.lit .u8 w4 [1, 3, 0, 252, 255, 97, 98, 99] 5 (by simp)) (allB_lit rfl) (allB_lit rfl)
  rw [decide_eq_true rfl] at S2
  have S2 := Kept.mk S2
  obtain ⟨w5, hw5⟩ : ∃ w5, w4.alloc (.cells (cellsK .u8 [1, 3, 0, 252, 255, 97, 98, 99]).toArray 5) = w5 := ⟨_, rfl⟩
  have hw5' : w4.alloc (.cells #[.int .u8 1, .int .u8 3, .int .u8 0, .int .u8 252, .int .u8 255, .int .u8 97, .int .u8 98, .int .u8 99] 5) = w5 := hw5
  rw [hw5] at hbAB S2
  have hbC := (Below.refl w5.heap.size w5).alloc (Nat.le_refl _) (.cells (cellsK .u8 [75, 132, 2, 0]).toArray 5)
  have hbABC := hbAB.trans (hbC.mono hbAB.size)
  have S3 := same_any _ _ _ _ _ (KO3.out.later hbABC (Nat.le_refl _)).rd (Rd.lit .u8 w5 [75, 132, 2, 0] 5 (by simp)) (allB_lit rfl) (allB_lit rfl)
  rw [decide_eq_true rfl] at S3
  have S3 := Kept.mk S3
  obtain ⟨w6, hw6⟩ : ∃ w6, w5.alloc (.cells (cellsK .u8 [75, 132, 2, 0]).toArray 5) = w6 := ⟨_, rfl⟩
  have hw6' : w5.alloc (.cells #[.int .u8 75, .int .u8 132, .int .u8 2, .int .u8 0] 5) = w6 := hw6
  rw [hw6] at hbABC S3
  have KB6 := Kept.mk (KB3.out.trans (hbABC.mono KB3.out.size))
  clear hw4 hw5 hw6 hbA hbB hbC hbAB hbABC KO1 KO2 KO3
  go_wp2_with (fail)
  refine Calls.mono S1.out (fun e wx hp => ?_)
  obtain ⟨rfl, rfl⟩ := hp
  go_wp2_with (fail)
  refine Calls.mono S2.out (fun e wx hp => ?_)
  obtain ⟨rfl, rfl⟩ := hp
  go_wp2_with (fail)
  refine Calls.mono S3.out (fun e wx hp => ?_)
  obtain ⟨rfl, rfl⟩ := hp
  go_wp2
  go_ret
  exact ⟨rfl, KB6.out⟩
end Go.Proofs.YtjijkcmbbccfmaaDoor
