/-
  Walks: the statements' awake.
-/
import Derived.Test.YtjifhhafllegbaaDoorI1
namespace Go.Proofs.YtjifhhafllegbaaDoor
open Go.RowKit

theorem inf1 : inflF [1, 3, 0, 252, 255, 97, 98, 99] 9 = .ok [97, 98, 99] 64 := by kernel_rfl
theorem inf2 : inflF [75, 4, 0] 9 = .ok [97] 18 := by kernel_rfl
theorem inf3 : inflF [7] 9 = .bad .form := by kernel_rfl

theorem allB_lit {xs : List Int} (h : xs.all (fun x => decide (0 ≤ x ∧ x < 256)) = true) : AllB xs := by
  intro x hx
  have := List.all_eq_true.1 h x hx
  simpa using this
theorem Rd.lit (k : IntKind) (w : World) (xs : List Int) (t : TypeId) (h : xs.length ≤ 1000) : Rd k (fun g => g = w.heap.size) (w.alloc (.cells (cellsK k xs).toArray t)) (.slice (some ⟨w.heap.size, 0, none⟩) xs.length xs.length) xs := by
  refine ⟨some ⟨w.heap.size, 0, none⟩, xs.length, rfl, Nat.le_refl _, by unfold maxLen; omega, (fun h => by cases h), fun _ => ⟨w.heap.size, 0, rfl, by simp, rfl, fun i hi => ?_⟩⟩
  have hh := heap_alloc_new w (.cells (cellsK k xs).toArray t)
  simp only [Nat.zero_add, World.cell?, hh]
  simp [cellsK, List.getD, List.getElem?_eq_getElem hi]
theorem Tab.far {w w' : World} (h : Tab w) (hb : Below w.heap.size w w') : Tab w' := ⟨Nat.lt_of_lt_of_le h.pos hb.size, fun i hi => h.cell hb i hi⟩

set_option maxHeartbeats 2000000 in
set_option maxRecDepth 100000 in
theorem awake_any (w : World) (hT : Tab w) : Calls Tryd.prog 9 #[] w fun e w' => e = .returned (.bool true) ∧ Below w.heap.size w w' := by
  have hb0 := (Below.refl w.heap.size w).alloc (Nat.le_refl _) (.cells (cellsK .u8 [1, 3, 0, 252, 255, 97, 98, 99]).toArray 5)
  have K1 := inflate_any _ [1, 3, 0, 252, 255, 97, 98, 99] 9 (w.alloc (.cells (cellsK .u8 [1, 3, 0, 252, 255, 97, 98, 99]).toArray 5)) (hT.far hb0) (Rd.lit .u8 w [1, 3, 0, 252, 255, 97, 98, 99] 5 (by simp)) (allB_lit rfl) (by simp) (by omega)
  rw [inf1] at K1
  have K1 := Kept.mk K1
  have KT := Kept.mk hT
  have KB0 := Kept.mk hb0
  clear hT hb0
  go_enter Tryd.func9, Tryd.ntmps9
  go_wp2_with fail
  refine Calls.mono K1.out (fun e w1 hp => ?_)
  obtain ⟨v1, rfl, ho1, -, -, hb1⟩ := hp
  have hB1 : Below w.heap.size w w1 := KB0.out.trans (hb1.mono (by simp))
  have hc1 := (Below.refl w1.heap.size w1).alloc (Nat.le_refl _) (.cells (cellsK .u8 [75, 4, 0]).toArray 5)
  have K2 := inflate_any _ [75, 4, 0] 9 (w1.alloc (.cells (cellsK .u8 [75, 4, 0]).toArray 5)) ((KT.out.far hB1).far hc1) (Rd.lit .u8 w1 [75, 4, 0] 5 (by simp)) (allB_lit rfl) (by simp) (by omega)
  rw [inf2] at K2
  have K2 := Kept.mk K2
  have KO1 := Kept.mk ho1
  have KB1 := Kept.mk hB1
  have KC1 := Kept.mk hc1
  clear ho1 hB1 hb1 hc1
  go_wp2_with fail
  refine Calls.mono K2.out (fun e w2 hp => ?_)
  obtain ⟨v2, rfl, ho2, -, -, hb2⟩ := hp
  have hB12 : Below w1.heap.size w1 w2 := KC1.out.trans (hb2.mono (by simp))
  have hB2 : Below w.heap.size w w2 := KB1.out.trans (hB12.mono KB1.out.size)
  have hc2 := (Below.refl w2.heap.size w2).alloc (Nat.le_refl _) (.cells (cellsK .u8 [7]).toArray 5)
  have K3 := inflate_any _ [7] 9 (w2.alloc (.cells (cellsK .u8 [7]).toArray 5)) ((KT.out.far hB2).far hc2) (Rd.lit .u8 w2 [7] 5 (by simp)) (allB_lit rfl) (by simp) (by omega)
  rw [inf3] at K3
  have K3 := Kept.mk K3
  have KO1' := Kept.mk (KO1.out.later hB12 (Nat.le_refl _))
  have KO2 := Kept.mk ho2
  have KB2 := Kept.mk hB2
  have KC2 := Kept.mk hc2
  clear ho2 hB2 hb2 hc2 hB12
  go_wp2_with fail
  refine Calls.mono K3.out (fun e w3 hp => ?_)
  obtain ⟨rfl, hb3⟩ := hp
  have hB23 : Below w2.heap.size w2 w3 := KC2.out.trans (hb3.mono (by simp))
  have KB3 := Kept.mk (KB2.out.trans (hB23.mono KB2.out.size))
  have c1 := ((KO1'.out.later hB23 (Nat.le_refl _)).rd).str (P := Tryd.prog) (src := 22) Tryd.underlying22 Tryd.underlying5 9 Tryd.underlying9
  have c2 := ((KO2.out.later hB23 (Nat.le_refl _)).rd).str (P := Tryd.prog) (src := 22) Tryd.underlying22 Tryd.underlying5 9 Tryd.underlying9
  have e1 : strOfNums [97, 98, 99] = { data := #[97, 98, 99] } := by kernel_rfl
  have e2 : strOfNums [97] = { data := #[97] } := by kernel_rfl
  rw [e1] at c1
  rw [e2] at c2
  clear hb3 hB23 e1 e2
  go_wp2
  go_ret
  exact ⟨rfl, KB3.out⟩
end Go.Proofs.YtjifhhafllegbaaDoor
