/-
  Walks: Spare, Kept.
-/
import Derived.Test.YtpleamahaogfiabK2
import Derived.OwnWalk
namespace Go.Proofs.Ytpleamahaogfiab
open Go.RowKit

def spareL (xs : List Int) : List Int := xs ++ [41, 42, 43, 44]
theorem spareL_length (xs : List Int) : (spareL xs).length = xs.length + 4 := by simp [spareL]
theorem allB4 : AllB [41, 42, 43, 44] := fun z hz => by simp at hz; omega

theorem spare_open {w4 : World} {base : Nat} {v4 : Value} {xs : List Int} (h : Own 5 w4 base v4 (xs ++ [41, 42, 43, 44])) : ∃ g cap, v4 = .slice (some ⟨g, 0, none⟩) (xs.length + 4) cap ∧ (xs.length : Int) + 4 ≤ cap ∧ cap ≤ 9223372036854775807 ∧ Own 5 w4 base (.slice (some ⟨g, 0, none⟩) (xs.length + 4) cap) (spareL xs) := by
  obtain ⟨g, cap, hv, _, _, hcap, _, _⟩ := h.open (by simp)
  rw [show (xs ++ [(41 : Int), 42, 43, 44]).length = xs.length + 4 from by simp] at hv
  have hcm : cap ≤ maxLen := by
    rcases h.2 with ⟨e, _⟩ | ⟨g', cap', cur, e, _, _, _, hm, _⟩
    · rw [hv] at e
      cases e
    · rw [hv] at e
      injection e with _ _ e3
      omega
  unfold maxLen at hcm
  simp at hcap
  exact ⟨g, cap, hv, by omega, by omega, by rw [← hv]; exact h⟩

set_option maxHeartbeats 1000000 in
theorem spare_any (v : Value) (xs : List Int) (w : World) (h : Rd w v xs) (hl : xs.length + 20 ≤ 140737488355328) :
    Calls Try.prog 28 #[v] w fun e w' => ∃ g cap, e = .returned (.tuple #[.slice (some ⟨g, 0, none⟩) xs.length cap, .slice (some ⟨g, 0, none⟩) (xs.length + 4) cap]) ∧ Own 5 w' w.heap.size (.slice (some ⟨g, 0, none⟩) (xs.length + 4) cap) (spareL xs) ∧ Below w.heap.size w w' := by
  obtain ⟨i0, z0, hi, hz, hs, hb0, hc, -⟩ := info5
  obtain ⟨a, c, rfl, -, -, -, -⟩ := h.form
  have hb1 : i0.bytes * (xs.length + 4) ≤ 281474976710656 := by rw [hb0]; omega
  have hb2 : xs.length + 4 ≤ maxLen := by unfold maxLen; omega
  have hll : ([] : List Int).length + xs.length ≤ 140737488355328 := by simp; omega
  have hll2 : xs.length + [(41 : Int), 42, 43, 44].length ≤ 140737488355328 := by simp; omega
  have hA4 : AllB (spareL xs) := h.allB.append allB4
  go_enter Try.func28, Try.ntmps28
  go_wp2_with (first | (refine wpList_make_own _ rfl _ _ 22 rfl w.heap.size 5 i0 z0 1 Try.underlying22 hi hz hs .i64 .i64 ((xs.length : Int) + 4) (xs.length + 4) rfl rfl (by simp) hb1 hb2 (Nat.le_refl _) ?_; intro w1 o1 g1; have hb3 := (Below.refl w.heap.size w).grown g1 (Nat.le_refl _) (by intro k hk; cases hk); have hz1 := hb3.size; have r1 := h.later hb3 (Nat.le_refl _)) | (at_builtin; refine wpList_append_rd _ rfl _ _ 22 rfl w.heap.size 5 i0 z0 Try.underlying22 hi hz hs hb0 hc _ [] rfl o1 _ xs rfl r1 hll hz1 ?_; intro v2 w2 o2 g2 _; have hb4 := hb3.grown g2 hz1 (own_ge (xs := []) o1); have hz2 := hb4.size; have o3 : Own 5 (w2.alloc (.cells #[.int .u8 41, .int .u8 42, .int .u8 43, .int .u8 44] 5)) w.heap.size v2 xs := Own.alloc o2 _; have r3 : Rd (w2.alloc (.cells #[.int .u8 41, .int .u8 42, .int .u8 43, .int .u8 44] 5)) (.slice (some ⟨w2.heap.size, 0, none⟩) 4 4) [41, 42, 43, 44] := Rd.block w2 [41, 42, 43, 44] 5 allB4 (by decide)) | (at_builtin; refine wpList_append_rd _ rfl _ _ 22 rfl w.heap.size 5 i0 z0 Try.underlying22 hi hz hs hb0 hc _ xs rfl o3 _ [41, 42, 43, 44] rfl r3 hll2 (by simp; omega) ?_; intro v4 w4 o4 g4 _; have hb5 := (hb4.alloc hz2 _).grown g4 (by simp; omega) (own_ge o3); obtain ⟨g, cap, hv4, hcp1, hcp2, o5⟩ := spare_open o4; subst hv4))
  go_ret2
  exact ⟨g, cap, rfl, o5, hb5⟩

set_option maxHeartbeats 1000000 in
theorem kept_any (v : Value) (xs : List Int) (g cap : Nat) (w : World) (h : Rd w v xs) (hf : Rd w (.slice (some ⟨g, 0, none⟩) (xs.length + 4) cap) (spareL xs)) (hl : xs.length + 20 ≤ 140737488355328) :
    Calls Try.prog 29 #[v, .slice (some ⟨g, 0, none⟩) (xs.length + 4) cap] w fun e w' => e = .returned (.bool true) ∧ Below w.heap.size w w' := by
  have hf' : Rd w (.slice (some ⟨g, 0, none⟩) (spareL xs).length cap) (spareL xs) := by rw [spareL_length]; exact hf
  have hcap := hf'.capOf
  rw [spareL_length] at hcap
  have r1 : Rd w (.slice (some ⟨g, 0, none⟩) xs.length cap) xs := by
    have := hf'.sub 0 xs.length (by rw [spareL_length]; omega) (by rw [spareL_length]; omega)
    simpa [spareL] using this
  have r2 : Rd w (.slice (some ⟨g, xs.length, none⟩) 4 (cap - xs.length)) [41, 42, 43, 44] := by
    have := hf'.sub xs.length 4 (by rw [spareL_length]; omega) (by rw [spareL_length]; omega)
    simpa [spareL] using this
  obtain ⟨a, c, rfl, -, -, -, -⟩ := h.form
  have g1 : (xs.length : Int) ≤ cap := by omega
  have g2 : ¬ cap = xs.length := by omega
  have g3 : (xs.length : Int) ≤ (xs.length + 4 : Nat) := by omega
  clear hf hf'
  go_enter Try.func29, Try.ntmps29
  go_wp2_with fail
  refine Calls.mono (same_true _ _ xs _ r1 h) (fun e w1 hp => ?_)
  obtain ⟨rfl, hb1⟩ := hp
  have r3 := r2.later (hb1.alloc hb1.size (.cells #[.int .u8 41, .int .u8 42, .int .u8 43, .int .u8 44] 5)) (Nat.le_refl _)
  have r4 : Rd (w1.alloc (.cells #[.int .u8 41, .int .u8 42, .int .u8 43, .int .u8 44] 5)) (.slice (some ⟨w1.heap.size, 0, none⟩) 4 4) [41, 42, 43, 44] := Rd.block w1 [41, 42, 43, 44] 5 allB4 (by decide)
  clear r1 r2 h
  go_wp2_with fail
  refine Calls.mono (same_true _ _ [41, 42, 43, 44] _ r3 r4) (fun e w2 hp => ?_)
  obtain ⟨rfl, hb2⟩ := hp
  go_wp2
  go_ret
  exact ⟨rfl, (hb1.alloc hb1.size _).trans (hb2.mono (Nat.le_trans hb1.size (by simp)))⟩
end Go.Proofs.Ytpleamahaogfiab
