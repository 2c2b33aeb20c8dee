/-
  Walks: DocPutSize.
-/
import Derived.Test.YtpleamahaogfiabW2
namespace Go.Proofs.Ytpleamahaogfiab
open Go.RowKit

set_option maxHeartbeats 1000000 in
theorem docPutSize_any (v : Value) (xs : List Int) (x : Int) (w : World) (h : Rd w v xs) (hx0 : 0 ≤ x) (hx1 : x < 18446744073709551616) (hl : xs.length + 10 ≤ 140737488355328) :
    Calls Try.prog 17 #[v, .int .u64 x] w fun e w' => ∃ v', e = .returned v' ∧ Own 5 w' w.heap.size v' (xs ++ sizeL x) ∧ Below w.heap.size w w' := by
  obtain ⟨i0, z0, hi, hz, hs, hb0, hc, _⟩ := info5
  go_enter Try.func17, Try.ntmps17
  go_wp2_with (at_builtin; refine wpList_append_rd _ rfl _ _ 22 rfl w.heap.size 5 i0 z0 Try.underlying22 hi hz hs hb0 hc (.slice none 0 0) [] rfl (Own.nil 5 w _) v xs rfl h (by simp; omega) (Nat.le_refl _) ?_; intro v1 w1 hown1 hgrow1 hat1)
  have hb1 : Below w.heap.size w w1 := (Below.refl _ w).grown hgrow1 (Nat.le_refl _) (own_ge (Own.nil 5 w _))
  clear hgrow1 hat1 h
  simp only [List.nil_append] at hown1
  go_loopw [5, 1] (fun q y wr => ∃ (u : Int) (pre : List Int) (k : Nat), 0 ≤ u ∧ u < 128 ^ (k + 1) ∧ u < 18446744073709551616 ∧ y = .int .u64 u ∧ pre ++ sizeF k u = sizeL x ∧ pre.length + k = 9 ∧ Own 5 wr w.heap.size q (xs ++ pre) ∧ Below w.heap.size w wr) (fun _ y _ => (intOf y).toNat)
  case atStart => exact ⟨x, [], 9, hx0, by omega, hx1, rfl, rfl, rfl, by simpa using hown1, hb1⟩
  case round =>
    obtain ⟨u, pre, k, hu0, hu1, hu2, rfl, hpre, hlen, how, hbel⟩ := hrel
    have hbw : w.heap.size ≤ wr.heap.size := hbel.size
    have hll : (xs ++ pre).length + 1 ≤ 140737488355328 := by rw [List.length_append]; omega
    have H : Hid (pre ++ sizeF k u = sizeL x ∧ u < 128 ^ (k + 1) ∧ pre.length + k = 9) := ⟨hpre, hu1, hlen⟩
    clear hpre hu1 hlen
    by_cases h128 : 127 < u
    · have ho1 := how.alloc (.cells #[.int .u8 (u % 128 + 128)] 5)
      have hr1 : Rd (wr.alloc (.cells #[.int .u8 (u % 128 + 128)] 5)) (.slice (some ⟨wr.heap.size, 0, none⟩) 1 1) [u % 128 + 128] := Rd.one wr _ 5 (by omega) (by omega)
      go_wp2_with (at_builtin; refine wpList_append_rd _ rfl _ _ 22 rfl w.heap.size 5 i0 z0 Try.underlying22 hi hz hs hb0 hc _ (xs ++ pre) rfl ho1 _ [u % 128 + 128] rfl hr1 hll (by simp; omega) ?_; intro v' w1 hown hgrow hat)
      go_roundw
      case rel =>
        obtain ⟨hpre, hu1, hlen⟩ := H.out
        match k, hu1, hlen, hpre with
        | 0, hu1, _, _ => simp at hu1; omega
        | k + 1, hu1, hlen, hpre =>
          rw [sizeF_step _ _ h128] at hpre
          refine ⟨u / 128, pre ++ [u % 128 + 128], k, by omega, by rw [Int.pow_succ] at hu1; omega, by omega, rfl, by simpa using hpre, by simp; omega, by simpa using hown, ?_⟩
          exact (hbel.alloc hbw _).grown hgrow (by simp; omega) (own_ge how)
      case measure => simp [intOf]; omega
    · have ho1 := how.alloc (.cells #[.int .u8 u] 5)
      have hr1 : Rd (wr.alloc (.cells #[.int .u8 u] 5)) (.slice (some ⟨wr.heap.size, 0, none⟩) 1 1) [u] := Rd.one wr _ 5 (by omega) (by omega)
      go_wp2_with (at_builtin; refine wpList_append_rd _ rfl _ _ 22 rfl w.heap.size 5 i0 z0 Try.underlying22 hi hz hs hb0 hc _ (xs ++ pre) rfl ho1 _ [u] rfl hr1 hll (by simp; omega) ?_; intro v' w1 hown hgrow hat)
      go_ret
      refine ⟨v', rfl, ?_, ?_⟩
      · obtain ⟨hpre, hu1, hlen⟩ := H.out
        rw [sizeF_small _ _ (by omega)] at hpre
        rw [← hpre, ← List.append_assoc]
        exact hown
      · exact (hbel.alloc hbw _).grown hgrow (by simp; omega) (own_ge how)
end Go.Proofs.Ytpleamahaogfiab
