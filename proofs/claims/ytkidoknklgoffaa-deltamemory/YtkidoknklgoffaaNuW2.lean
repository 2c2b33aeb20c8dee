/-
  Walks: appendSize, PutSize, DocPutSize.
-/
import Derived.Test.YtkidoknklgoffaaNuW1
import Derived.Test.YtkidoknklgoffaaNuMath
namespace Go.Proofs.Ytkidoknklgoffaa.Nu
open Go.RowKit

set_option maxHeartbeats 1000000 in
theorem appendSize_any (v : Value) (xs : List Int) (x : Int) (w : World) (base : Nat) (ho : Own 5 w base v xs) (hb : base ≤ w.heap.size) (hx0 : 0 ≤ x) (hx1 : x < 18446744073709551616) (hl : xs.length + 10 ≤ 140737488355328) :
    Calls Try.prog 36 #[v, .int .u64 x] w fun e w' => ∃ v', e = .returned v' ∧ Own 5 w' base v' (xs ++ sizeL x) ∧ Below base w w' := by
  obtain ⟨i0, z0, hi, hz, hs, hb0, hc, _⟩ := info5
  go_enter Try.func36, Try.ntmps36
  go_wp2
  go_loopw [0, 1] (fun q y wr => ∃ (u : Int) (pre : List Int) (k : Nat), 0 ≤ u ∧ u < 128 ^ (k + 1) ∧ u < 18446744073709551616 ∧ y = .int .u64 u ∧ pre ++ sizeF k u = sizeL x ∧ pre.length + k = 9 ∧ Own 5 wr base q (xs ++ pre) ∧ Below base w wr) (fun _ y _ => (intOf y).toNat)
  case atStart => exact ⟨x, [], 9, hx0, by omega, hx1, rfl, rfl, rfl, by simpa using ho, Below.refl _ _⟩
  case round =>
    obtain ⟨u, pre, k, hu0, hu1, hu2, rfl, hpre, hlen, how, hbel⟩ := hrel
    have hbw : base ≤ wr.heap.size := Nat.le_trans hb hbel.size
    have hll : (xs ++ pre).length + 1 ≤ 140737488355328 := by rw [List.length_append]; omega
    have H : Hid (pre ++ sizeF k u = sizeL x ∧ u < 128 ^ (k + 1) ∧ pre.length + k = 9) := ⟨hpre, hu1, hlen⟩
    clear hpre hu1 hlen
    by_cases h128 : 128 ≤ u
    · have ho1 := how.alloc (.cells #[.int .u8 (bits .or .u8 (u % 256) 128)] 5)
      have hr1 : Rd (wr.alloc (.cells #[.int .u8 (bits .or .u8 (u % 256) 128)] 5)) (.slice (some ⟨wr.heap.size, 0, none⟩) 1 1) [u % 128 + 128] := by
        rw [or128]
        exact Rd.one wr _ 5 (by omega) (by omega)
      go_wp2_with (at_builtin; refine wpList_append_rd _ rfl _ _ 22 rfl base 5 i0 z0 Try.underlying22 hi hz hs hb0 hc _ (xs ++ pre) rfl ho1 _ [u % 128 + 128] rfl hr1 hll (by simp; omega) ?_; intro v' w1 hown hgrow hat)
      go_roundw
      case rel =>
        obtain ⟨hpre, hu1, hlen⟩ := H.out
        match k, hu1, hlen, hpre with
        | 0, hu1, _, _ => simp at hu1; omega
        | k + 1, hu1, hlen, hpre =>
          rw [sizeF_step _ _ h128] at hpre
          refine ⟨u / 128, pre ++ [u % 128 + 128], k, by omega, by rw [Int.pow_succ] at hu1; omega, by omega, rfl, by simpa using hpre, by simp; omega, by simpa using hown, ?_⟩
          exact (hbel.alloc hbw _).grown hgrow (by simp; omega) (own_ge how)
      case measure => simp [intOf]; omega
    · have ho1 := how.alloc (.cells #[.int .u8 u] 5)
      have hr1 : Rd (wr.alloc (.cells #[.int .u8 u] 5)) (.slice (some ⟨wr.heap.size, 0, none⟩) 1 1) [u] := Rd.one wr _ 5 (by omega) (by omega)
      go_wp2_with (at_builtin; refine wpList_append_rd _ rfl _ _ 22 rfl base 5 i0 z0 Try.underlying22 hi hz hs hb0 hc _ (xs ++ pre) rfl ho1 _ [u] rfl hr1 hll (by simp; omega) ?_; intro v' w1 hown hgrow hat)
      go_ret
      refine ⟨v', rfl, ?_, ?_⟩
      · obtain ⟨hpre, hu1, hlen⟩ := H.out
        rw [sizeF_small _ _ (by omega)] at hpre
        rw [← hpre, ← List.append_assoc]
        exact hown
      · exact (hbel.alloc hbw _).grown hgrow (by simp; omega) (own_ge how)

theorem sizeL_length (x : Int) : (sizeL x).length ≤ 10 := sizeF_length 9 x
theorem sizeL_allB (x : Int) (h0 : 0 ≤ x) (h1 : x < 18446744073709551616) : AllB (sizeL x) := sizeF_bytes 9 x h0 (by omega)

set_option maxHeartbeats 400000 in
theorem putSize_any (v : Value) (xs : List Int) (x : Int) (w : World) (h : Rd w v xs) (hx0 : 0 ≤ x) (hx1 : x < 18446744073709551616) (hl : xs.length + 10 ≤ 140737488355328) :
    Calls Try.prog 26 #[v, .int .u64 x] w fun e w' => ∃ v', e = .returned v' ∧ Own 5 w' w.heap.size v' (xs ++ sizeL x) ∧ Below w.heap.size w w' := by
  go_enter Try.func26, Try.ntmps26
  go_wp2_with fail
  refine (clone_any v xs _ h (by omega)).mono ?_
  rintro e w1 ⟨v1, rfl, ho1, hb1⟩
  have hsz := hb1.size
  go_wp2_with fail
  refine (appendSize_any v1 xs x _ w.heap.size ho1 hsz hx0 hx1 hl).mono ?_
  rintro e w2 ⟨v2, rfl, ho2, hb2⟩
  go_wp2
  go_ret
  exact ⟨v2, rfl, ho2, hb1.trans hb2⟩
end Go.Proofs.Ytkidoknklgoffaa.Nu
