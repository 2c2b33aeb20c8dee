/-
  Walks: PutBig, DocPutBig.
-/
import Derived.Test.YthkaohkondkhgaaDoorNuMath
import Derived.Test.YthkaohkondkhgaaDoorNuW1
namespace Go.Proofs.YthkaohkondkhgaaDoor.Nu
open Go.RowKit

set_option maxHeartbeats 1000000 in
set_option maxRecDepth 100000 in
theorem refPutBig_any (v : Value) (xs : List Int) (x : Int) (n : Nat) (w : World) (h : Rd w v xs) (_hx0 : 0 ≤ x) (_hx1 : x < 18446744073709551616) (hn : 1 ≤ n) (hn8 : n ≤ 8) (hl : xs.length + 10 ≤ 140737488355328) :
    Calls Tryd.prog 57 #[v, .int .u64 x, .int .i64 n] w fun e w' => ∃ v', e = .returned v' ∧ Own 5 w' w.heap.size v' (xs ++ bigF n x) ∧ Below w.heap.size w w' := by
  obtain ⟨i0, z0, hi, hz, hs, hb0, hc, _⟩ := info5
  go_enter Tryd.func57, Tryd.ntmps57
  go_wp2_with (at_builtin; refine wpList_append_rd _ rfl _ _ 25 rfl w.heap.size 5 i0 z0 Tryd.underlying25 hi hz hs hb0 hc (.slice none 0 0) [] rfl (Own.nil 5 w _) v xs rfl h (by simp; omega) (Nat.le_refl _) ?_; intro v1 w1 hown1 hgrow1 hat1)
  have hb1 : Below w.heap.size w w1 := (Below.refl _ w).grown hgrow1 (Nat.le_refl _) (own_ge (Own.nil 5 w _))
  clear hgrow1 hat1 h
  simp only [List.nil_append] at hown1
  go_loopw [7, 8] (fun q i wr => ∃ (k : Nat) (pre : List Int), k ≤ n ∧ i = .int .i64 ((k : Int) - 1) ∧ pre ++ bigF k x = bigF n x ∧ pre.length + k = n ∧ Own 5 wr w.heap.size q (xs ++ pre) ∧ Below w.heap.size w wr) (fun _ i _ => (intOf i + 1).toNat)
  case atStart => exact ⟨n, [], Nat.le_refl _, rfl, rfl, by simp, by simpa using hown1, hb1⟩
  case round =>
    obtain ⟨k, pre, hk, rfl, hpre, hpl, how, hbel⟩ := hrel
    have hbw : w.heap.size ≤ wr.heap.size := hbel.size
    have H : Hid (pre ++ bigF k x = bigF n x ∧ pre.length + k = n) := ⟨hpre, hpl⟩
    have H2 : Hid ((xs ++ pre).length + 1 ≤ 140737488355328) := (by show _ ≤ _; simp; omega)
    clear hpre hpl
    by_cases hk0 : 0 < k
    · obtain ⟨j, rfl⟩ : ∃ j, k = j + 1 := ⟨k - 1, by omega⟩
      have ho1 := how.alloc (.cells #[.int .u8 (x / 2 ^ (8 * j) % 256)] 5)
      have hr1 : Rd (wr.alloc (.cells #[.int .u8 (x / 2 ^ (8 * j) % 256)] 5)) (.slice (some ⟨wr.heap.size, 0, none⟩) 1 1) [x / 2 ^ (8 * j) % 256] := Rd.one wr _ 5 (by omega) (by omega)
      go_wp2_with (at_builtin; refine wpList_append_rd _ rfl _ _ 25 rfl w.heap.size 5 i0 z0 Tryd.underlying25 hi hz hs hb0 hc _ (xs ++ pre) rfl ho1 _ [x / 2 ^ (8 * j) % 256] rfl hr1 H2.out (by simp; omega) ?_; intro v' w2 hown hgrow hat)
      go_roundw
      case rel =>
        obtain ⟨hpre, hpl⟩ := H.out
        exact ⟨j, pre ++ [x / 2 ^ (8 * j) % 256], by omega, by go_num, by simpa [bigF] using hpre, by simp; omega, by simpa using hown, (hbel.alloc hbw _).grown hgrow (by simp; omega) (own_ge how)⟩
      case measure => simp [intOf]
    · obtain rfl : k = 0 := by omega
      go_wp2
      go_ret
      refine ⟨_, rfl, ?_, hbel⟩
      obtain ⟨hpre, hpl⟩ := H.out
      rw [← hpre]
      simpa [bigF] using how

set_option maxHeartbeats 1000000 in
set_option maxRecDepth 100000 in
theorem putBig_ok (v : Value) (xs : List Int) (x : Int) (n : Nat) (w : World) (h : Rd w v xs) (hx0 : 0 ≤ x) (_hx1 : x < 18446744073709551616) (hn : 1 ≤ n) (hn8 : n ≤ 8) (hx : x < 2 ^ (8 * n)) (hl : xs.length + 10 ≤ 140737488355328) :
    Calls Tryd.prog 40 #[v, .int .u64 x, .int .i64 n] w fun e w' => ∃ v', e = .returned (.tuple #[v', .int .i64 0]) ∧ Own 5 w' w.heap.size v' (xs ++ bigF n x) ∧ Below w.heap.size w w' := by
  obtain ⟨i0, z0, hi, hz, hs, hb0, hc, _⟩ := info5
  have hsh : x / 2 ^ (8 * n) = 0 := Int.ediv_eq_zero_of_lt hx0 hx
  go_enter Tryd.func40, Tryd.ntmps40
  go_wp2_with fail
  refine (clone_any v xs _ h (by omega)).mono ?_
  rintro e w1 ⟨v1, rfl, hown1, hb1⟩
  clear h
  go_wp2_with fail
  go_loopw [8, 24] (fun q i wr => ∃ (k : Nat) (pre : List Int), k ≤ n ∧ i = .int .i64 (k : Int) ∧ pre ++ bigF (n - k) x = bigF n x ∧ pre.length = k ∧ Own 5 wr w.heap.size q (xs ++ pre) ∧ Below w.heap.size w wr) (fun _ i _ => n - (intOf i).toNat)
  case atStart => exact ⟨0, [], Nat.zero_le _, rfl, rfl, rfl, by simpa using hown1, hb1⟩
  case round =>
    obtain ⟨k, pre, hk, rfl, hpre, hpl, how, hbel⟩ := hrel
    have hbw : w.heap.size ≤ wr.heap.size := hbel.size
    have H : Hid (pre ++ bigF (n - k) x = bigF n x ∧ pre.length = k) := ⟨hpre, hpl⟩
    have H2 : Hid ((xs ++ pre).length + 1 ≤ 140737488355328) := (by show _ ≤ _; simp; omega)
    clear hpre hpl
    by_cases hk0 : k < n
    · obtain ⟨j, hj⟩ : ∃ j, n = k + j + 1 := ⟨n - k - 1, by omega⟩
      have HJ : Hid (n = k + j + 1) := hj
      have ho1 := how.alloc (.cells #[.int .u8 (x / 2 ^ (8 * j) % 256)] 5)
      have hr1 : Rd (wr.alloc (.cells #[.int .u8 (x / 2 ^ (8 * j) % 256)] 5)) (.slice (some ⟨wr.heap.size, 0, none⟩) 1 1) [x / 2 ^ (8 * j) % 256] := Rd.one wr _ 5 (by omega) (by omega)
      have hsub : (n : Int) - 1 - (k : Int) = (j : Int) := by omega
      have hj8 : j ≤ 8 := by omega
      clear hj
      go_wp2_with (at_builtin; refine wpList_append_rd _ rfl _ _ 25 rfl w.heap.size 5 i0 z0 Tryd.underlying25 hi hz hs hb0 hc _ (xs ++ pre) rfl ho1 _ [x / 2 ^ (8 * j) % 256] rfl hr1 H2.out (by simp; omega) ?_; intro v' w2 hown hgrow hat)
      go_roundw
      case rel =>
        obtain ⟨hpre, hpl⟩ := H.out
        have hj := HJ.out
        rw [show n - k = j + 1 from by omega] at hpre
        exact ⟨k + 1, pre ++ [x / 2 ^ (8 * j) % 256], by omega, by go_num, by rw [show n - (k + 1) = j from by omega]; simpa [bigF] using hpre, by simp; omega, by simpa using hown, (hbel.alloc hbw _).grown hgrow (by simp; omega) (own_ge how)⟩
      case measure => simp [intOf]; omega
    · obtain rfl : k = n := by omega
      go_wp2
      go_ret2
      refine ⟨_, rfl, ?_, hbel⟩
      obtain ⟨hpre, hpl⟩ := H.out
      rw [← hpre]
      simpa [bigF] using how

end Go.Proofs.YthkaohkondkhgaaDoor.Nu
