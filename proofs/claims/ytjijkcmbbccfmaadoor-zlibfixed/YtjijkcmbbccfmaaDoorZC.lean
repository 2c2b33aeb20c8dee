/-
  The walk of ZlibFixed.
-/
import Derived.Test.YtjijkcmbbccfmaaDoorZW
import Derived.Test.YtjijkcmbbccfmaaDoorZ4
namespace Go.Proofs.YtjijkcmbbccfmaaDoor
open Go.RowKit

theorem zx_a : wrpF [] 2 = ([120, 1, 3, 0, 0, 0, 0, 1], 0) := by kernel_rfl
theorem zx_b : wrpF [] 3 = ([], 1) := by kernel_rfl
theorem zx_g : unF [120] 9 = .error 5 := by kernel_rfl
theorem zx_h : unF [120, 2, 3, 0, 0, 0, 0, 1] 9 = .error 4 := by kernel_rfl
theorem zx_i : unF [120, 1, 3, 0, 0, 0, 0, 2] 9 = .error 6 := by kernel_rfl
theorem zx_j : unF [120, 1, 3, 0, 0, 0, 0] 9 = .error 5 := by kernel_rfl
theorem zx_k : unF [120, 32, 3, 0, 0, 0, 0, 1] 9 = .error 4 := by kernel_rfl
theorem zx_m : unF [120, 156, 3, 0, 0, 0, 0, 1, 77] 0 = .ok ([], 8) := by kernel_rfl
theorem zx_s : adlF [] = 1 := rfl
theorem zx_c : crcF [] = 0 := by kernel_rfl
theorem unwrap_lit (xs : List Int) (most : Nat) (c : Int) (w : World) (hT : Tab w) (hx : xs.length ≤ 1000) (ha : AllB xs) (hm : most ≤ 1048576) (he : unF xs most = .error c) :
    Calls Tryd.prog 16 #[.slice (some ⟨w.heap.size, 0, none⟩) xs.length xs.length, .int .i64 most] (w.alloc (.cells (cellsK .u8 xs).toArray 5)) fun e w' => e = .returned (.tuple #[.slice none 0 0, .int .i64 0, .int .i64 c]) ∧ Below w.heap.size w w' := by
  have hb := (Below.refl w.heap.size w).alloc (Nat.le_refl _) (.cells (cellsK .u8 xs).toArray 5)
  have h := unwrap_any _ xs most _ (hT.far hb) (Rd.lit .u8 w xs 5 hx) ha (by omega) hm
  rw [he] at h
  exact h.mono fun e w' hp => ⟨hp.1, hb.trans (hp.2.mono hb.size)⟩

set_option maxHeartbeats 4000000 in
set_option maxRecDepth 100000 in
theorem zfixed_walk (w : World) (hT : Tab w) : Calls Tryd.prog 6 #[] w fun e w' => e = .returned (.bool true) ∧ Below w.heap.size w w' := by
  have KT := Kept.mk hT
  have KW := Kept.mk (awake_any w)
  have K1 := wrap_any (.slice none 0 0) [] 2
  have K2 := wrap_any (.slice none 0 0) [] 3
  rw [zx_a] at K1
  rw [zx_b] at K2
  have K1 := Kept.mk K1
  have K2 := Kept.mk K2
  clear hT
  go_enter Tryd.func6, Tryd.ntmps6
  go_wp2_with fail
  refine Calls.mono KW.out (fun e w1 hp => ?_)
  obtain ⟨rfl, hb⟩ := hp
  have KB := Kept.mk hb
  clear hb
  go_wp2_with fail
  refine Calls.mono (K1.out w1 (Rd.nil _ _ _) AllIn.nil) (fun e w2 hp => ?_)
  obtain ⟨va, rfl, ho, hb⟩ := hp
  have KB := Kept.mk (KB.out.trans (hb.mono KB.out.size))
  have Ka := Kept.mk ho
  clear hb ho
  go_wp2_with fail
  refine Calls.mono (K2.out w2 (Rd.nil _ _ _) AllIn.nil) (fun e w3 hp => ?_)
  obtain ⟨vb, rfl, -, hb⟩ := hp
  have KB := Kept.mk (KB.out.trans (hb.mono KB.out.size))
  have Ka := Kept.mk (Ka.out.later hb (Nat.le_refl _))
  clear hb K1 K2
  have K1 : Kept (Calls Tryd.prog 16 #[.slice (some ⟨w3.heap.size, 0, none⟩) 1 1, .int .i64 9] (w3.alloc (.cells #[.int .u8 120] 5)) fun e w' => e = .returned (.tuple #[.slice none 0 0, .int .i64 0, .int .i64 5]) ∧ Below w3.heap.size w3 w') := ⟨unwrap_lit [120] 9 5 w3 (KT.out.far KB.out) (by simp) (allB_lit rfl) (by omega) zx_g⟩
  go_wp2_with fail
  refine Calls.mono K1.out (fun e w4 hp => ?_)
  obtain ⟨rfl, hb⟩ := hp
  have KB := Kept.mk (KB.out.trans (hb.mono KB.out.size))
  have Ka := Kept.mk (Ka.out.later hb (Nat.le_refl _))
  clear hb K1
  have K1 : Kept (Calls Tryd.prog 16 #[.slice (some ⟨w4.heap.size, 0, none⟩) 8 8, .int .i64 9] (w4.alloc (.cells #[.int .u8 120, .int .u8 2, .int .u8 3, .int .u8 0, .int .u8 0, .int .u8 0, .int .u8 0, .int .u8 1] 5)) fun e w' => e = .returned (.tuple #[.slice none 0 0, .int .i64 0, .int .i64 4]) ∧ Below w4.heap.size w4 w') := ⟨unwrap_lit [120, 2, 3, 0, 0, 0, 0, 1] 9 4 w4 (KT.out.far KB.out) (by simp) (allB_lit rfl) (by omega) zx_h⟩
  go_wp2_with fail
  refine Calls.mono K1.out (fun e w5 hp => ?_)
  obtain ⟨rfl, hb⟩ := hp
  have KB := Kept.mk (KB.out.trans (hb.mono KB.out.size))
  have Ka := Kept.mk (Ka.out.later hb (Nat.le_refl _))
  clear hb K1
  have K1 : Kept (Calls Tryd.prog 16 #[.slice (some ⟨w5.heap.size, 0, none⟩) 8 8, .int .i64 9] (w5.alloc (.cells #[.int .u8 120, .int .u8 1, .int .u8 3, .int .u8 0, .int .u8 0, .int .u8 0, .int .u8 0, .int .u8 2] 5)) fun e w' => e = .returned (.tuple #[.slice none 0 0, .int .i64 0, .int .i64 6]) ∧ Below w5.heap.size w5 w') := ⟨unwrap_lit [120, 1, 3, 0, 0, 0, 0, 2] 9 6 w5 (KT.out.far KB.out) (by simp) (allB_lit rfl) (by omega) zx_i⟩
  go_wp2_with fail
  refine Calls.mono K1.out (fun e w6 hp => ?_)
  obtain ⟨rfl, hb⟩ := hp
  have KB := Kept.mk (KB.out.trans (hb.mono KB.out.size))
  have Ka := Kept.mk (Ka.out.later hb (Nat.le_refl _))
  clear hb K1
  have K1 : Kept (Calls Tryd.prog 16 #[.slice (some ⟨w6.heap.size, 0, none⟩) 7 7, .int .i64 9] (w6.alloc (.cells #[.int .u8 120, .int .u8 1, .int .u8 3, .int .u8 0, .int .u8 0, .int .u8 0, .int .u8 0] 5)) fun e w' => e = .returned (.tuple #[.slice none 0 0, .int .i64 0, .int .i64 5]) ∧ Below w6.heap.size w6 w') := ⟨unwrap_lit [120, 1, 3, 0, 0, 0, 0] 9 5 w6 (KT.out.far KB.out) (by simp) (allB_lit rfl) (by omega) zx_j⟩
  go_wp2_with fail
  refine Calls.mono K1.out (fun e w7 hp => ?_)
  obtain ⟨rfl, hb⟩ := hp
  have KB := Kept.mk (KB.out.trans (hb.mono KB.out.size))
  have Ka := Kept.mk (Ka.out.later hb (Nat.le_refl _))
  clear hb K1
  have K1 : Kept (Calls Tryd.prog 16 #[.slice (some ⟨w7.heap.size, 0, none⟩) 8 8, .int .i64 9] (w7.alloc (.cells #[.int .u8 120, .int .u8 32, .int .u8 3, .int .u8 0, .int .u8 0, .int .u8 0, .int .u8 0, .int .u8 1] 5)) fun e w' => e = .returned (.tuple #[.slice none 0 0, .int .i64 0, .int .i64 4]) ∧ Below w7.heap.size w7 w') := ⟨unwrap_lit [120, 32, 3, 0, 0, 0, 0, 1] 9 4 w7 (KT.out.far KB.out) (by simp) (allB_lit rfl) (by omega) zx_k⟩
  go_wp2_with fail
  refine Calls.mono K1.out (fun e w8 hp => ?_)
  obtain ⟨rfl, hb⟩ := hp
  have KB := Kept.mk (KB.out.trans (hb.mono KB.out.size))
  have Ka := Kept.mk (Ka.out.later hb (Nat.le_refl _))
  clear hb K1
  have K1 := Kept.mk (unwrap_arg (v := .slice none 0 0) w8 (-1) (Or.inl (by omega)))
  go_wp2_with fail
  refine Calls.mono K1.out (fun e w9 hp => ?_)
  obtain ⟨rfl, rfl⟩ := hp
  clear K1
  have K1 : Kept (Calls Tryd.prog 16 #[.slice (some ⟨w9.heap.size, 0, none⟩) 9 9, .int .i64 0] (w9.alloc (.cells #[.int .u8 120, .int .u8 156, .int .u8 3, .int .u8 0, .int .u8 0, .int .u8 0, .int .u8 0, .int .u8 1, .int .u8 77] 5)) fun e w' => ∃ v, e = .returned (.tuple #[v, .int .i64 8, .int .i64 0]) ∧ Own .u8 5 w' w9.heap.size v [] ∧ Below w9.heap.size w9 w') := ⟨by
    have hb := (Below.refl w9.heap.size w9).alloc (Nat.le_refl _) (.cells (cellsK .u8 [120, 156, 3, 0, 0, 0, 0, 1, 77]).toArray 5)
    have h := unwrap_any _ [120, 156, 3, 0, 0, 0, 0, 1, 77] 0 _ ((KT.out.far KB.out).far hb) (Rd.lit .u8 w9 [120, 156, 3, 0, 0, 0, 0, 1, 77] 5 (by simp)) (allB_lit rfl) (by simp) (by omega)
    rw [zx_m] at h
    exact h.mono fun e w' hp => by
      obtain ⟨v, h1, h2, -, h3⟩ := hp
      exact ⟨v, h1, h2.mono hb.size, hb.trans (h3.mono hb.size)⟩⟩
  go_wp2_with fail
  refine Calls.mono K1.out (fun e w10 hp => ?_)
  obtain ⟨vm, rfl, ho, hb⟩ := hp
  have hform := ho.rd.form
  simp only [List.length_nil] at hform
  obtain ⟨ma, mc, rfl, -, -, -⟩ := hform
  have KB := Kept.mk (KB.out.trans (hb.mono KB.out.size))
  have Ka := Kept.mk (Ka.out.later hb (Nat.le_refl _))
  clear hb K1 ho
  have K1 := adler_any w10 (.slice none 0 0) [] AllIn.nil (Rd.nil .u8 anyB w10)
  rw [zx_s] at K1
  have K1 := Kept.mk K1
  have K2 := crc_any w10 (.slice none 0 0) [] AllIn.nil (Rd.nil .u8 anyB w10)
  rw [zx_c] at K2
  have K2 := Kept.mk K2
  have hbA := (Below.refl w10.heap.size w10).alloc (Nat.le_refl _) (.cells (cellsK .u8 [120, 1, 3, 0, 0, 0, 0, 1]).toArray 5)
  have S1 := same_any _ _ _ _ _ (Ka.out.later hbA (Nat.le_refl _)).rd (Rd.lit .u8 w10 [120, 1, 3, 0, 0, 0, 0, 1] 5 (by simp)) (allB_lit rfl) (allB_lit rfl)
  rw [decide_eq_true rfl] at S1
  have S1 := Kept.mk S1
  obtain ⟨wz, hwz⟩ : ∃ wz, w10.alloc (.cells (cellsK .u8 [120, 1, 3, 0, 0, 0, 0, 1]).toArray 5) = wz := ⟨_, rfl⟩
  have hwz' : w10.alloc (.cells #[.int .u8 120, .int .u8 1, .int .u8 3, .int .u8 0, .int .u8 0, .int .u8 0, .int .u8 0, .int .u8 1] 5) = wz := hwz
  rw [hwz] at hbA S1
  have KB := Kept.mk (KB.out.trans (hbA.mono KB.out.size))
  clear hwz hbA Ka
  go_wp2_with (first | (go_at_call 17; refine Calls.mono K1.out (fun e wx hp => ?_); obtain ⟨rfl, rfl⟩ := hp) | (go_at_call 18; refine Calls.mono K2.out (fun e wx hp => ?_); obtain ⟨rfl, rfl⟩ := hp) | (go_at_call 13; refine Calls.mono S1.out (fun e wx hp => ?_); obtain ⟨rfl, rfl⟩ := hp))
  go_ret
  exact ⟨rfl, KB.out⟩
end Go.Proofs.YtjijkcmbbccfmaaDoor
