/-
  Walks: Head and DocHead.
-/
import Derived.Test.YtpleamahaogfiabW13
import Derived.Deep.QuietTactic
import Derived.BigQuiet
namespace Go.Proofs.Ytpleamahaogfiab
open Go.RowKit

def restL (xs : List Int) (n m : Nat) : List Int := (xs.drop (n + 1)).take (m - 1)
def headT (xs : List Int) (t : Int) : Int × Int × Int × Int :=
  if (endS xs t).2 = 0 then
    if sizeV (restL xs t.toNat ((endS xs t).1 - t).toNat) < 1152921504606846976 then (xs.getD t.toNat 0 / 16 % 8, sizeV (restL xs t.toNat ((endS xs t).1 - t).toNat) * 16 + xs.getD t.toNat 0 % 16, (endS xs t).1, 0) else (0, 0, 0, 10)
  else (0, 0, 0, (endS xs t).2)
theorem headT_some {xs : List Int} {n m : Nat} (he : (endS xs n).2 = 0) (h1 : (endS xs n).1 = (n : Int) + m) :
    headT xs n = if sizeV (restL xs n m) < 1152921504606846976 then (xs.getD n 0 / 16 % 8, sizeV (restL xs n m) * 16 + xs.getD n 0 % 16, (n : Int) + m, 0) else (0, 0, 0, 10) := by
  unfold headT
  rw [if_pos he, h1, Int.toNat_natCast, show ((n : Int) + m - n).toNat = m from by omega]

set_option maxHeartbeats 1000000 in
theorem head_ok (b off c : Nat) (xs : List Int) (n m : Nat) (w : World) (av : Option Addr) (cv : Nat) (hav : c = n + 1 ∧ av = some ⟨b, off, none⟩ ∧ cv = 0 ∨ ¬ c = n + 1 ∧ av = some ⟨b, off + (n + 1), none⟩ ∧ cv = c - (n + 1)) (hm1 : 1 ≤ m) (hnm : n + m ≤ xs.length) (hcap : xs.length ≤ c) (hcap2 : c ≤ 9223372036854775807) (hA : AllB xs)
    (hc0 : w.cell? ⟨b, off + n, none⟩ = some (.int .u8 (xs.getD n 0)))
    (hcon : Calls Try.prog 34 #[.slice (some ⟨b, off, none⟩) xs.length c, .int .i64 n] w fun e w' => e = .returned (.tuple #[.int .i64 ((n : Int) + m), .int .i64 0]) ∧ w = w')
    (hcs : Calls Try.prog 35 #[.slice av (n + m - (n + 1)) cv] w fun e w' => e = .returned (.tuple #[.int .u64 (sizeOut (restL xs n m)), .bool (sizeOk (restL xs n m))]) ∧ w' = w)
    (hV : sizeV (restL xs n m) < 1152921504606846976) :
    Calls Try.prog 26 #[.slice (some ⟨b, off, none⟩) xs.length c, .int .i64 n] w fun e w' => e = .returned (.tuple #[.int .i64 (xs.getD n 0 / 16 % 8), .int .u64 (sizeV (restL xs n m) * 16 + xs.getD n 0 % 16), .int .i64 ((n : Int) + m), .int .i64 0]) ∧ Below w.heap.size w w' := by
  have hy := hA.getD n
  have hV0 := sizeV_nonneg (restL xs n m)
  rw [show sizeOk (restL xs n m) = true from by simp [sizeOk]; omega, show sizeOut (restL xs n m) = sizeV (restL xs n m) from by simp [sizeOut]; omega] at hcs
  generalize sizeV (restL xs n m) = V at *
  generalize xs.getD n 0 = y at *
  have HC : Hid _ := hcon
  have HCS : Hid _ := hcs
  clear hcon hcs
  have hb1 : (n : Int) + m ≤ xs.length := by omega
  have hb2 : (n : Int) + m ≤ c := by omega
  have hb4 : (n : Int) < xs.length := by omega
  have hm2 : (1 : Int) ≤ m := by omega
  have e7 := u8_and7m (y / 16) (by omega) (by omega)
  have e15 := u8_and15m y (by omega) (by omega)
  have eor := or_low4 V (y % 16) hV0 (by omega) (by omega) (by omega)
  rcases hav with ⟨rfl, rfl, rfl⟩ | ⟨hb3, rfl, rfl⟩
  · go_enter Try.func26, Try.ntmps26
    go_wp2_with fail
    refine Calls.mono HC.out (fun e w1 hp => ?_)
    obtain ⟨rfl, rfl⟩ := hp
    go_wp2_with fail
    refine Calls.mono HCS.out (fun e w1 hp => ?_)
    obtain ⟨rfl, hw⟩ := hp
    subst hw
    go_wp2_with fail
    go_quiet (fail)
    go_wp2
    exact bodyPost_ret (v := .tuple #[.int .i64 (y / 16 % 8), .int .u64 (V * 16 + y % 16), .int .i64 ((n : Int) + m), .int .i64 0]) (by simp [results, Try.results26, go_sem]) rfl ⟨rfl, below_drewN (Below.refl _ _) _⟩
  · go_enter Try.func26, Try.ntmps26
    go_wp2_with fail
    refine Calls.mono HC.out (fun e w1 hp => ?_)
    obtain ⟨rfl, rfl⟩ := hp
    go_wp2_with fail
    refine Calls.mono HCS.out (fun e w1 hp => ?_)
    obtain ⟨rfl, hw⟩ := hp
    subst hw
    go_wp2_with fail
    go_quiet (fail)
    go_wp2
    exact bodyPost_ret (v := .tuple #[.int .i64 (y / 16 % 8), .int .u64 (V * 16 + y % 16), .int .i64 ((n : Int) + m), .int .i64 0]) (by simp [results, Try.results26, go_sem]) rfl ⟨rfl, below_drewN (Below.refl _ _) _⟩

set_option maxHeartbeats 1000000 in
theorem head_lim (b off c : Nat) (xs : List Int) (n m : Nat) (w : World) (av : Option Addr) (cv : Nat) (hav : c = n + 1 ∧ av = some ⟨b, off, none⟩ ∧ cv = 0 ∨ ¬ c = n + 1 ∧ av = some ⟨b, off + (n + 1), none⟩ ∧ cv = c - (n + 1)) (hm1 : 1 ≤ m) (hnm : n + m ≤ xs.length) (hcap : xs.length ≤ c) (hcap2 : c ≤ 9223372036854775807)
    (hcon : Calls Try.prog 34 #[.slice (some ⟨b, off, none⟩) xs.length c, .int .i64 n] w fun e w' => e = .returned (.tuple #[.int .i64 ((n : Int) + m), .int .i64 0]) ∧ w = w')
    (hcs : Calls Try.prog 35 #[.slice av (n + m - (n + 1)) cv] w fun e w' => e = .returned (.tuple #[.int .u64 (sizeOut (restL xs n m)), .bool (sizeOk (restL xs n m))]) ∧ w' = w)
    (hV : ¬ sizeV (restL xs n m) < 1152921504606846976) :
    Calls Try.prog 26 #[.slice (some ⟨b, off, none⟩) xs.length c, .int .i64 n] w fun e w' => e = .returned (.tuple #[.int .i64 0, .int .u64 0, .int .i64 0, .int .i64 10]) ∧ Below w.heap.size w w' := by
  have hV0 := sizeV_nonneg (restL xs n m)
  by_cases hf : sizeV (restL xs n m) < 18446744073709551616
  · rw [show sizeOk (restL xs n m) = true from by simp [sizeOk]; omega, show sizeOut (restL xs n m) = sizeV (restL xs n m) from by simp [sizeOut]; omega] at hcs
    generalize sizeV (restL xs n m) = V at *
    have HC : Hid _ := hcon
    have HCS : Hid _ := hcs
    clear hcon hcs
    have hb1 : (n : Int) + m ≤ xs.length := by omega
    have hb2 : (n : Int) + m ≤ c := by omega
    have hb4 : (n : Int) < xs.length := by omega
    have hm2 : (1 : Int) ≤ m := by omega
    rcases hav with ⟨rfl, rfl, rfl⟩ | ⟨hb3, rfl, rfl⟩
    · go_enter Try.func26, Try.ntmps26
      go_wp2_with fail
      refine Calls.mono HC.out (fun e w1 hp => ?_)
      obtain ⟨rfl, rfl⟩ := hp
      go_wp2_with fail
      refine Calls.mono HCS.out (fun e w1 hp => ?_)
      obtain ⟨rfl, hw⟩ := hp
      subst hw
      go_wp2
      exact bodyPost_ret (v := .tuple #[.int .i64 0, .int .u64 0, .int .i64 0, .int .i64 10]) (by simp [results, Try.results26, go_sem]) rfl ⟨rfl, Below.refl _ _⟩
    · go_enter Try.func26, Try.ntmps26
      go_wp2_with fail
      refine Calls.mono HC.out (fun e w1 hp => ?_)
      obtain ⟨rfl, rfl⟩ := hp
      go_wp2_with fail
      refine Calls.mono HCS.out (fun e w1 hp => ?_)
      obtain ⟨rfl, hw⟩ := hp
      subst hw
      go_wp2
      exact bodyPost_ret (v := .tuple #[.int .i64 0, .int .u64 0, .int .i64 0, .int .i64 10]) (by simp [results, Try.results26, go_sem]) rfl ⟨rfl, Below.refl _ _⟩
  · rw [show sizeOk (restL xs n m) = false from by simp [sizeOk]; omega] at hcs
    generalize sizeOut (restL xs n m) = V at *
    clear hV hf hV0
    have HC : Hid _ := hcon
    have HCS : Hid _ := hcs
    clear hcon hcs
    have hb1 : (n : Int) + m ≤ xs.length := by omega
    have hb2 : (n : Int) + m ≤ c := by omega
    have hb4 : (n : Int) < xs.length := by omega
    have hm2 : (1 : Int) ≤ m := by omega
    rcases hav with ⟨rfl, rfl, rfl⟩ | ⟨hb3, rfl, rfl⟩
    · go_enter Try.func26, Try.ntmps26
      go_wp2_with fail
      refine Calls.mono HC.out (fun e w1 hp => ?_)
      obtain ⟨rfl, rfl⟩ := hp
      go_wp2_with fail
      refine Calls.mono HCS.out (fun e w1 hp => ?_)
      obtain ⟨rfl, hw⟩ := hp
      subst hw
      go_wp2
      exact bodyPost_ret (v := .tuple #[.int .i64 0, .int .u64 0, .int .i64 0, .int .i64 10]) (by simp [results, Try.results26, go_sem]) rfl ⟨rfl, Below.refl _ _⟩
    · go_enter Try.func26, Try.ntmps26
      go_wp2_with fail
      refine Calls.mono HC.out (fun e w1 hp => ?_)
      obtain ⟨rfl, rfl⟩ := hp
      go_wp2_with fail
      refine Calls.mono HCS.out (fun e w1 hp => ?_)
      obtain ⟨rfl, hw⟩ := hp
      subst hw
      go_wp2
      exact bodyPost_ret (v := .tuple #[.int .i64 0, .int .u64 0, .int .i64 0, .int .i64 10]) (by simp [results, Try.results26, go_sem]) rfl ⟨rfl, Below.refl _ _⟩

set_option maxHeartbeats 1000000 in
theorem docHead_ok (b off c : Nat) (xs : List Int) (n m : Nat) (w : World) (av : Option Addr) (cv : Nat) (hav : c = n + 1 ∧ av = some ⟨b, off, none⟩ ∧ cv = 0 ∨ ¬ c = n + 1 ∧ av = some ⟨b, off + (n + 1), none⟩ ∧ cv = c - (n + 1)) (hm1 : 1 ≤ m) (hnm : n + m ≤ xs.length) (hcap : xs.length ≤ c) (hcap2 : c ≤ 9223372036854775807) (hA : AllB xs)
    (hc0 : w.cell? ⟨b, off + n, none⟩ = some (.int .u8 (xs.getD n 0)))
    (hcon : Calls Try.prog 36 #[.slice (some ⟨b, off, none⟩) xs.length c, .int .i64 n] w fun e w' => e = .returned (.int .i64 ((n : Int) + m)) ∧ w = w')
    (hcs : Calls Try.prog 37 #[.slice av (n + m - (n + 1)) cv] w fun e w' => e = .returned (.tuple #[.int .u64 (sizeOut (restL xs n m)), .bool (sizeOk (restL xs n m))]) ∧ w' = w)
    (hV : sizeV (restL xs n m) < 1152921504606846976) :
    Calls Try.prog 27 #[.slice (some ⟨b, off, none⟩) xs.length c, .int .i64 n] w fun e w' => e = .returned (.tuple #[.int .i64 (xs.getD n 0 / 16 % 8), .int .u64 (sizeV (restL xs n m) * 16 + xs.getD n 0 % 16), .int .i64 ((n : Int) + m), .int .i64 0]) ∧ Below w.heap.size w w' := by
  have hy := hA.getD n
  have hV0 := sizeV_nonneg (restL xs n m)
  rw [show sizeOk (restL xs n m) = true from by simp [sizeOk]; omega, show sizeOut (restL xs n m) = sizeV (restL xs n m) from by simp [sizeOut]; omega] at hcs
  generalize sizeV (restL xs n m) = V at *
  generalize xs.getD n 0 = y at *
  have HC : Hid _ := hcon
  have HCS : Hid _ := hcs
  clear hcon hcs
  have hb1 : (n : Int) + m ≤ xs.length := by omega
  have hb2 : (n : Int) + m ≤ c := by omega
  have hb4 : (n : Int) < xs.length := by omega
  have hm2 : (1 : Int) ≤ m := by omega
  rcases hav with ⟨rfl, rfl, rfl⟩ | ⟨hb3, rfl, rfl⟩
  · go_enter Try.func27, Try.ntmps27
    go_wp2_with fail
    refine Calls.mono HC.out (fun e w1 hp => ?_)
    obtain ⟨rfl, rfl⟩ := hp
    go_wp2_with fail
    refine Calls.mono HCS.out (fun e w1 hp => ?_)
    obtain ⟨rfl, hw⟩ := hp
    subst hw
    go_wp2_with fail
    go_quiet (fail)
    go_wp2
    exact bodyPost_ret (v := .tuple #[.int .i64 (y / 16 % 8), .int .u64 (V * 16 + y % 16), .int .i64 ((n : Int) + m), .int .i64 0]) (by simp [results, Try.results27, go_sem]) rfl ⟨rfl, below_drewN (Below.refl _ _) _⟩
  · go_enter Try.func27, Try.ntmps27
    go_wp2_with fail
    refine Calls.mono HC.out (fun e w1 hp => ?_)
    obtain ⟨rfl, rfl⟩ := hp
    go_wp2_with fail
    refine Calls.mono HCS.out (fun e w1 hp => ?_)
    obtain ⟨rfl, hw⟩ := hp
    subst hw
    go_wp2_with fail
    go_quiet (fail)
    go_wp2
    exact bodyPost_ret (v := .tuple #[.int .i64 (y / 16 % 8), .int .u64 (V * 16 + y % 16), .int .i64 ((n : Int) + m), .int .i64 0]) (by simp [results, Try.results27, go_sem]) rfl ⟨rfl, below_drewN (Below.refl _ _) _⟩

set_option maxHeartbeats 1000000 in
theorem docHead_lim (b off c : Nat) (xs : List Int) (n m : Nat) (w : World) (av : Option Addr) (cv : Nat) (hav : c = n + 1 ∧ av = some ⟨b, off, none⟩ ∧ cv = 0 ∨ ¬ c = n + 1 ∧ av = some ⟨b, off + (n + 1), none⟩ ∧ cv = c - (n + 1)) (hm1 : 1 ≤ m) (hnm : n + m ≤ xs.length) (hcap : xs.length ≤ c) (hcap2 : c ≤ 9223372036854775807)
    (hcon : Calls Try.prog 36 #[.slice (some ⟨b, off, none⟩) xs.length c, .int .i64 n] w fun e w' => e = .returned (.int .i64 ((n : Int) + m)) ∧ w = w')
    (hcs : Calls Try.prog 37 #[.slice av (n + m - (n + 1)) cv] w fun e w' => e = .returned (.tuple #[.int .u64 (sizeOut (restL xs n m)), .bool (sizeOk (restL xs n m))]) ∧ w' = w)
    (hV : ¬ sizeV (restL xs n m) < 1152921504606846976) :
    Calls Try.prog 27 #[.slice (some ⟨b, off, none⟩) xs.length c, .int .i64 n] w fun e w' => e = .returned (.tuple #[.int .i64 0, .int .u64 0, .int .i64 0, .int .i64 10]) ∧ Below w.heap.size w w' := by
  have hV0 := sizeV_nonneg (restL xs n m)
  by_cases hf : sizeV (restL xs n m) < 18446744073709551616
  · rw [show sizeOk (restL xs n m) = true from by simp [sizeOk]; omega, show sizeOut (restL xs n m) = sizeV (restL xs n m) from by simp [sizeOut]; omega] at hcs
    generalize sizeV (restL xs n m) = V at *
    have HC : Hid _ := hcon
    have HCS : Hid _ := hcs
    clear hcon hcs
    have hb1 : (n : Int) + m ≤ xs.length := by omega
    have hb2 : (n : Int) + m ≤ c := by omega
    have hb4 : (n : Int) < xs.length := by omega
    have hm2 : (1 : Int) ≤ m := by omega
    rcases hav with ⟨rfl, rfl, rfl⟩ | ⟨hb3, rfl, rfl⟩
    · go_enter Try.func27, Try.ntmps27
      go_wp2_with fail
      refine Calls.mono HC.out (fun e w1 hp => ?_)
      obtain ⟨rfl, rfl⟩ := hp
      go_wp2_with fail
      refine Calls.mono HCS.out (fun e w1 hp => ?_)
      obtain ⟨rfl, hw⟩ := hp
      subst hw
      go_wp2
      exact bodyPost_ret (v := .tuple #[.int .i64 0, .int .u64 0, .int .i64 0, .int .i64 10]) (by simp [results, Try.results27, go_sem]) rfl ⟨rfl, Below.refl _ _⟩
    · go_enter Try.func27, Try.ntmps27
      go_wp2_with fail
      refine Calls.mono HC.out (fun e w1 hp => ?_)
      obtain ⟨rfl, rfl⟩ := hp
      go_wp2_with fail
      refine Calls.mono HCS.out (fun e w1 hp => ?_)
      obtain ⟨rfl, hw⟩ := hp
      subst hw
      go_wp2
      exact bodyPost_ret (v := .tuple #[.int .i64 0, .int .u64 0, .int .i64 0, .int .i64 10]) (by simp [results, Try.results27, go_sem]) rfl ⟨rfl, Below.refl _ _⟩
  · rw [show sizeOk (restL xs n m) = false from by simp [sizeOk]; omega] at hcs
    generalize sizeOut (restL xs n m) = V at *
    clear hV hf hV0
    have HC : Hid _ := hcon
    have HCS : Hid _ := hcs
    clear hcon hcs
    have hb1 : (n : Int) + m ≤ xs.length := by omega
    have hb2 : (n : Int) + m ≤ c := by omega
    have hb4 : (n : Int) < xs.length := by omega
    have hm2 : (1 : Int) ≤ m := by omega
    rcases hav with ⟨rfl, rfl, rfl⟩ | ⟨hb3, rfl, rfl⟩
    · go_enter Try.func27, Try.ntmps27
      go_wp2_with fail
      refine Calls.mono HC.out (fun e w1 hp => ?_)
      obtain ⟨rfl, rfl⟩ := hp
      go_wp2_with fail
      refine Calls.mono HCS.out (fun e w1 hp => ?_)
      obtain ⟨rfl, hw⟩ := hp
      subst hw
      go_wp2
      exact bodyPost_ret (v := .tuple #[.int .i64 0, .int .u64 0, .int .i64 0, .int .i64 10]) (by simp [results, Try.results27, go_sem]) rfl ⟨rfl, Below.refl _ _⟩
    · go_enter Try.func27, Try.ntmps27
      go_wp2_with fail
      refine Calls.mono HC.out (fun e w1 hp => ?_)
      obtain ⟨rfl, rfl⟩ := hp
      go_wp2_with fail
      refine Calls.mono HCS.out (fun e w1 hp => ?_)
      obtain ⟨rfl, hw⟩ := hp
      subst hw
      go_wp2
      exact bodyPost_ret (v := .tuple #[.int .i64 0, .int .u64 0, .int .i64 0, .int .i64 10]) (by simp [results, Try.results27, go_sem]) rfl ⟨rfl, Below.refl _ _⟩

/-- What stands behind a head's first byte, as the slice that the code makes of it. -/
theorem rest_rd {w : World} {b off c : Nat} {xs : List Int} (h : Rd w (.slice (some ⟨b, off, none⟩) xs.length c) xs) (n m : Nat) (hm1 : 1 ≤ m) (hnm : n + m ≤ xs.length) :
    ∃ av cv, (c = n + 1 ∧ av = some ⟨b, off, none⟩ ∧ cv = 0 ∨ ¬ c = n + 1 ∧ av = some ⟨b, off + (n + 1), none⟩ ∧ cv = c - (n + 1)) ∧ Rd w (.slice av (n + m - (n + 1)) cv) (restL xs n m) := by
  have hcap := h.capOf
  by_cases hc : c = n + 1
  · obtain rfl : m = 1 := by omega
    refine ⟨_, _, Or.inl ⟨hc, rfl, rfl⟩, ?_⟩
    rw [show n + 1 - (n + 1) = 0 from by omega]
    exact Rd.zero _ 0 (by unfold maxLen; omega) (fun h => by cases h)
  · refine ⟨_, _, Or.inr ⟨hc, rfl, rfl⟩, ?_⟩
    have := h.sub (n + 1) (m - 1) (by omega) (by omega)
    rw [show n + m - (n + 1) = m - 1 from by omega]
    exact this

theorem restL_le (xs : List Int) (n m : Nat) : (restL xs n m).length ≤ xs.length := by
  unfold restL
  simp
  omega

set_option maxHeartbeats 400000 in
theorem head_any (v : Value) (xs : List Int) (t : Int) (w : World) (h : Rd w v xs) (ht : t ≤ 9223372036854775807) (hl : xs.length + 20 ≤ 140737488355328) :
    Calls Try.prog 26 #[v, .int .i64 t] w fun e w' => e = .returned (.tuple #[.int .i64 (headT xs t).1, .int .u64 (headT xs t).2.1, .int .i64 (headT xs t).2.2.1, .int .i64 (headT xs t).2.2.2]) ∧ Below w.heap.size w w' := by
  have hcon := endOf_all v xs t w h ht hl
  by_cases he : (endS xs t).2 = 0
  · obtain ⟨n, m, rfl, hem, h1, hm1, hnm⟩ := endS_ok he
    rw [h1, he] at hcon
    obtain ⟨b, off, c, rfl, hlt, hc⟩ := h.open (by omega)
    have hcap := h.capOf
    obtain ⟨av, cv, hav, hrd⟩ := rest_rd h n m hm1 hnm
    have hcs := sizeValue_any _ _ w hrd (by have := restL_le xs n m; omega)
    rw [headT_some he h1]
    by_cases hV : sizeV (restL xs n m) < 1152921504606846976
    · rw [if_pos hV]
      exact head_ok b off c xs n m w av cv hav hm1 hnm hcap.1 hcap.2 h.allB (hc n (by omega)) hcon hcs hV
    · rw [if_neg hV]
      exact head_lim b off c xs n m w av cv hav hm1 hnm hcap.1 hcap.2 hcon hcs hV
  · have HR : Hid (headT xs t = (0, 0, 0, (endS xs t).2)) := (by show _ = _; unfold headT; rw [if_neg he])
    rw [HR.out]
    have hne := endS_err he
    clear he h HR
    have HC : Hid _ := hcon
    clear hcon
    generalize (endS xs t).2 = E at *
    generalize (endS xs t).1 = E1 at *
    go_enter Try.func26, Try.ntmps26
    go_wp2_with fail
    refine Calls.mono HC.out (fun e w1 hp => ?_)
    obtain ⟨rfl, rfl⟩ := hp
    go_wp2
    exact bodyPost_ret (v := .tuple #[.int .i64 0, .int .u64 0, .int .i64 0, .int .i64 E]) (by simp [results, Try.results26, go_sem]) rfl ⟨rfl, Below.refl _ _⟩

set_option maxHeartbeats 400000 in
theorem docHead_any (v : Value) (xs : List Int) (t : Int) (w : World) (h : Rd w v xs) (ht : t ≤ 9223372036854775807) (hl : xs.length + 20 ≤ 140737488355328) :
    Calls Try.prog 27 #[v, .int .i64 t] w fun e w' => e = .returned (.tuple #[.int .i64 (headT xs t).1, .int .u64 (headT xs t).2.1, .int .i64 (headT xs t).2.2.1, .int .i64 (headT xs t).2.2.2]) ∧ Below w.heap.size w w' := by
  by_cases he : (endS xs t).2 = 0
  · obtain ⟨n, m, rfl, hem, h1, hm1, hnm⟩ := endS_ok he
    have hcon0 := docEnd_pos v xs n w h ht hl
    rw [if_pos he, h1] at hcon0
    have hcon := hcon0.mono (fun e w' hp => (⟨hp.1, hp.2.symm⟩ : e = .returned (.int .i64 ((n : Int) + m)) ∧ w = w'))
    obtain ⟨b, off, c, rfl, hlt, hc⟩ := h.open (by omega)
    have hcap := h.capOf
    obtain ⟨av, cv, hav, hrd⟩ := rest_rd h n m hm1 hnm
    have hcs := docSizeV_any _ _ w hrd (by have := restL_le xs n m; omega)
    rw [headT_some he h1]
    by_cases hV : sizeV (restL xs n m) < 1152921504606846976
    · rw [if_pos hV]
      exact docHead_ok b off c xs n m w av cv hav hm1 hnm hcap.1 hcap.2 h.allB (hc n (by omega)) hcon hcs hV
    · rw [if_neg hV]
      exact docHead_lim b off c xs n m w av cv hav hm1 hnm hcap.1 hcap.2 hcon hcs hV
  · have HR : Hid (headT xs t = (0, 0, 0, (endS xs t).2)) := (by show _ = _; unfold headT; rw [if_neg he])
    rw [HR.out]
    clear HR
    rcases endS_cases he with ⟨h0, h1⟩ | ⟨h0, h1⟩
    · rw [h1]
      clear h1 he h
      go_enter Try.func27, Try.ntmps27
      go_wp2
      exact bodyPost_ret (v := .tuple #[.int .i64 0, .int .u64 0, .int .i64 0, .int .i64 1]) (by simp [results, Try.results27, go_sem]) rfl ⟨rfl, Below.refl _ _⟩
    · obtain ⟨n, rfl⟩ := Int.eq_ofNat_of_zero_le h0
      have hcon := docEnd_pos v xs n w h ht hl
      rw [if_neg he] at hcon
      rw [h1]
      have HC : Hid _ := hcon
      clear hcon h1 he h
      go_enter Try.func27, Try.ntmps27
      go_wp2_with fail
      refine Calls.mono HC.out (fun e w1 hp => ?_)
      obtain ⟨rfl, hw⟩ := hp
      subst hw
      go_wp2
      exact bodyPost_ret (v := .tuple #[.int .i64 0, .int .u64 0, .int .i64 0, .int .i64 5]) (by simp [results, Try.results27, go_sem]) rfl ⟨rfl, Below.refl _ _⟩
end Go.Proofs.Ytpleamahaogfiab
