/-
  Walks: Span and DocSpan.
-/
import Derived.Test.YtpleamahaogfiabW12
namespace Go.Proofs.Ytpleamahaogfiab
open Go.RowKit

def spanT (xs : List Int) (n m : Nat) : Option Int := spanR (xs.getD n 0 % 128) ((xs.drop (n + 1)).take (m - 1))
def spanS (xs : List Int) (t : Int) : Int × Int × Int :=
  if (endS xs t).2 = 0 then
    match spanT xs t.toNat ((endS xs t).1 - t).toNat with
    | none => (0, 0, 10)
    | some V => (V, (endS xs t).1, 0)
  else (0, 0, (endS xs t).2)
theorem spanS_some {xs : List Int} {n m : Nat} (he : (endS xs n).2 = 0) (h1 : (endS xs n).1 = (n : Int) + m) :
    spanS xs n = match spanT xs n m with
    | none => (0, 0, 10)
    | some V => (V, (n : Int) + m, 0) := by
  unfold spanS
  rw [if_pos he, h1, Int.toNat_natCast, show ((n : Int) + m - n).toNat = m from by omega]

theorem seg_get (xs : List Int) (n m k : Nat) (hk : k < m - 1) (h : n + m ≤ xs.length) : ((xs.drop (n + 1)).take (m - 1)).drop k = xs.getD (n + 1 + k) 0 :: ((xs.drop (n + 1)).take (m - 1)).drop (k + 1) := by
  rw [List.drop_eq_getElem_cons (by simp; omega)]
  simp [List.getD, List.getElem?_eq_getElem (show n + 1 + k < xs.length by omega)]

set_option maxHeartbeats 1000000 in
theorem span_ok (b off c : Nat) (xs : List Int) (n m : Nat) (w : World) (hm1 : 2 ≤ m) (hnm : n + m ≤ xs.length) (hcap : xs.length ≤ c) (hcap2 : c ≤ 9223372036854775807) (hA : AllB xs)
    (hc : ∀ i, i < xs.length → w.cell? ⟨b, off + i, none⟩ = some (.int .u8 (xs.getD i 0)))
    (hcon : Calls Try.prog 34 #[.slice (some ⟨b, off, none⟩) xs.length c, .int .i64 n] w fun e w' => e = .returned (.tuple #[.int .i64 ((n : Int) + m), .int .i64 0]) ∧ w = w')
    (hS : spanS xs n = match spanT xs n m with
    | none => (0, 0, 10)
    | some V => (V, (n : Int) + m, 0)) :
    Calls Try.prog 24 #[.slice (some ⟨b, off, none⟩) xs.length c, .int .i64 n] w fun e w' => e = .returned (.tuple #[.int .u64 (spanS xs n).1, .int .i64 (spanS xs n).2.1, .int .i64 (spanS xs n).2.2]) ∧ w' = w := by
  have HC : Hid _ := hcon
  have HS : Hid _ := hS
  have HCE : Hid _ := hc
  have hc0 := hc n (by omega)
  have hy0 := hA.getD n
  have hb1 : (n : Int) + m ≤ xs.length := by omega
  have hb2 : (n : Int) + m ≤ c := by omega
  have hb3 : ¬ c = n + 1 := by omega
  have hb4 : (n : Int) < xs.length := by omega
  have hand : bits .and .u8 (xs.getD n 0) 127 = xs.getD n 0 % 128 := by
    rw [u8_and _ 127 (by omega) (by omega) (by omega) (by omega), show (127 : Int).toNat = 127 from rfl, nat_mask7]
    omega
  have HT : Hid (spanT xs n m = spanR (xs.getD n 0 % 128) ((xs.drop (n + 1)).take (m - 1))) := (rfl : spanT xs n m = _)
  clear hcon hS hc
  generalize xs.getD n 0 = y0 at *
  generalize spanT xs n m = T at *
  go_enter Try.func24, Try.ntmps24
  go_wp2_with fail
  refine Calls.mono HC.out (fun e w1 hp => ?_)
  obtain ⟨rfl, rfl⟩ := hp
  go_wp2_with fail
  go_loop [9, 33] (fun q i => ∃ (k : Nat) (u : Int), i = .int .i64 k ∧ k ≤ n + m - (n + 1) ∧ q = .int .u64 u ∧ 0 ≤ u ∧ u < 18446744073709551616 ∧ spanR u (((xs.drop (n + 1)).take (m - 1)).drop k) = T) (fun _ i => n + m - (n + 1) - (intOf i).toNat)
  case atStart => exact ⟨0, y0 % 128, rfl, Nat.zero_le _, rfl, by omega, by omega, HT.out.symm⟩
  case round =>
    obtain ⟨k, u, rfl, hk, rfl, hu0, hu1, hR⟩ := hrel
    have HR : Hid (spanR u (((xs.drop (n + 1)).take (m - 1)).drop k) = T) := hR
    clear hR
    by_cases hlt : k < n + m - (n + 1)
    · have hc1 : w.cell? ⟨b, off + (n + 1) + k, none⟩ = some (.int .u8 (xs.getD (n + 1 + k) 0)) := by
        have := HCE.out (n + 1 + k) (by omega)
        rw [← Nat.add_assoc] at this
        exact this
      have hy := hA.getD (n + 1 + k)
      have HG : Hid _ := seg_get xs n m k (by omega) hnm
      generalize xs.getD (n + 1 + k) 0 = y at *
      have hand2 : bits .and .u8 y 127 = y % 128 := by
        rw [u8_and _ 127 (by omega) (by omega) (by omega) (by omega), show (127 : Int).toNat = 127 from rfl, nat_mask7]
        omega
      by_cases h57 : 144115188075855871 ≤ u
      · have HF : Hid (T = none) := (by show T = none; rw [← HR.out, HG.out, spanR_stop _ _ _ h57])
        go_wp2
        go_ret3
        exact ⟨by rw [HS.out, HF.out]; rfl, rfl⟩
      · have hor := or_low7 (u + 1) (y % 128) (by omega) (by omega) (by omega) (by omega)
        go_wp2
        go_round
        case rel => exact ⟨k + 1, (u + 1) * 128 + y % 128, by go_num, by omega, rfl, by omega, by omega, by rw [← HR.out, HG.out, spanR_go _ _ _ h57]⟩
        case measure => simp [intOf]; omega
    · have HF : Hid (T = some u) := (by
        show T = some u
        rw [← HR.out, List.drop_eq_nil_of_le (by simp; omega)]
        rfl)
      go_wp2
      go_ret3
      exact ⟨by rw [HS.out, HF.out]; rfl, rfl⟩

set_option maxHeartbeats 1000000 in
theorem span_one (b off c : Nat) (xs : List Int) (n : Nat) (w : World) (hnm : n + 1 ≤ xs.length) (hcap : xs.length ≤ c) (hcap2 : c ≤ 9223372036854775807) (hA : AllB xs)
    (hc : ∀ i, i < xs.length → w.cell? ⟨b, off + i, none⟩ = some (.int .u8 (xs.getD i 0)))
    (hcon : Calls Try.prog 34 #[.slice (some ⟨b, off, none⟩) xs.length c, .int .i64 n] w fun e w' => e = .returned (.tuple #[.int .i64 ((n : Int) + 1), .int .i64 0]) ∧ w = w')
    (hS : spanS xs n = match spanT xs n 1 with
    | none => (0, 0, 10)
    | some V => (V, (n : Int) + 1, 0)) :
    Calls Try.prog 24 #[.slice (some ⟨b, off, none⟩) xs.length c, .int .i64 n] w fun e w' => e = .returned (.tuple #[.int .u64 (spanS xs n).1, .int .i64 (spanS xs n).2.1, .int .i64 (spanS xs n).2.2]) ∧ w' = w := by
  have HC : Hid _ := hcon
  have HS : Hid _ := hS
  have HCE : Hid _ := hc
  have hc0 := hc n (by omega)
  have hy0 := hA.getD n
  have hb1 : (n : Int) + 1 ≤ xs.length := by omega
  have hb2 : (n : Int) + 1 ≤ c := by omega
  have hb4 : (n : Int) < xs.length := by omega
  have hand : bits .and .u8 (xs.getD n 0) 127 = xs.getD n 0 % 128 := by
    rw [u8_and _ 127 (by omega) (by omega) (by omega) (by omega), show (127 : Int).toNat = 127 from rfl, nat_mask7]
    omega
  have HT : Hid (spanT xs n 1 = spanR (xs.getD n 0 % 128) ((xs.drop (n + 1)).take (1 - 1))) := (rfl : spanT xs n 1 = _)
  clear hcon hS hc
  generalize xs.getD n 0 = y0 at *
  generalize spanT xs n 1 = T at *
  have HF : Hid (T = some (y0 % 128)) := (by
    show T = _
    rw [HT.out]
    rfl)
  by_cases hcn : c = n + 1
  · subst hcn
    go_enter Try.func24, Try.ntmps24
    go_wp2_with fail
    refine Calls.mono HC.out (fun e w1 hp => ?_)
    obtain ⟨rfl, rfl⟩ := hp
    go_wp2_with fail
    go_loop [9, 33] (fun q i => q = .int .u64 (y0 % 128) ∧ i = .int .i64 0) (fun _ _ => 0)
    case atStart => exact ⟨rfl, rfl⟩
    case round =>
      obtain ⟨rfl, rfl⟩ := hrel
      go_wp2
      go_ret3
      exact ⟨by rw [HS.out, HF.out]; rfl, rfl⟩
  · skip
    go_enter Try.func24, Try.ntmps24
    go_wp2_with fail
    refine Calls.mono HC.out (fun e w1 hp => ?_)
    obtain ⟨rfl, rfl⟩ := hp
    go_wp2_with fail
    go_loop [9, 33] (fun q i => q = .int .u64 (y0 % 128) ∧ i = .int .i64 0) (fun _ _ => 0)
    case atStart => exact ⟨rfl, rfl⟩
    case round =>
      obtain ⟨rfl, rfl⟩ := hrel
      go_wp2
      go_ret3
      exact ⟨by rw [HS.out, HF.out]; rfl, rfl⟩
set_option maxHeartbeats 1000000 in
theorem docSpan_ok (b off c : Nat) (xs : List Int) (n m : Nat) (w : World) (hm1 : 2 ≤ m) (hnm : n + m ≤ xs.length) (hcap : xs.length ≤ c) (hcap2 : c ≤ 9223372036854775807) (hA : AllB xs)
    (hc : ∀ i, i < xs.length → w.cell? ⟨b, off + i, none⟩ = some (.int .u8 (xs.getD i 0)))
    (hcon : Calls Try.prog 36 #[.slice (some ⟨b, off, none⟩) xs.length c, .int .i64 n] w fun e w' => e = .returned (.int .i64 ((n : Int) + m)) ∧ w = w')
    (hS : spanS xs n = match spanT xs n m with
    | none => (0, 0, 10)
    | some V => (V, (n : Int) + m, 0)) :
    Calls Try.prog 25 #[.slice (some ⟨b, off, none⟩) xs.length c, .int .i64 n] w fun e w' => e = .returned (.tuple #[.int .u64 (spanS xs n).1, .int .i64 (spanS xs n).2.1, .int .i64 (spanS xs n).2.2]) ∧ w' = w := by
  have HC : Hid _ := hcon
  have HS : Hid _ := hS
  have HCE : Hid _ := hc
  have hc0 := hc n (by omega)
  have hy0 := hA.getD n
  have hb1 : (n : Int) + m ≤ xs.length := by omega
  have hb2 : (n : Int) + m ≤ c := by omega
  have hb3 : ¬ c = n + 1 := by omega
  have hb4 : (n : Int) < xs.length := by omega
  have hand : bits .and .u8 (xs.getD n 0) 127 = xs.getD n 0 % 128 := by
    rw [u8_and _ 127 (by omega) (by omega) (by omega) (by omega), show (127 : Int).toNat = 127 from rfl, nat_mask7]
    omega
  have HT : Hid (spanT xs n m = spanR (xs.getD n 0 % 128) ((xs.drop (n + 1)).take (m - 1))) := (rfl : spanT xs n m = _)
  clear hcon hS hc
  generalize xs.getD n 0 = y0 at *
  generalize spanT xs n m = T at *
  go_enter Try.func25, Try.ntmps25
  go_wp2_with fail
  refine Calls.mono HC.out (fun e w1 hp => ?_)
  obtain ⟨rfl, rfl⟩ := hp
  go_wp2_with fail
  go_loop [8, 30] (fun q i => ∃ (k : Nat) (u : Int), i = .int .i64 k ∧ k ≤ n + m - (n + 1) ∧ q = .int .u64 u ∧ 0 ≤ u ∧ u < 18446744073709551616 ∧ spanR u (((xs.drop (n + 1)).take (m - 1)).drop k) = T) (fun _ i => n + m - (n + 1) - (intOf i).toNat)
  case atStart => exact ⟨0, y0 % 128, rfl, Nat.zero_le _, rfl, by omega, by omega, HT.out.symm⟩
  case round =>
    obtain ⟨k, u, rfl, hk, rfl, hu0, hu1, hR⟩ := hrel
    have HR : Hid (spanR u (((xs.drop (n + 1)).take (m - 1)).drop k) = T) := hR
    clear hR
    by_cases hlt : k < n + m - (n + 1)
    · have hc1 : w.cell? ⟨b, off + (n + 1) + k, none⟩ = some (.int .u8 (xs.getD (n + 1 + k) 0)) := by
        have := HCE.out (n + 1 + k) (by omega)
        rw [← Nat.add_assoc] at this
        exact this
      have hy := hA.getD (n + 1 + k)
      have HG : Hid _ := seg_get xs n m k (by omega) hnm
      generalize xs.getD (n + 1 + k) 0 = y at *
      have hand2 : bits .and .u8 y 127 = y % 128 := by
        rw [u8_and _ 127 (by omega) (by omega) (by omega) (by omega), show (127 : Int).toNat = 127 from rfl, nat_mask7]
        omega
      by_cases h57 : 144115188075855871 ≤ u
      · have HF : Hid (T = none) := (by show T = none; rw [← HR.out, HG.out, spanR_stop _ _ _ h57])
        go_wp2
        go_ret3
        exact ⟨by rw [HS.out, HF.out]; rfl, rfl⟩
      · have hor := or_low7 (u + 1) (y % 128) (by omega) (by omega) (by omega) (by omega)
        go_wp2
        go_round
        case rel => exact ⟨k + 1, (u + 1) * 128 + y % 128, by go_num, by omega, rfl, by omega, by omega, by rw [← HR.out, HG.out, spanR_go _ _ _ h57]⟩
        case measure => simp [intOf]; omega
    · have HF : Hid (T = some u) := (by
        show T = some u
        rw [← HR.out, List.drop_eq_nil_of_le (by simp; omega)]
        rfl)
      go_wp2
      go_ret3
      exact ⟨by rw [HS.out, HF.out]; rfl, rfl⟩

set_option maxHeartbeats 1000000 in
theorem docSpan_one (b off c : Nat) (xs : List Int) (n : Nat) (w : World) (hnm : n + 1 ≤ xs.length) (hcap : xs.length ≤ c) (hcap2 : c ≤ 9223372036854775807) (hA : AllB xs)
    (hc : ∀ i, i < xs.length → w.cell? ⟨b, off + i, none⟩ = some (.int .u8 (xs.getD i 0)))
    (hcon : Calls Try.prog 36 #[.slice (some ⟨b, off, none⟩) xs.length c, .int .i64 n] w fun e w' => e = .returned (.int .i64 ((n : Int) + 1)) ∧ w = w')
    (hS : spanS xs n = match spanT xs n 1 with
    | none => (0, 0, 10)
    | some V => (V, (n : Int) + 1, 0)) :
    Calls Try.prog 25 #[.slice (some ⟨b, off, none⟩) xs.length c, .int .i64 n] w fun e w' => e = .returned (.tuple #[.int .u64 (spanS xs n).1, .int .i64 (spanS xs n).2.1, .int .i64 (spanS xs n).2.2]) ∧ w' = w := by
  have HC : Hid _ := hcon
  have HS : Hid _ := hS
  have HCE : Hid _ := hc
  have hc0 := hc n (by omega)
  have hy0 := hA.getD n
  have hb1 : (n : Int) + 1 ≤ xs.length := by omega
  have hb2 : (n : Int) + 1 ≤ c := by omega
  have hb4 : (n : Int) < xs.length := by omega
  have hand : bits .and .u8 (xs.getD n 0) 127 = xs.getD n 0 % 128 := by
    rw [u8_and _ 127 (by omega) (by omega) (by omega) (by omega), show (127 : Int).toNat = 127 from rfl, nat_mask7]
    omega
  have HT : Hid (spanT xs n 1 = spanR (xs.getD n 0 % 128) ((xs.drop (n + 1)).take (1 - 1))) := (rfl : spanT xs n 1 = _)
  clear hcon hS hc
  generalize xs.getD n 0 = y0 at *
  generalize spanT xs n 1 = T at *
  have HF : Hid (T = some (y0 % 128)) := (by
    show T = _
    rw [HT.out]
    rfl)
  by_cases hcn : c = n + 1
  · subst hcn
    go_enter Try.func25, Try.ntmps25
    go_wp2_with fail
    refine Calls.mono HC.out (fun e w1 hp => ?_)
    obtain ⟨rfl, rfl⟩ := hp
    go_wp2_with fail
    go_loop [8, 30] (fun q i => q = .int .u64 (y0 % 128) ∧ i = .int .i64 0) (fun _ _ => 0)
    case atStart => exact ⟨rfl, rfl⟩
    case round =>
      obtain ⟨rfl, rfl⟩ := hrel
      go_wp2
      go_ret3
      exact ⟨by rw [HS.out, HF.out]; rfl, rfl⟩
  · skip
    go_enter Try.func25, Try.ntmps25
    go_wp2_with fail
    refine Calls.mono HC.out (fun e w1 hp => ?_)
    obtain ⟨rfl, rfl⟩ := hp
    go_wp2_with fail
    go_loop [8, 30] (fun q i => q = .int .u64 (y0 % 128) ∧ i = .int .i64 0) (fun _ _ => 0)
    case atStart => exact ⟨rfl, rfl⟩
    case round =>
      obtain ⟨rfl, rfl⟩ := hrel
      go_wp2
      go_ret3
      exact ⟨by rw [HS.out, HF.out]; rfl, rfl⟩

set_option maxHeartbeats 400000 in
theorem span_any (v : Value) (xs : List Int) (t : Int) (w : World) (h : Rd w v xs) (ht : t ≤ 9223372036854775807) (hl : xs.length + 20 ≤ 140737488355328) :
    Calls Try.prog 24 #[v, .int .i64 t] w fun e w' => e = .returned (.tuple #[.int .u64 (spanS xs t).1, .int .i64 (spanS xs t).2.1, .int .i64 (spanS xs t).2.2]) ∧ w' = w := by
  have hcon := endOf_all v xs t w h ht hl
  by_cases he : (endS xs t).2 = 0
  · obtain ⟨n, m, rfl, hem, h1, hm1, hnm⟩ := endS_ok he
    rw [h1, he] at hcon
    obtain ⟨b, off, c, rfl, hlt, hc⟩ := h.open (by omega)
    have hcap := h.capOf
    by_cases hm2 : 2 ≤ m
    · exact span_ok b off c xs n m w hm2 hnm hcap.1 hcap.2 h.allB hc hcon (spanS_some he h1)
    · obtain rfl : m = 1 := by omega
      exact span_one b off c xs n w hnm hcap.1 hcap.2 h.allB hc hcon (spanS_some he h1)
  · have HR : Hid (spanS xs t = (0, 0, (endS xs t).2)) := (by show _ = _; unfold spanS; rw [if_neg he])
    have hne := endS_err he
    clear he h
    have HC : Hid _ := hcon
    clear hcon
    generalize (endS xs t).2 = E at *
    generalize (endS xs t).1 = E1 at *
    go_enter Try.func24, Try.ntmps24
    go_wp2_with fail
    refine Calls.mono HC.out (fun e w1 hp => ?_)
    obtain ⟨rfl, rfl⟩ := hp
    go_wp2
    go_ret3
    exact ⟨by rw [HR.out]; rfl, rfl⟩

set_option maxHeartbeats 400000 in
theorem docSpan_any (v : Value) (xs : List Int) (t : Int) (w : World) (h : Rd w v xs) (ht : t ≤ 9223372036854775807) (hl : xs.length + 20 ≤ 140737488355328) :
    Calls Try.prog 25 #[v, .int .i64 t] w fun e w' => e = .returned (.tuple #[.int .u64 (spanS xs t).1, .int .i64 (spanS xs t).2.1, .int .i64 (spanS xs t).2.2]) ∧ w' = w := by
  by_cases he : (endS xs t).2 = 0
  · obtain ⟨n, m, rfl, hem, h1, hm1, hnm⟩ := endS_ok he
    have hcon0 := docEnd_pos v xs n w h ht hl
    rw [if_pos he, h1] at hcon0
    have hcon := hcon0.mono (fun e w' hp => (⟨hp.1, hp.2.symm⟩ : e = .returned (.int .i64 ((n : Int) + m)) ∧ w = w'))
    obtain ⟨b, off, c, rfl, hlt, hc⟩ := h.open (by omega)
    have hcap := h.capOf
    by_cases hm2 : 2 ≤ m
    · exact docSpan_ok b off c xs n m w hm2 hnm hcap.1 hcap.2 h.allB hc hcon (spanS_some he h1)
    · obtain rfl : m = 1 := by omega
      exact docSpan_one b off c xs n w hnm hcap.1 hcap.2 h.allB hc hcon (spanS_some he h1)
  · have HR : Hid (spanS xs t = (0, 0, (endS xs t).2)) := (by show _ = _; unfold spanS; rw [if_neg he])
    rcases endS_cases he with ⟨h0, h1⟩ | ⟨h0, h1⟩
    · have H1 : Hid _ := h1
      clear h1 he h
      go_enter Try.func25, Try.ntmps25
      go_wp2
      go_ret3
      exact ⟨by rw [HR.out, H1.out]; rfl, rfl⟩
    · obtain ⟨n, rfl⟩ := Int.eq_ofNat_of_zero_le h0
      have hcon := docEnd_pos v xs n w h ht hl
      rw [if_neg he] at hcon
      have HC : Hid _ := hcon
      have H1 : Hid _ := h1
      clear hcon h1 he h
      go_enter Try.func25, Try.ntmps25
      go_wp2_with fail
      refine Calls.mono HC.out (fun e w1 hp => ?_)
      obtain ⟨rfl, hw⟩ := hp
      subst hw
      go_wp2
      go_ret3
      exact ⟨by rw [HR.out, H1.out]; rfl, rfl⟩
end Go.Proofs.Ytpleamahaogfiab
