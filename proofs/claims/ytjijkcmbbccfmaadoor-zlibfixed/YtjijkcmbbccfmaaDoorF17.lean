/-
  Walks: the document's length.
-/
import Derived.Test.YtjijkcmbbccfmaaDoorF11
namespace Go.Proofs.YtjijkcmbbccfmaaDoor
open Go.RowKit

/-- The symbol of a length, by the length less 3. -/
def sF (v : Nat) : Nat := if v = 255 then 285 else if v < 8 then 257 + v else 257 + 4 * (lenN v - 3) + v / 2 ^ (lenN v - 3)
def condB (v s : Nat) : Bool := decide ((dlen4 s).1 ≤ (v : Int) + 3) && (decide (s = 285) || decide ((v : Int) + 3 < (dlen4 s).1 + 2 ^ (dlen4 s).2))
def lenB (v : Nat) : Bool := decide (257 ≤ sF v) && decide (sF v ≤ 285) && condB v (sF v) && (lenL v == symL (sF v) ++ bitsL ((v : Int) + 3 - (dlen4 (sF v)).1) (dlen4 (sF v)).2) && (List.range 29).all fun d => decide (257 + d ≤ sF v) || !(condB v (257 + d))
set_option maxRecDepth 100000 in
theorem lenB_all : (List.range 256).all lenB = true := by kernel_rfl
theorem boundB_all : (List.range 29).all (fun d => decide (3 ≤ (dlen4 ((257 + d : Nat) : Int)).1) && decide ((dlen4 ((257 + d : Nat) : Int)).1 ≤ 258) && decide ((dlen4 ((257 + d : Nat) : Int)).2 ≤ 5)) = true := by kernel_rfl
theorem len_facts {v : Nat} (h : v ≤ 255) : 257 ≤ sF v ∧ sF v ≤ 285 ∧ condB v (sF v) = true ∧ lenL v = symL (sF v) ++ bitsL ((v : Int) + 3 - (dlen4 (sF v)).1) (dlen4 (sF v)).2 ∧ ∀ s, sF v < s → s ≤ 285 → condB v s = false := by
  have h1 := List.all_eq_true.1 lenB_all v (by simp; omega)
  simp only [lenB, Bool.and_eq_true, decide_eq_true_eq, beq_iff_eq, List.all_eq_true, List.mem_range, Bool.or_eq_true, Bool.not_eq_true'] at h1
  obtain ⟨⟨⟨⟨h2, h3⟩, h4⟩, h5⟩, h6⟩ := h1
  refine ⟨h2, h3, h4, h5, fun s hs1 hs2 => ?_⟩
  have h7 := h6 (s - 257) (by omega)
  rw [show 257 + (s - 257) = s from by omega] at h7
  rcases h7 with h7 | h7
  · omega
  · exact h7
theorem len_bounds {s : Nat} (h0 : 257 ≤ s) (h1 : s ≤ 285) : 3 ≤ (dlen4 s).1 ∧ (dlen4 s).1 ≤ 258 ∧ (dlen4 s).2 ≤ 5 := by
  have h2 := List.all_eq_true.1 boundB_all (s - 257) (by simp; omega)
  rw [show 257 + (s - 257) = s from by omega] at h2
  simp only [Bool.and_eq_true, decide_eq_true_eq] at h2
  exact ⟨h2.1.1, h2.1.2, h2.2⟩

open Go.RowKit

set_option maxHeartbeats 1000000 in
set_option maxRecDepth 100000 in
theorem dlength4_any {W0 w : World} {rb : Nat} {ob : Option Nat} {L : List Int} (v : Nat) (hv : v ≤ 255) (h : Bt W0 w rb ob L) (hl : L.length + 25 ≤ 1073741824) :
    Calls Tryd.prog 82 #[.pointer (some ⟨rb, 0, none⟩), .int .i64 ((v : Int) + 3)] w fun e w' => AfterB W0 w w' rb ob (L ++ lenL v) e := by
  obtain ⟨g1, g2, g3, g4, g5⟩ := len_facts hv
  have KH := Kept.mk h
  have K3 := Kept.mk g3
  have K4 := Kept.mk g4
  have K5 := Kept.mk g5
  clear h g3 g4 g5
  go_enter Tryd.func82, Tryd.ntmps82
  go_wp2
  go_loopw [4] (fun iv wr => ∃ s : Nat, iv = .int .i64 s ∧ sF v ≤ s ∧ s ≤ 285 ∧ wr = w) (fun iv _ => (intOf iv).toNat)
  case atStart => exact ⟨285, rfl, g2, Nat.le_refl _, rfl⟩
  case round =>
    obtain ⟨s, rfl, hs1, hs2, rfl⟩ := hrel
    have hb := len_bounds (s := s) (by omega) hs2
    have KL := Kept.mk (dLength4_any wr s (by omega) (by omega))
    have hd257 : decide ((257 : Int) ≤ (s : Int)) = true := by simp; omega
    by_cases he : s = sF v
    · have hc := K3.out
      rw [← he] at hc g1 g2
      have h4 := K4.out
      rw [← he] at h4
      have hsl := symL_length s
      have KS := Kept.mk (dsymbol4_any s (by omega) KH.out (by omega))
      unfold condB at hc
      simp only [Bool.and_eq_true, Bool.or_eq_true, decide_eq_true_eq] at hc
      obtain ⟨hc1, hc2⟩ := hc
      obtain ⟨le, hle⟩ : ∃ le, (dlen4 s).1 = le := ⟨_, rfl⟩
      obtain ⟨m, hm⟩ : ∃ m, (dlen4 s).2 = m := ⟨_, rfl⟩
      rw [hle, hm] at hb KL h4
      rw [hle] at hc1 hc2
      rw [hm] at hc2
      have KN : Kept (∀ w1 ob1, Bt W0 w1 rb ob1 (L ++ symL s) → Calls Tryd.prog 79 #[.pointer (some ⟨rb, 0, none⟩), .int .i64 ((v : Int) + 3 - le), .int .i64 m] w1 fun e w' => AfterB W0 w1 w' rb ob1 (L ++ lenL v) e) := ⟨fun w1 ob1 hW => by
        have h5 := dnumber4_any ((v : Int) + 3 - le).toNat m (by omega) (by omega) hW (by rw [List.length_append]; omega)
        rw [Int.toNat_of_nonneg (by omega), List.append_assoc, ← h4] at h5
        exact h5⟩
      have hp : (2 : Int) ^ m ≤ 32 := pow2_le4 (b := 5) hb.2.2
      have hp0 : (0 : Int) < 2 ^ m := Int.pow_pos (by omega)
      have hd1 : decide (le ≤ (v : Int) + 3) = true := by simpa using hc1
      have Kh4 := Kept.mk h4
      clear h4 hle hm he hsl
      by_cases h285 : s = 285
      · have hd2 : ((s : Int) == 285) = true := by simp; omega
        clear hc2 h285
        go_wp2_with (first | (go_at_call 76; refine Calls.mono KL.out (fun e w2 hp => ?_); obtain ⟨rfl, rfl⟩ := hp) | (go_at_call 81; refine Calls.mono KS.out (fun e w2 hp => ?_); obtain ⟨rfl, ob1, hW, hM⟩ := hp; have KC2 := Kept.mk (KN.out w2 ob1 hW); have KM := Kept.mk hM; clear hW hM) | (go_at_call 79; refine Calls.mono KC2.out (fun e w3 hp => ?_); obtain ⟨rfl, hW⟩ := hp; have KW := Kept.mk hW; clear hW))
        refine bodyPost_ret (results_none rfl _ _ _) rfl ?_
        exact AfterB.next KM.out ⟨rfl, KW.out⟩
      · have hd2 : ((s : Int) == 285) = false := by simp; omega
        have hd3 : decide ((v : Int) + 3 < le + 2 ^ m) = true := by
          rcases hc2 with e | e
          · exact absurd e h285
          · simpa using e
        clear hc2
        go_wp2_with (first | (go_at_call 76; refine Calls.mono KL.out (fun e w2 hp => ?_); obtain ⟨rfl, rfl⟩ := hp) | (go_at_call 81; refine Calls.mono KS.out (fun e w2 hp => ?_); obtain ⟨rfl, ob1, hW, hM⟩ := hp; have KC2 := Kept.mk (KN.out w2 ob1 hW); have KM := Kept.mk hM; clear hW hM) | (go_at_call 79; refine Calls.mono KC2.out (fun e w3 hp => ?_); obtain ⟨rfl, hW⟩ := hp; have KW := Kept.mk hW; clear hW))
        refine bodyPost_ret (results_none rfl _ _ _) rfl ?_
        exact AfterB.next KM.out ⟨rfl, KW.out⟩
    · have hc := K5.out s (by omega) hs2
      unfold condB at hc
      obtain ⟨le, hle⟩ : ∃ le, (dlen4 s).1 = le := ⟨_, rfl⟩
      obtain ⟨m, hm⟩ : ∃ m, (dlen4 s).2 = m := ⟨_, rfl⟩
      rw [hle, hm] at hb KL hc
      have hp : (2 : Int) ^ m ≤ 32 := pow2_le4 (b := 5) hb.2.2
      have hp0 : (0 : Int) < 2 ^ m := Int.pow_pos (by omega)
      clear hle hm
      by_cases hc1 : le ≤ (v : Int) + 3
      · have hd1 : decide (le ≤ (v : Int) + 3) = true := by simpa using hc1
        rw [hd1, Bool.true_and, Bool.or_eq_false_iff] at hc
        obtain ⟨hc2, hd3⟩ := hc
        have hd2 : ((s : Int) == 285) = false := by
          have : ¬ s = 285 := by simpa using hc2
          simp
          omega
        clear hc2 hc1
        go_wp2_with (go_at_call 76; refine Calls.mono KL.out (fun e w2 hp => ?_); obtain ⟨rfl, rfl⟩ := hp)
        go_roundw
        case rel => exact ⟨s - 1, by congr 1; omega, by omega, by omega, trivial⟩
        case measure => simp [intOf]; omega
      · have hd1 : decide (le ≤ (v : Int) + 3) = false := by simpa using hc1
        clear hc hc1
        go_wp2_with (go_at_call 76; refine Calls.mono KL.out (fun e w2 hp => ?_); obtain ⟨rfl, rfl⟩ := hp)
        go_roundw
        case rel => exact ⟨s - 1, by congr 1; omega, by omega, by omega, trivial⟩
        case measure => simp [intOf]; omega

open Go.RowKit

/-- The symbol of a distance, by the distance less 1. -/
def sD (v : Nat) : Nat := if v < 4 then v else 2 * (lenN v - 2) + v / 2 ^ (lenN v - 2)
theorem distB_all : (List.range 30).all (fun s => (List.range 30).all fun t => decide (t ≤ s) || decide ((ddist4 (s : Nat)).1 + 2 ^ (ddist4 (s : Nat)).2 ≤ (ddist4 (t : Nat)).1)) = true := by kernel_rfl
theorem distC_all : (List.range 30).all (fun s => decide (1 ≤ (ddist4 (s : Nat)).1) && decide ((ddist4 (s : Nat)).1 ≤ 32768) && decide ((ddist4 (s : Nat)).2 ≤ 13)) = true := by kernel_rfl
theorem dist_mono {s t : Nat} (h : s < t) (ht : t ≤ 29) : (ddist4 s).1 + 2 ^ (ddist4 s).2 ≤ (ddist4 t).1 := by
  have h1 := List.all_eq_true.1 distB_all s (by simp; omega)
  have h2 := List.all_eq_true.1 h1 t (by simp; omega)
  simp only [Bool.or_eq_true, decide_eq_true_eq] at h2
  rcases h2 with h2 | h2
  · omega
  · exact h2
theorem dist_bounds {s : Nat} (h : s ≤ 29) : 1 ≤ (ddist4 s).1 ∧ (ddist4 s).1 ≤ 32768 ∧ (ddist4 s).2 ≤ 13 := by
  have h1 := List.all_eq_true.1 distC_all s (by simp; omega)
  simp only [Bool.and_eq_true, decide_eq_true_eq] at h1
  exact ⟨h1.1.1, h1.1.2, h1.2⟩
theorem dist_facts {v : Nat} (h : v < 32768) : sD v ≤ 29 ∧ (ddist4 (sD v)).1 ≤ (v : Int) + 1 ∧ (v : Int) + 1 < (ddist4 (sD v)).1 + 2 ^ (ddist4 (sD v)).2 ∧ distL v = codeL (sD v) 5 ++ bitsL ((v : Int) + 1 - (ddist4 (sD v)).1) (ddist4 (sD v)).2 := by
  unfold sD distL
  by_cases h4 : v < 4
  · rw [if_pos h4, if_pos h4]
    have e : ddist4 (v : Int) = ((v : Int) + 1, 0) := by unfold ddist4; rw [if_pos (by omega)]
    rw [e]
    refine ⟨by omega, by simp, by simp; omega, ?_⟩
    simp [bitsL]
  · rw [if_neg h4, if_neg h4]
    have g1 := lenN_lt v
    have g2 := lenN_le (x := v) (by omega)
    have g3 := lenN_small (x := v) (k := 15) (by omega)
    have g4 : 3 ≤ lenN v := by
      rcases Nat.lt_or_ge (lenN v) 3 with g | g
      · have : 2 ^ lenN v ≤ 2 ^ 2 := Nat.pow_le_pow_right (by omega) (by omega)
        omega
      · exact g
    obtain ⟨m, hm⟩ : ∃ m, lenN v = m + 2 := ⟨lenN v - 2, by omega⟩
    rw [hm] at g1 g2 g3 ⊢
    rw [show m + 2 - 2 = m from by omega]
    have hp0 : 0 < (2 : Nat) ^ m := Nat.pow_pos (by omega)
    rw [Nat.pow_add] at g1 g2
    have hq1 : v / 2 ^ m < 4 := by rw [Nat.div_lt_iff_lt_mul hp0, Nat.mul_comm]; exact g1
    have hq2 : 2 ≤ v / 2 ^ m := by rw [Nat.le_div_iff_mul_le hp0]; omega
    have hdm := Nat.div_add_mod v (2 ^ m)
    have hr : v % 2 ^ m < 2 ^ m := Nat.mod_lt _ hp0
    generalize v / 2 ^ m = q at *
    generalize v % 2 ^ m = t at *
    have e : ddist4 ((2 * m + q : Nat) : Int) = (1 + (q : Int) * 2 ^ m, m) := by
      unfold ddist4
      rw [if_neg (by omega), show (((2 * m + q : Nat) : Int) / 2 - 1).toNat = m from by omega, show 2 + ((2 * m + q : Nat) : Int) % 2 = (q : Int) from by omega]
    rw [e]
    have hc : ((2 ^ m * q + t : Nat) : Int) = (q : Int) * 2 ^ m + (t : Int) := by
      rw [Int.natCast_add, Int.natCast_mul, Int.mul_comm]
      simp
    have hrI : (t : Int) < 2 ^ m := by exact_mod_cast hr
    rw [← hdm, hc]
    refine ⟨by omega, by simp only; omega, by simp only; omega, ?_⟩
    congr 2
    simp only
    omega

open Go.RowKit

set_option maxHeartbeats 1000000 in
set_option maxRecDepth 100000 in
theorem ddistance4_any {W0 w : World} {rb : Nat} {ob : Option Nat} {L : List Int} (v : Nat) (hv : v < 32768) (h : Bt W0 w rb ob L) (hl : L.length + 25 ≤ 1073741824) :
    Calls Tryd.prog 83 #[.pointer (some ⟨rb, 0, none⟩), .int .i64 ((v : Int) + 1)] w fun e w' => AfterB W0 w w' rb ob (L ++ distL v) e := by
  obtain ⟨g1, g2, g3, g4⟩ := dist_facts hv
  have KH := Kept.mk h
  have K2 := Kept.mk g2
  have K3 := Kept.mk g3
  have K4 := Kept.mk g4
  clear h g3 g4 g2
  go_enter Tryd.func83, Tryd.ntmps83
  go_wp2
  go_loopw [4] (fun iv wr => ∃ s : Nat, iv = .int .i64 s ∧ s ≤ sD v ∧ wr = w) (fun iv _ => (30 - intOf iv).toNat)
  case atStart => exact ⟨0, rfl, by omega, rfl⟩
  case round =>
    obtain ⟨s, rfl, hs1, rfl⟩ := hrel
    have hs2 : s ≤ 29 := by omega
    have hb := dist_bounds hs2
    have KL := Kept.mk (dDistance4_any wr s (by omega) (by omega))
    have hd30 : decide ((s : Int) < 30) = true := by simp; omega
    by_cases he : s = sD v
    · have hc1 := K2.out
      have hc2 := K3.out
      have h4 := K4.out
      rw [← he] at h4 hc1 hc2 g1
      have KS := Kept.mk (dcode_any s 5 (by omega) (by omega) KH.out (by omega))
      obtain ⟨le, hle⟩ : ∃ le, (ddist4 s).1 = le := ⟨_, rfl⟩
      obtain ⟨m, hm⟩ : ∃ m, (ddist4 s).2 = m := ⟨_, rfl⟩
      rw [hle, hm] at hb KL h4 hc2
      rw [hle] at hc1
      have KN : Kept (∀ w1 ob1, Bt W0 w1 rb ob1 (L ++ codeL s 5) → Calls Tryd.prog 79 #[.pointer (some ⟨rb, 0, none⟩), .int .i64 ((v : Int) + 1 - le), .int .i64 m] w1 fun e w' => AfterB W0 w1 w' rb ob1 (L ++ distL v) e) := ⟨fun w1 ob1 hW => by
        have h5 := dnumber4_any ((v : Int) + 1 - le).toNat m (by omega) (by omega) hW (by rw [List.length_append, codeL_length]; omega)
        rw [Int.toNat_of_nonneg (by omega), List.append_assoc, ← h4] at h5
        exact h5⟩
      have hp : (2 : Int) ^ m ≤ 8192 := pow2_le4 (b := 13) hb.2.2
      have hp0 : (0 : Int) < 2 ^ m := Int.pow_pos (by omega)
      have hd1 : decide (le ≤ (v : Int) + 1) = true := by simpa using hc1
      have hd3 : decide ((v : Int) + 1 < le + 2 ^ m) = true := by simpa using hc2
      have Kh4 := Kept.mk h4
      clear h4 hle hm he
      go_wp2_with (first | (go_at_call 77; refine Calls.mono KL.out (fun e w2 hp => ?_); obtain ⟨rfl, rfl⟩ := hp) | (go_at_call 89; refine Calls.mono KS.out (fun e w2 hp => ?_); obtain ⟨rfl, ob1, hW, hM⟩ := hp; have KC2 := Kept.mk (KN.out w2 ob1 hW); have KM := Kept.mk hM; clear hW hM) | (go_at_call 79; refine Calls.mono KC2.out (fun e w3 hp => ?_); obtain ⟨rfl, hW⟩ := hp; have KW := Kept.mk hW; clear hW))
      refine bodyPost_ret (results_none rfl _ _ _) rfl ?_
      exact AfterB.next KM.out ⟨rfl, KW.out⟩
    · have hmn := dist_mono (s := s) (t := sD v) (by omega) g1
      have hc1 := K2.out
      obtain ⟨le, hle⟩ : ∃ le, (ddist4 s).1 = le := ⟨_, rfl⟩
      obtain ⟨m, hm⟩ : ∃ m, (ddist4 s).2 = m := ⟨_, rfl⟩
      rw [hle, hm] at hb KL hmn
      have hp : (2 : Int) ^ m ≤ 8192 := pow2_le4 (b := 13) hb.2.2
      have hp0 : (0 : Int) < 2 ^ m := Int.pow_pos (by omega)
      have hd1 : decide (le ≤ (v : Int) + 1) = true := by simp; omega
      have hd3 : decide ((v : Int) + 1 < le + 2 ^ m) = false := by simp; omega
      clear hle hm hmn hc1
      go_wp2_with (go_at_call 77; refine Calls.mono KL.out (fun e w2 hp => ?_); obtain ⟨rfl, rfl⟩ := hp)
      go_roundw
      case rel => exact ⟨s + 1, by congr 1, by omega, trivial⟩
      case measure => simp [intOf]; omega
end Go.Proofs.YtjijkcmbbccfmaaDoor
