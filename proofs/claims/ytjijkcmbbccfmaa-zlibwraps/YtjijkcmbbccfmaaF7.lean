/-
  Walks: length, distance.
-/
import Derived.Test.YtjijkcmbbccfmaaF6
import Derived.Test.YtjijkcmbbccfmaaB
namespace Go.Proofs.Ytjijkcmbbccfmaa
open Go.RowKit

/-- A length's bits, by the length less 3. -/
def lenL (v : Nat) : List Int := if v = 255 then symL 285 else if v < 8 then symL (257 + v) else symL (257 + 4 * (lenN v - 3) + v / 2 ^ (lenN v - 3)) ++ bitsL ((v % 2 ^ (lenN v - 3) : Nat) : Int) (lenN v - 3)
/-- A distance's bits, by the distance less 1. -/
def distL (v : Nat) : List Int := if v < 4 then codeL v 5 else codeL (2 * (lenN v - 2) + v / 2 ^ (lenN v - 2)) 5 ++ bitsL ((v % 2 ^ (lenN v - 2) : Nat) : Int) (lenN v - 2)

theorem AfterW.next {W0 w w1 w2 : World} {rb : Nat} {ob ob1 : Option Nat} {L : List Int} {e : Ending} (h : Mq rb ob ob1 w w1) (k : AfterW W0 w1 w2 rb ob1 L e) : AfterW W0 w w2 rb ob L e := by
  obtain ⟨rfl, ob', j', h1, h2, h3⟩ := k
  exact ⟨rfl, ob', j', h1, h2, h.trans h3⟩
theorem and_low (v m : Nat) (hv : v < 65536) (hm : m ≤ 16) : bits .and .i64 (v : Int) (2 ^ m - 1) = ((v % 2 ^ m : Nat) : Int) := by
  have hp : (2 : Nat) ^ m ≤ 2 ^ 16 := Nat.pow_le_pow_right (by omega) hm
  have hp0 : 0 < (2 : Nat) ^ m := Nat.pow_pos (by omega)
  have e : (2 : Int) ^ m - 1 = ((2 ^ m - 1 : Nat) : Int) := by
    rw [Int.natCast_sub (by omega)]
    simp
  rw [e, i64_and_nat v (2 ^ m - 1) (by omega) (by omega), Nat.and_two_pow_sub_one_eq_mod]

set_option maxHeartbeats 1000000 in
set_option maxRecDepth 100000 in
theorem wlength_any {W0 w : World} {rb : Nat} {ob : Option Nat} {L : List Int} {j : Nat} (v : Nat) (hv : v ≤ 255) (h : Wt W0 w rb ob L j) (hj : L.length < 8 * j + 8) (hl : L.length + 25 ≤ 1073741824) :
    Calls Try.prog 22 #[.pointer (some ⟨rb, 0, none⟩), .int .i64 ((v + 3 : Nat) : Int)] w fun e w' => AfterW W0 w w' rb ob (L ++ lenL v) e := by
  unfold lenL
  by_cases h1 : v = 255
  · subst h1
    rw [if_pos rfl]
    have KC := Kept.mk (wsymbol_any 285 (by omega) h hj (by omega))
    clear h
    go_enter Try.func22, Try.ntmps22
    go_wp2_with (go_at_call 24; refine Calls.mono KC.out (fun e w2 hp => ?_); obtain ⟨rfl, hW⟩ := hp; have KW := Kept.mk hW; clear hW)
    refine bodyPost_ret (results_none rfl _ _ _) rfl ?_
    exact ⟨rfl, KW.out⟩
  · rw [if_neg h1]
    have hd1 : ¬ (v : Int) = 255 := by omega
    have hd11 : ¬ (v : Int) + 3 = 258 := by omega
    by_cases h2 : v < 8
    · rw [if_pos h2]
      have KC := Kept.mk (wsymbol_any (257 + v) (by omega) h hj (by omega))
      rw [show ((257 + v : Nat) : Int) = 257 + (v : Int) from by omega] at KC
      have hd2 : decide ((v : Int) < 8) = true := by simp; omega
      clear h
      go_enter Try.func22, Try.ntmps22
      go_wp2_with (go_at_call 24; refine Calls.mono KC.out (fun e w2 hp => ?_); obtain ⟨rfl, hW⟩ := hp; have KW := Kept.mk hW; clear hW)
      refine bodyPost_ret (results_none rfl _ _ _) rfl ?_
      exact ⟨rfl, KW.out⟩
    · rw [if_neg h2]
      have hd2 : decide ((v : Int) < 8) = false := by simp; omega
      have g1 := lenN_lt v
      have g2 := lenN_le (x := v) (by omega)
      have g3 := lenN_small (x := v) (k := 8) (by omega)
      have g4 : 4 ≤ lenN v := by
        rcases Nat.lt_or_ge (lenN v) 4 with g | g
        · have : 2 ^ lenN v ≤ 2 ^ 3 := Nat.pow_le_pow_right (by omega) (by omega)
          omega
        · exact g
      obtain ⟨m, hm⟩ : ∃ m, lenN v = m + 3 := ⟨lenN v - 3, by omega⟩
      have KL := Kept.mk (len_any v (by omega) w)
      rw [hm] at g1 g2 g3 g4 KL ⊢
      rw [show m + 3 - 3 = m from by omega]
      have hp0 : 0 < (2 : Nat) ^ m := Nat.pow_pos (by omega)
      have hp5 : (2 : Nat) ^ m ≤ 2 ^ 5 := Nat.pow_le_pow_right (by omega) (by omega)
      have hq : v / 2 ^ m < 8 := by
        rw [Nat.div_lt_iff_lt_mul hp0, Nat.mul_comm, show (8 : Nat) = 2 ^ 3 from rfl, ← Nat.pow_add]
        exact g1
      have hr : v % 2 ^ m < 2 ^ m := Nat.mod_lt _ hp0
      have hs9 := symL_length (257 + 4 * m + v / 2 ^ m)
      have KS := Kept.mk (wsymbol_any (257 + 4 * m + v / 2 ^ m) (by omega) h hj (by omega))
      rw [show ((257 + 4 * m + v / 2 ^ m : Nat) : Int) = 257 + 4 * (m : Int) + (v : Int) / 2 ^ m from by simp] at KS
      have KN : Kept (∀ w1 ob1 j1, Wt W0 w1 rb ob1 (L ++ symL (257 + 4 * m + v / 2 ^ m)) j1 → (L ++ symL (257 + 4 * m + v / 2 ^ m)).length < 8 * j1 + 8 → Calls Try.prog 19 #[.pointer (some ⟨rb, 0, none⟩), .int .i64 ((v % 2 ^ m : Nat) : Int), .int .i64 m] w1 fun e w' => AfterW W0 w1 w' rb ob1 (L ++ (symL (257 + 4 * m + v / 2 ^ m) ++ bitsL ((v % 2 ^ m : Nat) : Int) m)) e) := ⟨fun w1 ob1 j1 hW hlt => by
        have := wnumber_any ((v % 2 ^ m : Nat) : Int) m (by omega) (by exact_mod_cast hr) (by omega) hW hlt (by rw [List.length_append]; omega)
        rw [List.append_assoc] at this
        exact this⟩
      rw [show ((v % 2 ^ m : Nat) : Int) = (v : Int) % 2 ^ m from by simp] at KN
      have hqi : (v : Int) / 2 ^ m < 8 := by exact_mod_cast hq
      have hqi0 : 0 ≤ (v : Int) / 2 ^ m := Int.ediv_nonneg (by omega) (by have : (0 : Int) < 2 ^ m := Int.pow_pos (by omega); omega)
      have hm5 : (m : Int) ≤ 5 := by omega
      have hpi : (2 : Int) ^ m ≤ 32 := by exact_mod_cast hp5
      have hpi0 : (0 : Int) < 2 ^ m := Int.pow_pos (by omega)
      have hand := and_low v m (by omega) (by omega)
      rw [show ((v % 2 ^ m : Nat) : Int) = (v : Int) % 2 ^ m from by simp] at hand ⊢
      clear h g1 g2 hm hq hr hs9 hp0 hp5
      generalize symL (257 + 4 * m + v / 2 ^ m) = S at *
      go_enter Try.func22, Try.ntmps22
      go_wp2_with (first | (go_at_call 31; refine Calls.mono KL.out (fun e w2 hp => ?_); obtain ⟨rfl, rfl⟩ := hp) | (go_at_call 24; refine Calls.mono KS.out (fun e w2 hp => ?_); obtain ⟨rfl, ob1, j1, hW, hlt, hM⟩ := hp; have KC2 := Kept.mk (KN.out w2 ob1 j1 hW hlt); have KM := Kept.mk hM; clear hW hlt hM) | (go_at_call 19; refine Calls.mono KC2.out (fun e w3 hp => ?_); obtain ⟨rfl, hW⟩ := hp; have KW := Kept.mk hW; clear hW))
      refine bodyPost_end (results_none rfl _ _ _) rfl ?_
      exact AfterW.next KM.out ⟨rfl, KW.out⟩

set_option maxHeartbeats 1000000 in
set_option maxRecDepth 100000 in
theorem wdistance_any {W0 w : World} {rb : Nat} {ob : Option Nat} {L : List Int} {j : Nat} (v : Nat) (hv : v < 32768) (h : Wt W0 w rb ob L j) (hj : L.length < 8 * j + 8) (hl : L.length + 25 ≤ 1073741824) :
    Calls Try.prog 23 #[.pointer (some ⟨rb, 0, none⟩), .int .i64 ((v + 1 : Nat) : Int)] w fun e w' => AfterW W0 w w' rb ob (L ++ distL v) e := by
  unfold distL
  by_cases h2 : v < 4
  · rw [if_pos h2]
    have KC := Kept.mk (code_any v 5 (by omega) (by omega) h hj (by omega))
    have hd2 : decide ((v : Int) < 4) = true := by simp; omega
    clear h
    go_enter Try.func23, Try.ntmps23
    go_wp2_with (go_at_call 32; refine Calls.mono KC.out (fun e w2 hp => ?_); obtain ⟨rfl, hW⟩ := hp; have KW := Kept.mk hW; clear hW)
    refine bodyPost_ret (results_none rfl _ _ _) rfl ?_
    exact ⟨rfl, KW.out⟩
  · rw [if_neg h2]
    have hd2 : decide ((v : Int) < 4) = false := by simp; omega
    have g1 := lenN_lt v
    have g3 := lenN_small (x := v) (k := 15) (by omega)
    have g4 : 3 ≤ lenN v := by
      rcases Nat.lt_or_ge (lenN v) 3 with g | g
      · have : 2 ^ lenN v ≤ 2 ^ 2 := Nat.pow_le_pow_right (by omega) (by omega)
        omega
      · exact g
    obtain ⟨m, hm⟩ : ∃ m, lenN v = m + 2 := ⟨lenN v - 2, by omega⟩
    have KL := Kept.mk (len_any v (by omega) w)
    rw [hm] at g1 g3 g4 KL ⊢
    rw [show m + 2 - 2 = m from by omega]
    have hp0 : 0 < (2 : Nat) ^ m := Nat.pow_pos (by omega)
    have hp5 : (2 : Nat) ^ m ≤ 2 ^ 13 := Nat.pow_le_pow_right (by omega) (by omega)
    have hq : v / 2 ^ m < 4 := by
      rw [Nat.div_lt_iff_lt_mul hp0, Nat.mul_comm, show (4 : Nat) = 2 ^ 2 from rfl, ← Nat.pow_add]
      exact g1
    have hr : v % 2 ^ m < 2 ^ m := Nat.mod_lt _ hp0
    have KS := Kept.mk (code_any (2 * m + v / 2 ^ m) 5 (by omega) (by omega) h hj (by omega))
    rw [show ((2 * m + v / 2 ^ m : Nat) : Int) = 2 * (m : Int) + (v : Int) / 2 ^ m from by simp] at KS
    have hs5 := codeL_length (2 * m + v / 2 ^ m) 5
    have KN : Kept (∀ w1 ob1 j1, Wt W0 w1 rb ob1 (L ++ codeL (2 * m + v / 2 ^ m) 5) j1 → (L ++ codeL (2 * m + v / 2 ^ m) 5).length < 8 * j1 + 8 → Calls Try.prog 19 #[.pointer (some ⟨rb, 0, none⟩), .int .i64 ((v % 2 ^ m : Nat) : Int), .int .i64 m] w1 fun e w' => AfterW W0 w1 w' rb ob1 (L ++ (codeL (2 * m + v / 2 ^ m) 5 ++ bitsL ((v % 2 ^ m : Nat) : Int) m)) e) := ⟨fun w1 ob1 j1 hW hlt => by
      have := wnumber_any ((v % 2 ^ m : Nat) : Int) m (by omega) (by exact_mod_cast hr) (by omega) hW hlt (by rw [List.length_append]; omega)
      rw [List.append_assoc] at this
      exact this⟩
    rw [show ((v % 2 ^ m : Nat) : Int) = (v : Int) % 2 ^ m from by simp] at KN
    have hqi : (v : Int) / 2 ^ m < 4 := by exact_mod_cast hq
    have hqi0 : 0 ≤ (v : Int) / 2 ^ m := Int.ediv_nonneg (by omega) (by have : (0 : Int) < 2 ^ m := Int.pow_pos (by omega); omega)
    have hm5 : (m : Int) ≤ 13 := by omega
    have hpi : (2 : Int) ^ m ≤ 8192 := by exact_mod_cast hp5
    have hpi0 : (0 : Int) < 2 ^ m := Int.pow_pos (by omega)
    have hand := and_low v m (by omega) (by omega)
    rw [show ((v % 2 ^ m : Nat) : Int) = (v : Int) % 2 ^ m from by simp] at hand ⊢
    clear h g1 hm hq hr hs5 hp0 hp5
    generalize codeL (2 * m + v / 2 ^ m) 5 = S at *
    go_enter Try.func23, Try.ntmps23
    go_wp2_with (first | (go_at_call 31; refine Calls.mono KL.out (fun e w2 hp => ?_); obtain ⟨rfl, rfl⟩ := hp) | (go_at_call 32; refine Calls.mono KS.out (fun e w2 hp => ?_); obtain ⟨rfl, ob1, j1, hW, hlt, hM⟩ := hp; have KC2 := Kept.mk (KN.out w2 ob1 j1 hW hlt); have KM := Kept.mk hM; clear hW hlt hM) | (go_at_call 19; refine Calls.mono KC2.out (fun e w3 hp => ?_); obtain ⟨rfl, hW⟩ := hp; have KW := Kept.mk hW; clear hW))
    refine bodyPost_end (results_none rfl _ _ _) rfl ?_
    exact AfterW.next KM.out ⟨rfl, KW.out⟩
end Go.Proofs.Ytjijkcmbbccfmaa
