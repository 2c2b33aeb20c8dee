/-
  Walks: what PutBig and PutHead answer in every case; NumPuts.
-/
import Derived.Test.YtpleamahaogfiabW8
namespace Go.Proofs.Ytpleamahaogfiab
open Go.RowKit

/-- PutBig's bytes and error. -/
def bigS (xs : List Int) (x n : Int) : List Int × Int := if n < 1 ∨ 8 < n then ([], 1) else if 2 ^ (8 * n.toNat) ≤ x then ([], 10) else (xs ++ bigF n.toNat x, 0)
/-- PutHead's. -/
def headS (xs : List Int) (k x : Int) : List Int × Int := if k < 0 ∨ 7 < k then ([], 1) else (xs ++ headL k x, 0)

theorem putBig_all (v : Value) (xs : List Int) (x n : Int) (w : World) (h : Rd w v xs) (hx0 : 0 ≤ x) (hx1 : x < 18446744073709551616) (hl : xs.length + 20 ≤ 140737488355328) :
    Calls Try.prog 10 #[v, .int .u64 x, .int .i64 n] w fun e w' => ∃ v', e = .returned (.tuple #[v', .int .i64 (bigS xs x n).2]) ∧ Rd w' v' (bigS xs x n).1 ∧ Below w.heap.size w w' := by
  by_cases h1 : n < 1 ∨ 8 < n
  · refine (putBig_bad v x n w h1).mono fun e w' hp => ?_
    obtain ⟨rfl, rfl⟩ := hp
    exact ⟨_, by rw [bigS, if_pos h1], by rw [bigS, if_pos h1]; exact Rd.nil _, Below.refl _ _⟩
  · obtain ⟨m, rfl⟩ := Int.eq_ofNat_of_zero_le (show 0 ≤ n by omega)
    by_cases h2 : (2 : Int) ^ (8 * (m : Int).toNat) ≤ x
    · refine (putBig_lim v x m w (by omega) (by omega) (by simpa using h2)).mono fun e w' hp => ?_
      obtain ⟨rfl, rfl⟩ := hp
      exact ⟨_, by rw [bigS, if_neg h1, if_pos h2], by rw [bigS, if_neg h1, if_pos h2]; exact Rd.nil _, Below.refl _ _⟩
    · refine (putBig_ok v xs x m w h hx0 hx1 (by omega) (by omega) (by simpa using h2) (by omega)).mono fun e w' hp => ?_
      obtain ⟨v', rfl, ho, hb⟩ := hp
      exact ⟨v', by rw [bigS, if_neg h1, if_neg h2], by rw [bigS, if_neg h1, if_neg h2]; exact Rd.own ho (h.allB.append (bigF_bytes _ _)), hb⟩

theorem docPutBig_all (v : Value) (xs : List Int) (x n : Int) (w : World) (h : Rd w v xs) (hx0 : 0 ≤ x) (hx1 : x < 18446744073709551616) (hl : xs.length + 20 ≤ 140737488355328) :
    Calls Try.prog 12 #[v, .int .u64 x, .int .i64 n] w fun e w' => ∃ v', e = .returned (.tuple #[v', .int .i64 (bigS xs x n).2]) ∧ Rd w' v' (bigS xs x n).1 ∧ Below w.heap.size w w' := by
  by_cases h1 : n < 1 ∨ 8 < n
  · refine (docPutBig_bad v x n w h1).mono fun e w' hp => ?_
    obtain ⟨rfl, rfl⟩ := hp
    exact ⟨_, by rw [bigS, if_pos h1], by rw [bigS, if_pos h1]; exact Rd.nil _, Below.refl _ _⟩
  · obtain ⟨m, rfl⟩ := Int.eq_ofNat_of_zero_le (show 0 ≤ n by omega)
    by_cases h2 : (2 : Int) ^ (8 * (m : Int).toNat) ≤ x
    · have h3 : (2 : Int) ^ (8 * m) ≤ x := by simpa using h2
      have h8 : m < 8 := by
        rcases Nat.lt_or_ge m 8 with h | h
        · exact h
        · have e : m = 8 := by omega
          subst e
          exact absurd h3 (by omega)
      refine (docPutBig_lim v x m w (by omega) h8 h3).mono fun e w' hp => ?_
      obtain ⟨rfl, rfl⟩ := hp
      exact ⟨_, by rw [bigS, if_neg h1, if_pos h2], by rw [bigS, if_neg h1, if_pos h2]; exact Rd.nil _, Below.refl _ _⟩
    · refine (docPutBig_ok v xs x m w h hx0 hx1 (by omega) (by omega) (by simpa using h2) (by omega)).mono fun e w' hp => ?_
      obtain ⟨v', rfl, ho, hb⟩ := hp
      exact ⟨v', by rw [bigS, if_neg h1, if_neg h2], by rw [bigS, if_neg h1, if_neg h2]; exact Rd.own ho (h.allB.append (bigF_bytes _ _)), hb⟩

theorem putHead_all (v : Value) (xs : List Int) (k x : Int) (w : World) (h : Rd w v xs) (hx0 : 0 ≤ x) (hx1 : x < 18446744073709551616) (hl : xs.length + 20 ≤ 140737488355328) :
    Calls Try.prog 13 #[v, .int .i64 k, .int .u64 x] w fun e w' => ∃ v', e = .returned (.tuple #[v', .int .i64 (headS xs k x).2]) ∧ Rd w' v' (headS xs k x).1 ∧ Below w.heap.size w w' := by
  by_cases h1 : k < 0 ∨ 7 < k
  · refine (putHead_bad v k x w h1).mono fun e w' hp => ?_
    obtain ⟨rfl, rfl⟩ := hp
    exact ⟨_, by rw [headS, if_pos h1], by rw [headS, if_pos h1]; exact Rd.nil _, Below.refl _ _⟩
  · refine (putHead_ok v xs k x w h (by omega) (by omega) hx0 hx1 hl).mono fun e w' hp => ?_
    obtain ⟨v', rfl, ho, hb⟩ := hp
    exact ⟨v', by rw [headS, if_neg h1], by rw [headS, if_neg h1]; exact Rd.own ho (h.allB.append (headL_bytes k x (by omega) (by omega) hx0 hx1)), hb⟩

theorem docPutHead_all (v : Value) (xs : List Int) (k x : Int) (w : World) (h : Rd w v xs) (hx0 : 0 ≤ x) (hx1 : x < 18446744073709551616) (hl : xs.length + 20 ≤ 140737488355328) :
    Calls Try.prog 14 #[v, .int .i64 k, .int .u64 x] w fun e w' => ∃ v', e = .returned (.tuple #[v', .int .i64 (headS xs k x).2]) ∧ Rd w' v' (headS xs k x).1 ∧ Below w.heap.size w w' := by
  by_cases h1 : k < 0 ∨ 7 < k
  · refine (docPutHead_bad v k x w h1).mono fun e w' hp => ?_
    obtain ⟨rfl, rfl⟩ := hp
    exact ⟨_, by rw [headS, if_pos h1], by rw [headS, if_pos h1]; exact Rd.nil _, Below.refl _ _⟩
  · refine (docPutHead_ok v xs k x w h (by omega) (by omega) hx0 hx1 hl).mono fun e w' hp => ?_
    obtain ⟨v', rfl, ho, hb⟩ := hp
    exact ⟨v', by rw [headS, if_neg h1], by rw [headS, if_neg h1]; exact Rd.own ho (h.allB.append (headL_bytes k x (by omega) (by omega) hx0 hx1)), hb⟩

theorem twin_rd (v : Value) (xs : List Int) (w : World) (h : Rd w v xs) (hl : xs.length + 20 ≤ 140737488355328) :
    Calls Try.prog 11 #[v] w fun e w' => ∃ v', e = .returned v' ∧ Rd w' v' xs ∧ Below w.heap.size w w' :=
  (twin_any v xs w h (by omega)).mono fun e w' hp => by
    obtain ⟨v', rfl, ho, hb⟩ := hp
    exact ⟨v', rfl, Rd.own ho h.allB, hb⟩
theorem putSize_rd (v : Value) (xs : List Int) (x : Int) (w : World) (h : Rd w v xs) (hx0 : 0 ≤ x) (hx1 : x < 18446744073709551616) (hl : xs.length + 20 ≤ 140737488355328) :
    Calls Try.prog 16 #[v, .int .u64 x] w fun e w' => ∃ v', e = .returned v' ∧ Rd w' v' (xs ++ sizeL x) ∧ Below w.heap.size w w' :=
  (putSize_any v xs x w h hx0 hx1 (by omega)).mono fun e w' hp => by
    obtain ⟨v', rfl, ho, hb⟩ := hp
    exact ⟨v', rfl, Rd.own ho (h.allB.append (sizeL_allB x hx0 hx1)), hb⟩
theorem docPutSize_rd (v : Value) (xs : List Int) (x : Int) (w : World) (h : Rd w v xs) (hx0 : 0 ≤ x) (hx1 : x < 18446744073709551616) (hl : xs.length + 20 ≤ 140737488355328) :
    Calls Try.prog 17 #[v, .int .u64 x] w fun e w' => ∃ v', e = .returned v' ∧ Rd w' v' (xs ++ sizeL x) ∧ Below w.heap.size w w' :=
  (docPutSize_any v xs x w h hx0 hx1 (by omega)).mono fun e w' hp => by
    obtain ⟨v', rfl, ho, hb⟩ := hp
    exact ⟨v', rfl, Rd.own ho (h.allB.append (sizeL_allB x hx0 hx1)), hb⟩
theorem putSpan_rd (v : Value) (xs : List Int) (x : Int) (w : World) (h : Rd w v xs) (hx0 : 0 ≤ x) (hx1 : x < 18446744073709551616) (hl : xs.length + 20 ≤ 140737488355328) :
    Calls Try.prog 18 #[v, .int .u64 x] w fun e w' => ∃ v', e = .returned v' ∧ Rd w' v' (xs ++ spanL x) ∧ Below w.heap.size w w' :=
  (putSpan_any v xs x w h hx0 hx1 (by omega)).mono fun e w' hp => by
    obtain ⟨v', rfl, ho, hb⟩ := hp
    exact ⟨v', rfl, Rd.own ho (h.allB.append (spanL_bytes x)), hb⟩
theorem docPutSpan_rd (v : Value) (xs : List Int) (x : Int) (w : World) (h : Rd w v xs) (hx0 : 0 ≤ x) (hx1 : x < 18446744073709551616) (hl : xs.length + 20 ≤ 140737488355328) :
    Calls Try.prog 19 #[v, .int .u64 x] w fun e w' => ∃ v', e = .returned v' ∧ Rd w' v' (xs ++ spanL x) ∧ Below w.heap.size w w' :=
  (docPutSpan_any v xs x w h hx0 hx1 (by omega)).mono fun e w' hp => by
    obtain ⟨v', rfl, ho, hb⟩ := hp
    exact ⟨v', rfl, Rd.own ho (h.allB.append (spanL_bytes x)), hb⟩
end Go.Proofs.Ytpleamahaogfiab
