/-
  The document's reader: bit, number, fail, put, with what was met in the state.
-/
import Derived.Test.YthbcloplhjmkkaaDoorD1
namespace Go.Proofs.YthbcloplhjmkkaaDoor
open Go.RowKit

/-- A bit: its value, the place behind, what was met. -/
def dbit (p : List Int) (t : Nat) (E : Int) : Int × Nat × Int :=
  if E ≠ 0 then (0, t, E) else if t < 8 * p.length then (bitF p t, t + 1, 0) else (0, t, 5)
/-- A number of n bits. -/
def dnum (p : List Int) (t : Nat) (E : Int) : Nat → Int × Nat × Int
  | 0 => (0, t, E)
  | n + 1 => ((dnum p t E n).1 + (dbit p (dnum p t E n).2.1 (dnum p t E n).2.2).1 * 2 ^ n, (dbit p (dnum p t E n).2.1 (dnum p t E n).2.2).2)
theorem dbit_range (p : List Int) (t : Nat) (E : Int) : 0 ≤ (dbit p t E).1 ∧ (dbit p t E).1 ≤ 1 := by
  unfold dbit
  have h := bitF_range p t
  repeat' split
  all_goals first | exact h | simp
theorem dnum_range (p : List Int) (t : Nat) (E : Int) : ∀ n, 0 ≤ (dnum p t E n).1 ∧ (dnum p t E n).1 < 2 ^ n
  | 0 => by simp [dnum]
  | n + 1 => by
    have h := dnum_range p t E n
    have b := dbit_range p (dnum p t E n).2.1 (dnum p t E n).2.2
    rw [dnum, Int.pow_succ]
    generalize (dbit p (dnum p t E n).2.1 (dnum p t E n).2.2).1 = y at *
    generalize (dnum p t E n).1 = x at *
    generalize (2 : Int) ^ n = z at *
    have hy : y = 0 ∨ y = 1 := by omega
    rcases hy with rfl | rfl <;> simp <;> omega
/-- Once something was met nothing is taken. -/
theorem dnum_off (p : List Int) (t : Nat) (E : Int) (hE : E ≠ 0) : ∀ n, dnum p t E n = (0, t, E)
  | 0 => rfl
  | n + 1 => by
    rw [dnum, dnum_off p t E hE n]
    simp [dbit, hE]
/-- As long as there are bits. -/
theorem dnum_on (p : List Int) (t : Nat) : ∀ n, t + n ≤ 8 * p.length → dnum p t 0 n = (valF p t n, t + n, 0)
  | 0, _ => rfl
  | n + 1, h => by
    rw [dnum, dnum_on p t n (by omega), valF_add p 1 n t]
    have ht : t + n < 8 * p.length := by omega
    simp [dbit, ht, valF, Nat.add_assoc, Int.mul_comm]
/-- And where there are none. -/
theorem dnum_short (p : List Int) (t : Nat) (ht : t ≤ 8 * p.length) : ∀ n, 8 * p.length < t + n → (dnum p t 0 n).2 = (8 * p.length, 5)
  | 0, h => by omega
  | n + 1, h => by
    rcases Nat.lt_or_ge (8 * p.length) (t + n) with h1 | h1
    · rw [dnum, dnum_short p t ht n h1]
      simp [dbit]
    · rw [dnum, dnum_on p t n h1]
      have : t + n = 8 * p.length := by omega
      simp [dbit, this]

theorem dbit_any {W0 w : World} {rb : Nat} {ob : Option Nat} {inV : Value} {p out : List Int} {most t : Nat} {E : Int} (h : Bts W0 w rb ob inV p most out t E) :
    Calls Tryd.prog 17 #[.pointer (some ⟨rb, 0, none⟩)] w fun e w' => e = .returned (.int .i64 (dbit p t E).1) ∧ Bts W0 w' rb ob inV p most out (dbit p t E).2.1 (dbit p t E).2.2 ∧ Fr rb ob w w' := by
  by_cases hE : E = 0
  · subst hE
    by_cases ht : t < 8 * p.length
    · have e : dbit p t 0 = (bitF p t, t + 1, 0) := by simp [dbit, ht]
      rw [e]
      exact bit_on ht h
    · have e : dbit p t 0 = (0, t, 5) := by simp [dbit, ht]
      rw [e]
      exact bit_short (Nat.le_of_not_lt ht) h
  · have e : dbit p t E = (0, t, E) := by simp [dbit, hE]
    rw [e]
    refine Calls.mono (bit_off hE h) (fun e w' hp => ?_)
    obtain ⟨rfl, rfl⟩ := hp
    exact ⟨rfl, h, Fr.refl _ _ _⟩

theorem two_pow_le16 (k : Nat) (h : k ≤ 16) : (2 : Int) ^ k ≤ 65536 := by
  have : (2 : Nat) ^ k ≤ 2 ^ 16 := Nat.pow_le_pow_right (by omega) h
  have h2 : ((2 ^ k : Nat) : Int) ≤ 65536 := by omega
  rw [Int.natCast_pow] at h2
  exact h2

set_option maxHeartbeats 1000000 in
set_option maxRecDepth 100000 in
theorem dnumber_any {W0 w : World} {rb : Nat} {ob : Option Nat} {inV : Value} {p out : List Int} {most t : Nat} {E : Int} (n : Nat) (hn : n ≤ 16) (h : Bts W0 w rb ob inV p most out t E) :
    Calls Tryd.prog 18 #[.pointer (some ⟨rb, 0, none⟩), .int .i64 n] w fun e w' => e = .returned (.int .i64 (dnum p t E n).1) ∧ Bts W0 w' rb ob inV p most out (dnum p t E n).2.1 (dnum p t E n).2.2 ∧ Fr rb ob w w' := by
  have KH := Kept.mk h
  clear h
  go_enter Tryd.func18, Tryd.ntmps18
  go_wp2
  go_loopw [5, 6] (fun s5 s6 wr => ∃ (k : Nat) (v : Int), k ≤ n ∧ s5 = .int .i64 v ∧ s6 = .int .i64 k ∧ v = (dnum p t E k).1 ∧ Bts W0 wr rb ob inV p most out (dnum p t E k).2.1 (dnum p t E k).2.2 ∧ Fr rb ob w wr) (fun _ s6 _ => n - (intOf s6).toNat)
  case atStart => exact ⟨0, 0, by omega, rfl, rfl, rfl, KH.out, Fr.refl _ _ _⟩
  case round =>
    obtain ⟨k, v, hk, rfl, rfl, hv, hR, hF⟩ := hrel
    have hvr := dnum_range p t E k
    rw [← hv] at hvr
    have hpk : (2 : Int) ^ k ≤ 65536 := two_pow_le16 k (by omega)
    have KR := Kept.mk hR
    have KF := Kept.mk hF
    have KV := Kept.mk hv
    clear hR hF hv
    by_cases hlt : k < n
    · have hbr := dbit_range p (dnum p t E k).2.1 (dnum p t E k).2.2
      have hbit := dbit_any KR.out
      have hs : (dnum p t E (k + 1)).1 = (dnum p t E k).1 + (dbit p (dnum p t E k).2.1 (dnum p t E k).2.2).1 * 2 ^ k := rfl
      have hs2 : (dnum p t E (k + 1)).2 = (dbit p (dnum p t E k).2.1 (dnum p t E k).2.2).2 := rfl
      rw [← hs2] at hbit
      rw [← KV.out] at hs
      generalize (dbit p (dnum p t E k).2.1 (dnum p t E k).2.2).1 = y at *
      have KB := Kept.mk hbit
      have KS := Kept.mk hs
      clear hbit hs hs2
      have hy : 0 ≤ y * 2 ^ k ∧ y * 2 ^ k ≤ 65536 := by
        have : y = 0 ∨ y = 1 := by omega
        rcases this with rfl | rfl
        · simp
        · have : (0 : Int) < 2 ^ k := Int.pow_pos (by omega)
          omega
      go_wp2_with (go_at_call 17; refine Calls.mono KB.out (fun e w1 hp => ?_); obtain ⟨rfl, hR1, hF1⟩ := hp; have KR1 := Kept.mk hR1; have KF1 := Kept.mk hF1; clear hR1 hF1)
      go_roundw
      case rel => exact ⟨k + 1, v + y * 2 ^ k, by omega, rfl, by go_num, KS.out.symm, KR1.out, KF.out.trans KF1.out⟩
      case measure => simp [intOf]; omega
    · have : k = n := by omega
      subst this
      go_wp2
      go_ret
      exact ⟨by rw [KV.out]; rfl, KR.out, KF.out⟩

set_option maxHeartbeats 1000000 in
set_option maxRecDepth 100000 in
/-- No form, if nothing was met before. -/
theorem dfail_any {W0 w : World} {rb : Nat} {ob : Option Nat} {inV : Value} {p out : List Int} {most t : Nat} {E : Int} (h : Bts W0 w rb ob inV p most out t E) :
    Calls Tryd.prog 23 #[.pointer (some ⟨rb, 0, none⟩)] w fun e w' => e = .returned (.tuple #[]) ∧ Bts W0 w' rb ob inV p most out t (if E = 0 then 4 else E) ∧ Fr rb ob w w' := by
  obtain ⟨outV, hB, -⟩ := h.blk
  have c4 := hB.c4
  have f4 := hB.fz 4
  have KH := Kept.mk h
  clear h hB
  by_cases hE : E = 0
  · subst hE
    go_enter Tryd.func23, Tryd.ntmps23
    go_wp2
    refine bodyPost_end (results_none rfl _ _ _) rfl ?_
    exact ⟨rfl, KH.out.met 4, (Fr.refl rb ob w).set 4 _⟩
  · go_enter Tryd.func23, Tryd.ntmps23
    go_wp2
    refine bodyPost_end (results_none rfl _ _ _) rfl ?_
    exact ⟨rfl, KH.out, Fr.refl _ _ _⟩
end Go.Proofs.YthbcloplhjmkkaaDoor
