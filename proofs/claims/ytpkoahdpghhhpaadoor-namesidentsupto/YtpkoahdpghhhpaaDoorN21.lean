/-
  Walks of the document: number.
-/
import Derived.Test.YtpkoahdpghhhpaaDoorN20
namespace Go.Proofs.YtpkoahdpghhhpaaDoor
open Go.RowKit

/-- What 'number' answers: letters k and on, v so far. -/
def nmGo (s : ByteArray) (v : Int) (k : Nat) : Nat → Int
  | 0 => v
  | n + 1 => if 48 ≤ sN s k ∧ sN s k ≤ 57 then nmGo s (10 * v + (sN s k - 48)) (k + 1) n else -1
def nmF (s : ByteArray) : Int := if s.size = 0 ∨ 13 < s.size then -1 else nmGo s 0 0 s.size

theorem nmGo_step (s : ByteArray) (v : Int) (k : Nat) (n : Nat) (h : 48 ≤ sN s k ∧ sN s k ≤ 57) : nmGo s v k (n + 1) = nmGo s (10 * v + (sN s k - 48)) (k + 1) n := by
  rw [nmGo, if_pos h]
theorem nmGo_bad (s : ByteArray) (v : Int) (k : Nat) (n : Nat) (h : ¬ (48 ≤ sN s k ∧ sN s k ≤ 57)) : nmGo s v k (n + 1) = -1 := by
  rw [nmGo, if_neg h]

set_option maxHeartbeats 1000000 in
set_option maxRecDepth 100000 in
theorem rnumber_same (s : ByteArray) (w : World) : Calls Tryd.prog 40 #[.string s] w fun e w' => e = .returned (.int .i64 (nmF s)) ∧ w' = w := by
  by_cases h0 : s.size = 0
  · have e0 : s = ⟨#[]⟩ := by
      apply ByteArray.ext
      exact Array.eq_empty_of_size_eq_zero h0
    subst e0
    go_enter Tryd.func40, Tryd.ntmps40
    go_wp2
    go_ret
    exact ⟨rfl, rfl⟩
  · have hne : (s.toList == ([] : List UInt8)) = false := by
      rw [Lib.toList_data]
      cases e : s.data.toList with
      | nil => exact absurd (by rw [Lib.size_eq, e]; rfl) h0
      | cons a b => rfl
    by_cases h13 : 13 < s.size
    · have KE : Kept (nmF s = -1) := ⟨by unfold nmF; rw [if_pos (Or.inr h13)]⟩
      have hd : decide (13 < (s.size : Int)) = true := by simp; omega
      go_enter Tryd.func40, Tryd.ntmps40
      go_wp2
      go_ret
      exact ⟨by rw [KE.out]; rfl, rfl⟩
    · have KE : Kept (nmF s = nmGo s 0 0 s.size) := ⟨by unfold nmF; rw [if_neg (by omega)]⟩
      have hd : decide (13 < (s.size : Int)) = false := by simp; omega
      go_enter Tryd.func40, Tryd.ntmps40
      go_wp2
      go_loopw [3, 4] (fun vv iv wr => ∃ (k : Nat) (v : Int), k ≤ s.size ∧ vv = .int .i64 v ∧ iv = .int .i64 k ∧ wr = w ∧ 0 ≤ v ∧ v < ((10 ^ k : Nat) : Int) ∧ nmGo s 0 0 s.size = nmGo s v k (s.size - k)) (fun _ iv _ => s.size - (intOf iv).toNat)
      case atStart => exact ⟨0, 0, by omega, rfl, rfl, rfl, by omega, by simp, rfl⟩
      case round =>
        obtain ⟨k, v, hk, rfl, rfl, rfl, hv0, hv1, hgo⟩ := hrel
        have KGo := Kept.mk hgo
        clear hgo
        by_cases hlt : k < s.size
        · have hp : (10 ^ k : Nat) ≤ 10 ^ 12 := Nat.pow_le_pow_right (by omega) (by omega)
          have hp1 : (10 ^ (k + 1) : Nat) = 10 * 10 ^ k := by rw [Nat.pow_succ]; omega
          have hd2 : ((k : Int) < (s.size : Int)) := by omega
          have hi := run_index_text wr s .i64 k hlt
          have hr := sN_range s k
          have hs1 : s.size - k = (s.size - (k + 1)) + 1 := by omega
          by_cases hx : 48 ≤ sN s k ∧ sN s k ≤ 57
          · have KS := Kept.mk (nmGo_step s v k (s.size - (k + 1)) hx)
            obtain ⟨hx0, hx1⟩ := hx
            have KP := Kept.mk (And.intro hp hp1)
            have hv2 : v < 1000000000000 := by omega
            generalize sN s k = x at hi hr hx0 hx1 KS
            have hw1 : IntKind.u8.wrap (x - 48) = x - 48 := by rw [IntKind.wrap_u8]; omega
            have hw2 : IntKind.i64.wrap (x - 48) = x - 48 := by rw [IntKind.wrap_i64]; omega
            have hw3 : IntKind.i64.wrap (10 * v) = 10 * v := by rw [IntKind.wrap_i64]; omega
            have hw4 : IntKind.i64.wrap (10 * v + (x - 48)) = 10 * v + (x - 48) := by rw [IntKind.wrap_i64]; omega
            have hw5 : IntKind.i64.wrap ((k : Int) + 1) = (k : Int) + 1 := by rw [IntKind.wrap_i64]; omega
            have n1 : ¬ x < 48 := by omega
            have n2 : ¬ 57 < x := by omega
            clear hp hp1 hs1
            go_wp2
            refine ⟨⟨k + 1, 10 * v + (x - 48), by omega, rfl, by simp, trivial, by omega, ?_, ?_⟩, by simp [intOf]; omega⟩
            · rw [KP.out.2]
              generalize 10 ^ k = p at hv1 ⊢
              omega
            · rw [KGo.out, show s.size - k = (s.size - (k + 1)) + 1 by omega, KS.out]
          · have KS := Kept.mk (nmGo_bad s v k (s.size - (k + 1)) hx)
            clear hp hp1
            generalize sN s k = x at hi hr hx KS
            by_cases n1 : x < 48
            · go_wp2
              go_ret
              exact ⟨by rw [KE.out, KGo.out, hs1, KS.out]; rfl, rfl⟩
            · have n2 : 57 < x := by omega
              go_wp2
              go_ret
              exact ⟨by rw [KE.out, KGo.out, hs1, KS.out]; rfl, rfl⟩
        · have hd2 : ¬ ((k : Int) < (s.size : Int)) := by omega
          have KS : Kept (nmF s = v) := ⟨by rw [KE.out, KGo.out, show s.size - k = 0 by omega, nmGo]⟩
          go_wp2
          go_ret
          exact ⟨by rw [KS.out]; rfl, rfl⟩
theorem rnumber_any (s : ByteArray) (w : World) : Calls Tryd.prog 40 #[.string s] w fun e w' => e = .returned (.int .i64 (nmF s)) ∧ Below w.heap.size w w' :=
  (rnumber_same s w).mono fun e w' h => ⟨h.1, by rw [h.2]; exact Below.refl _ _⟩
end Go.Proofs.YtpkoahdpghhhpaaDoor
