/-
  Walks: the document's match.
-/
import Derived.Test.YtjijkcmbbccfmaaF21
namespace Go.Proofs.Ytjijkcmbbccfmaa
open Go.RowKit

/-- How long it is alike with an earlier place. -/
def snF (p : List Int) (i j : Nat) : Nat := cmF p (min 258 (p.length - i)) i j
theorem snF_le (p : List Int) (i j : Nat) : snF p i j ≤ 258 := Nat.le_trans (cmF_le p _ i j) (Nat.min_le_left _ _)
/-- The best of the places below c, and what was best ahead of them. -/
def mtF (p : List Int) (i : Nat) : Nat → Nat → Nat → Nat × Nat
  | 0, best, far => (best, far)
  | c + 1, best, far => if i - c ≤ 32768 then (if 3 ≤ snF p i c ∧ best < snF p i c then mtF p i c (snF p i c) (i - c) else mtF p i c best far) else (best, far)
def mchF (p : List Int) (i : Nat) : Nat × Nat := mtF p i i 0 0

set_option maxHeartbeats 1000000 in
set_option maxRecDepth 100000 in
theorem dmatch_any (pv : Value) (p : List Int) (i : Nat) (w : World) (hp : Rd .u8 anyB w pv p) (hi : i ≤ p.length) (hl : p.length ≤ 1073741824) :
    Calls Try.prog 36 #[pv, .int .i64 i] w fun e w' => e = .returned (.tuple #[.int .i64 (mchF p i).1, .int .i64 (mchF p i).2]) ∧ ∃ m, w' = w.drewN m := by
  have KP := Kept.mk hp
  clear hp
  have hii : (i : Int) ≤ 1073741824 := by omega
  go_enter Try.func36, Try.ntmps36
  go_wp2
  go_loopw [6, 7, 8] (fun bv fv jv wr => ∃ best far c m : Nat, bv = .int .i64 best ∧ fv = .int .i64 far ∧ jv = .int .i64 ((c : Int) - 1) ∧ c ≤ i ∧ best ≤ 258 ∧ mtF p i c best far = mchF p i ∧ wr = w.drewN m) (fun _ _ jv _ => (intOf jv + 1).toNat)
  case atStart => exact ⟨0, 0, i, 0, rfl, rfl, rfl, Nat.le_refl _, by omega, rfl, rfl⟩
  case round =>
    obtain ⟨best, far, c, m, rfl, rfl, rfl, hc, hbest, he, rfl⟩ := hrel
    by_cases h0 : c = 0
    · subst h0
      have KE : Kept (mchF p i = (best, far)) := ⟨by rw [← he, mtF]⟩
      clear he
      go_wp2
      go_ret2
      rw [KE.out]
      exact ⟨rfl, ⟨_, rfl⟩⟩
    · obtain ⟨j, rfl⟩ : ∃ j, c = j + 1 := ⟨c - 1, by omega⟩
      rw [show ((j + 1 : Nat) : Int) - 1 = (j : Int) from by omega]
      rw [mtF] at he
      by_cases h3 : i - j ≤ 32768
      · rw [if_pos h3] at he
        have hd1 : decide ((i : Int) - (j : Int) ≤ 32768) = true := by simp; omega
        have hsn := snF_le p i j
        have KS : Kept (Calls Try.prog 43 #[pv, .int .i64 i, .int .i64 j] (w.drewN m) fun e w' => e = .returned (.int .i64 (snF p i j)) ∧ ∃ m', w' = (w.drewN m).drewN m') := ⟨dsame_any pv p i j (w.drewN m) (KP.out.later (below_drewN (Below.refl w.heap.size w) m) (Nat.le_refl _)) hi (by omega) hl⟩
        obtain ⟨n, hn⟩ : ∃ n, snF p i j = n := ⟨_, rfl⟩
        rw [hn] at he hsn KS
        clear hn
        by_cases hb : 3 ≤ n ∧ best < n
        · rw [if_pos hb] at he
          have hd2 : decide ((3 : Int) ≤ (n : Int)) = true := by simp; omega
          have hd3 : decide ((best : Int) < (n : Int)) = true := by simp; omega
          have hd4 : best < n := hb.2
          have KE := Kept.mk he
          clear he hb
          go_wp2_with (go_at_call 43; refine Calls.mono KS.out (fun e w2 hp => ?_); obtain ⟨rfl, m2, rfl⟩ := hp)
          go_roundw
          case rel => exact ⟨n, i - j, j, m + m2, rfl, by congr 1; omega, rfl, by omega, hsn, KE.out, by simp⟩
          case measure => simp [intOf]
        · rw [if_neg hb] at he
          have KE := Kept.mk he
          clear he
          by_cases h3n : 3 ≤ n
          · have hd2 : decide ((3 : Int) ≤ (n : Int)) = true := by simp; omega
            have hd3 : decide ((best : Int) < (n : Int)) = false := by simp; omega
            have hd4 : ¬ best < n := fun e => hb ⟨h3n, e⟩
            clear hb
            go_wp2_with (go_at_call 43; refine Calls.mono KS.out (fun e w2 hp => ?_); obtain ⟨rfl, m2, rfl⟩ := hp)
            go_roundw
            case rel => exact ⟨best, far, j, m + m2, rfl, rfl, rfl, by omega, hbest, KE.out, by simp⟩
            case measure => simp [intOf]
          · have hd2 : decide ((3 : Int) ≤ (n : Int)) = false := by simp; omega
            clear hb
            go_wp2_with (go_at_call 43; refine Calls.mono KS.out (fun e w2 hp => ?_); obtain ⟨rfl, m2, rfl⟩ := hp)
            go_roundw
            case rel => exact ⟨best, far, j, m + m2, rfl, rfl, rfl, by omega, hbest, KE.out, by simp⟩
            case measure => simp [intOf]
      · rw [if_neg h3] at he
        have hd1 : decide ((i : Int) - (j : Int) ≤ 32768) = false := by simp; omega
        have KE : Kept (mchF p i = (best, far)) := ⟨he.symm⟩
        clear he
        go_wp2
        go_ret2
        rw [KE.out]
        exact ⟨rfl, ⟨_, rfl⟩⟩
end Go.Proofs.Ytjijkcmbbccfmaa
