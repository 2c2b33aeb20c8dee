/-
  Walks: the document's length.
-/
import Derived.Test.YtjijkcmbbccfmaaF17
namespace Go.Proofs.Ytjijkcmbbccfmaa
open Go.RowKit

set_option maxHeartbeats 1000000 in
set_option maxRecDepth 100000 in
theorem dlength4_any {W0 w : World} {rb : Nat} {ob : Option Nat} {L : List Int} (v : Nat) (hv : v ≤ 255) (h : Bt W0 w rb ob L) (hl : L.length + 25 ≤ 1073741824) :
    Calls Try.prog 38 #[.pointer (some ⟨rb, 0, none⟩), .int .i64 ((v : Int) + 3)] w fun e w' => AfterB W0 w w' rb ob (L ++ lenL v) e := by
  obtain ⟨g1, g2, g3, g4, g5⟩ := len_facts hv
  have KH := Kept.mk h
  have K3 := Kept.mk g3
  have K4 := Kept.mk g4
  have K5 := Kept.mk g5
  clear h g3 g4 g5
  go_enter Try.func38, Try.ntmps38
  go_wp2
  go_loopw [4] (fun iv wr => ∃ s : Nat, iv = .int .i64 s ∧ sF v ≤ s ∧ s ≤ 285 ∧ wr = w) (fun iv _ => (intOf iv).toNat)
  case atStart => exact ⟨285, rfl, g2, Nat.le_refl _, rfl⟩
  case round =>
    obtain ⟨s, rfl, hs1, hs2, rfl⟩ := hrel
    have hb := len_bounds (s := s) (by omega) hs2
    have KL := Kept.mk (dLength4_any wr s (by omega) (by omega))
    have hd257 : decide ((257 : Int) ≤ (s : Int)) = true := by simp; omega
    by_cases he : s = sF v
    · have hc := K3.out
      rw [← he] at hc g1 g2
      have h4 := K4.out
      rw [← he] at h4
      have hsl := symL_length s
      have KS := Kept.mk (dsymbol4_any s (by omega) KH.out (by omega))
      unfold condB at hc
      simp only [Bool.and_eq_true, Bool.or_eq_true, decide_eq_true_eq] at hc
      obtain ⟨hc1, hc2⟩ := hc
      obtain ⟨le, hle⟩ : ∃ le, (dlen4 s).1 = le := ⟨_, rfl⟩
      obtain ⟨m, hm⟩ : ∃ m, (dlen4 s).2 = m := ⟨_, rfl⟩
      rw [hle, hm] at hb KL h4
      rw [hle] at hc1 hc2
      rw [hm] at hc2
      have KN : Kept (∀ w1 ob1, Bt W0 w1 rb ob1 (L ++ symL s) → Calls Try.prog 35 #[.pointer (some ⟨rb, 0, none⟩), .int .i64 ((v : Int) + 3 - le), .int .i64 m] w1 fun e w' => AfterB W0 w1 w' rb ob1 (L ++ lenL v) e) := ⟨fun w1 ob1 hW => by
        have h5 := dnumber4_any ((v : Int) + 3 - le).toNat m (by omega) (by omega) hW (by rw [List.length_append]; omega)
        rw [Int.toNat_of_nonneg (by omega), List.append_assoc, ← h4] at h5
        exact h5⟩
      have hp : (2 : Int) ^ m ≤ 32 := pow2_le4 (b := 5) hb.2.2
      have hp0 : (0 : Int) < 2 ^ m := Int.pow_pos (by omega)
      have hd1 : decide (le ≤ (v : Int) + 3) = true := by simpa using hc1
      have Kh4 := Kept.mk h4
      clear h4 hle hm he hsl
      by_cases h285 : s = 285
      · have hd2 : ((s : Int) == 285) = true := by simp; omega
        clear hc2 h285
        go_wp2_with (first | (go_at_call 45; refine Calls.mono KL.out (fun e w2 hp => ?_); obtain ⟨rfl, rfl⟩ := hp) | (go_at_call 37; refine Calls.mono KS.out (fun e w2 hp => ?_); obtain ⟨rfl, ob1, hW, hM⟩ := hp; have KC2 := Kept.mk (KN.out w2 ob1 hW); have KM := Kept.mk hM; clear hW hM) | (go_at_call 35; refine Calls.mono KC2.out (fun e w3 hp => ?_); obtain ⟨rfl, hW⟩ := hp; have KW := Kept.mk hW; clear hW))
        refine bodyPost_ret (results_none rfl _ _ _) rfl ?_
        exact AfterB.next KM.out ⟨rfl, KW.out⟩
      · have hd2 : ((s : Int) == 285) = false := by simp; omega
        have hd3 : decide ((v : Int) + 3 < le + 2 ^ m) = true := by
          rcases hc2 with e | e
          · exact absurd e h285
          · simpa using e
        clear hc2
        go_wp2_with (first | (go_at_call 45; refine Calls.mono KL.out (fun e w2 hp => ?_); obtain ⟨rfl, rfl⟩ := hp) | (go_at_call 37; refine Calls.mono KS.out (fun e w2 hp => ?_); obtain ⟨rfl, ob1, hW, hM⟩ := hp; have KC2 := Kept.mk (KN.out w2 ob1 hW); have KM := Kept.mk hM; clear hW hM) | (go_at_call 35; refine Calls.mono KC2.out (fun e w3 hp => ?_); obtain ⟨rfl, hW⟩ := hp; have KW := Kept.mk hW; clear hW))
        refine bodyPost_ret (results_none rfl _ _ _) rfl ?_
        exact AfterB.next KM.out ⟨rfl, KW.out⟩
    · have hc := K5.out s (by omega) hs2
      unfold condB at hc
      obtain ⟨le, hle⟩ : ∃ le, (dlen4 s).1 = le := ⟨_, rfl⟩
      obtain ⟨m, hm⟩ : ∃ m, (dlen4 s).2 = m := ⟨_, rfl⟩
      rw [hle, hm] at hb KL hc
      have hp : (2 : Int) ^ m ≤ 32 := pow2_le4 (b := 5) hb.2.2
      have hp0 : (0 : Int) < 2 ^ m := Int.pow_pos (by omega)
      clear hle hm
      by_cases hc1 : le ≤ (v : Int) + 3
      · have hd1 : decide (le ≤ (v : Int) + 3) = true := by simpa using hc1
        rw [hd1, Bool.true_and, Bool.or_eq_false_iff] at hc
        obtain ⟨hc2, hd3⟩ := hc
        have hd2 : ((s : Int) == 285) = false := by
          have : ¬ s = 285 := by simpa using hc2
          simp
          omega
        clear hc2 hc1
        go_wp2_with (go_at_call 45; refine Calls.mono KL.out (fun e w2 hp => ?_); obtain ⟨rfl, rfl⟩ := hp)
        go_roundw
        case rel => exact ⟨s - 1, by congr 1; omega, by omega, by omega, trivial⟩
        case measure => simp [intOf]; omega
      · have hd1 : decide (le ≤ (v : Int) + 3) = false := by simpa using hc1
        clear hc hc1
        go_wp2_with (go_at_call 45; refine Calls.mono KL.out (fun e w2 hp => ?_); obtain ⟨rfl, rfl⟩ := hp)
        go_roundw
        case rel => exact ⟨s - 1, by congr 1; omega, by omega, by omega, trivial⟩
        case measure => simp [intOf]; omega
end Go.Proofs.Ytjijkcmbbccfmaa
