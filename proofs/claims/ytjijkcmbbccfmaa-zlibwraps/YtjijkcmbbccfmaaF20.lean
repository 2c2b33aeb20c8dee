/-
  Walks: the document's distance.
-/
import Derived.Test.YtjijkcmbbccfmaaF19
namespace Go.Proofs.Ytjijkcmbbccfmaa
open Go.RowKit

set_option maxHeartbeats 1000000 in
set_option maxRecDepth 100000 in
theorem ddistance4_any {W0 w : World} {rb : Nat} {ob : Option Nat} {L : List Int} (v : Nat) (hv : v < 32768) (h : Bt W0 w rb ob L) (hl : L.length + 25 ≤ 1073741824) :
    Calls Try.prog 39 #[.pointer (some ⟨rb, 0, none⟩), .int .i64 ((v : Int) + 1)] w fun e w' => AfterB W0 w w' rb ob (L ++ distL v) e := by
  obtain ⟨g1, g2, g3, g4⟩ := dist_facts hv
  have KH := Kept.mk h
  have K2 := Kept.mk g2
  have K3 := Kept.mk g3
  have K4 := Kept.mk g4
  clear h g3 g4 g2
  go_enter Try.func39, Try.ntmps39
  go_wp2
  go_loopw [4] (fun iv wr => ∃ s : Nat, iv = .int .i64 s ∧ s ≤ sD v ∧ wr = w) (fun iv _ => (30 - intOf iv).toNat)
  case atStart => exact ⟨0, rfl, by omega, rfl⟩
  case round =>
    obtain ⟨s, rfl, hs1, rfl⟩ := hrel
    have hs2 : s ≤ 29 := by omega
    have hb := dist_bounds hs2
    have KL := Kept.mk (dDistance4_any wr s (by omega) (by omega))
    have hd30 : decide ((s : Int) < 30) = true := by simp; omega
    by_cases he : s = sD v
    · have hc1 := K2.out
      have hc2 := K3.out
      have h4 := K4.out
      rw [← he] at h4 hc1 hc2 g1
      have KS := Kept.mk (dcode_any s 5 (by omega) (by omega) KH.out (by omega))
      obtain ⟨le, hle⟩ : ∃ le, (ddist4 s).1 = le := ⟨_, rfl⟩
      obtain ⟨m, hm⟩ : ∃ m, (ddist4 s).2 = m := ⟨_, rfl⟩
      rw [hle, hm] at hb KL h4 hc2
      rw [hle] at hc1
      have KN : Kept (∀ w1 ob1, Bt W0 w1 rb ob1 (L ++ codeL s 5) → Calls Try.prog 35 #[.pointer (some ⟨rb, 0, none⟩), .int .i64 ((v : Int) + 1 - le), .int .i64 m] w1 fun e w' => AfterB W0 w1 w' rb ob1 (L ++ distL v) e) := ⟨fun w1 ob1 hW => by
        have h5 := dnumber4_any ((v : Int) + 1 - le).toNat m (by omega) (by omega) hW (by rw [List.length_append, codeL_length]; omega)
        rw [Int.toNat_of_nonneg (by omega), List.append_assoc, ← h4] at h5
        exact h5⟩
      have hp : (2 : Int) ^ m ≤ 8192 := pow2_le4 (b := 13) hb.2.2
      have hp0 : (0 : Int) < 2 ^ m := Int.pow_pos (by omega)
      have hd1 : decide (le ≤ (v : Int) + 1) = true := by simpa using hc1
      have hd3 : decide ((v : Int) + 1 < le + 2 ^ m) = true := by simpa using hc2
      have Kh4 := Kept.mk h4
      clear h4 hle hm he
      go_wp2_with (first | (go_at_call 46; refine Calls.mono KL.out (fun e w2 hp => ?_); obtain ⟨rfl, rfl⟩ := hp) | (go_at_call 44; refine Calls.mono KS.out (fun e w2 hp => ?_); obtain ⟨rfl, ob1, hW, hM⟩ := hp; have KC2 := Kept.mk (KN.out w2 ob1 hW); have KM := Kept.mk hM; clear hW hM) | (go_at_call 35; refine Calls.mono KC2.out (fun e w3 hp => ?_); obtain ⟨rfl, hW⟩ := hp; have KW := Kept.mk hW; clear hW))
      refine bodyPost_ret (results_none rfl _ _ _) rfl ?_
      exact AfterB.next KM.out ⟨rfl, KW.out⟩
    · have hmn := dist_mono (s := s) (t := sD v) (by omega) g1
      have hc1 := K2.out
      obtain ⟨le, hle⟩ : ∃ le, (ddist4 s).1 = le := ⟨_, rfl⟩
      obtain ⟨m, hm⟩ : ∃ m, (ddist4 s).2 = m := ⟨_, rfl⟩
      rw [hle, hm] at hb KL hmn
      have hp : (2 : Int) ^ m ≤ 8192 := pow2_le4 (b := 13) hb.2.2
      have hp0 : (0 : Int) < 2 ^ m := Int.pow_pos (by omega)
      have hd1 : decide (le ≤ (v : Int) + 1) = true := by simp; omega
      have hd3 : decide ((v : Int) + 1 < le + 2 ^ m) = false := by simp; omega
      clear hle hm hmn hc1
      go_wp2_with (go_at_call 46; refine Calls.mono KL.out (fun e w2 hp => ?_); obtain ⟨rfl, rfl⟩ := hp)
      go_roundw
      case rel => exact ⟨s + 1, by congr 1, by omega, trivial⟩
      case measure => simp [intOf]; omega
end Go.Proofs.Ytjijkcmbbccfmaa
