/-
  Walks: the document's number, code, symbol.
-/
import Derived.Test.YtjijkcmbbccfmaaF12
namespace Go.Proofs.Ytjijkcmbbccfmaa
open Go.RowKit

theorem and_oneF (E : Int) (h0 : 0 ≤ E) (h1 : E ≤ 65535) : bits .and .i64 E 1 = E % 2 := by
  have h := and_low E.toNat 1 (by omega) (by omega)
  rw [Int.toNat_of_nonneg h0] at h
  rw [show (2 : Int) ^ 1 - 1 = 1 from rfl] at h
  rw [h]
  omega

set_option maxHeartbeats 1000000 in
set_option maxRecDepth 100000 in
theorem dnumber4_any {W0 w : World} {rb : Nat} {ob : Option Nat} {L : List Int} (v n : Nat) (hv : v < 65536) (hn : n ≤ 16) (h : Bt W0 w rb ob L) (hl : L.length + n ≤ 1073741824) :
    Calls Try.prog 35 #[.pointer (some ⟨rb, 0, none⟩), .int .i64 v, .int .i64 n] w fun e w' => AfterB W0 w w' rb ob (L ++ bitsL v n) e := by
  have KH := Kept.mk h
  clear h
  go_enter Try.func35, Try.ntmps35
  go_wp2
  go_loopw [6] (fun iv wr => ∃ (i : Nat) (ob' : Option Nat), iv = .int .i64 i ∧ i ≤ n ∧ Bt W0 wr rb ob' (L ++ bitsL v i) ∧ Mq rb ob ob' w wr) (fun iv _ => n - (intOf iv).toNat)
  case atStart => exact ⟨0, ob, rfl, by omega, by simpa [bitsL] using KH.out, Mq.refl _ _ _⟩
  case round =>
    obtain ⟨i, ob1, rfl, hi, hB, hM⟩ := hrel
    have KM := Kept.mk hM
    have KB := Kept.mk hB
    clear hM hB
    by_cases hlt : i < n
    · have hlti : (i : Int) < (n : Int) := by omega
      have hp0 : (0 : Int) < 2 ^ i := Int.pow_pos (by omega)
      have hd0 : 0 ≤ (v : Int) / 2 ^ i := Int.ediv_nonneg (by omega) (by omega)
      have hd1 : (v : Int) / 2 ^ i ≤ 65535 := Int.le_trans (Int.ediv_le_self _ (by omega)) (by omega)
      have hand := and_oneF _ hd0 hd1
      have KC := Kept.mk (bit_any ((v : Int) / 2 ^ i % 2) (by omega) KB.out (by rw [List.length_append, bitsL_length]; omega))
      have hi16 : (i : Int) < 16 := by omega
      go_wp2_with (go_at_call 34; refine Calls.mono KC.out (fun e w2 hp => ?_); obtain ⟨rfl, ob2, hB2, hM2⟩ := hp; have KB2 := Kept.mk hB2; have KM2 := Kept.mk hM2; clear hB2 hM2)
      go_roundw
      case rel =>
        refine ⟨i + 1, ob2, rfl, by omega, ?_, KM.out.trans KM2.out⟩
        have h2 := KB2.out
        rw [List.append_assoc] at h2
        exact h2
      case measure => simp [intOf]; omega
    · have hin : i = n := by omega
      subst hin
      go_wp2
      refine bodyPost_end (results_none rfl _ _ _) rfl ?_
      exact ⟨rfl, ob1, KB.out, KM.out⟩
end Go.Proofs.Ytjijkcmbbccfmaa
