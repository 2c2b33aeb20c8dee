/-
  Walks: the document's code, symbol.
-/
import Derived.Test.YtjijkcmbbccfmaaF13
namespace Go.Proofs.Ytjijkcmbbccfmaa
open Go.RowKit

theorem bitsL_get (v : Int) : ∀ (n c : Nat), c < n → (bitsL v n)[c]? = some (v / 2 ^ c % 2)
  | 0, c, h => by omega
  | n + 1, c, h => by
    rw [bitsL]
    by_cases hc : c < n
    · rw [List.getElem?_append_left (by rw [bitsL_length]; exact hc)]
      exact bitsL_get v n c hc
    · obtain rfl : c = n := by omega
      rw [List.getElem?_append_right (by rw [bitsL_length]; exact Nat.le_refl _), bitsL_length]
      simp
theorem bitsL_drop (v : Int) (n c : Nat) (h : c < n) : (bitsL v n).drop c = (v / 2 ^ c % 2) :: (bitsL v n).drop (c + 1) := by
  have h1 := bitsL_get v n c h
  obtain ⟨h2, h3⟩ := List.getElem?_eq_some_iff.1 h1
  rw [List.drop_eq_getElem_cons h2, h3]

set_option maxHeartbeats 1000000 in
set_option maxRecDepth 100000 in
theorem dcode_any {W0 w : World} {rb : Nat} {ob : Option Nat} {L : List Int} (v n : Nat) (hv : v < 65536) (hn : n ≤ 16) (h : Bt W0 w rb ob L) (hl : L.length + n ≤ 1073741824) :
    Calls Try.prog 44 #[.pointer (some ⟨rb, 0, none⟩), .int .i64 v, .int .i64 n] w fun e w' => AfterB W0 w w' rb ob (L ++ codeL v n) e := by
  have KH := Kept.mk h
  clear h
  go_enter Try.func44, Try.ntmps44
  go_wp2
  go_loopw [6] (fun iv wr => ∃ (c : Nat) (ob' : Option Nat), iv = .int .i64 ((c : Int) - 1) ∧ c ≤ n ∧ Bt W0 wr rb ob' (L ++ ((bitsL v n).drop c).reverse) ∧ Mq rb ob ob' w wr) (fun iv _ => (intOf iv + 1).toNat)
  case atStart => exact ⟨n, ob, rfl, by omega, by rw [List.drop_of_length_le (by rw [bitsL_length]; exact Nat.le_refl _)]; simpa using KH.out, Mq.refl _ _ _⟩
  case round =>
    obtain ⟨c, ob1, rfl, hc, hB, hM⟩ := hrel
    have KM := Kept.mk hM
    have KB := Kept.mk hB
    clear hM hB
    by_cases h0 : c = 0
    · subst h0
      go_wp2
      refine bodyPost_end (results_none rfl _ _ _) rfl ?_
      exact ⟨rfl, ob1, KB.out, KM.out⟩
    · obtain ⟨i, rfl⟩ : ∃ i, c = i + 1 := ⟨c - 1, by omega⟩
      have hci : ((i + 1 : Nat) : Int) - 1 = (i : Int) := by omega
      rw [hci]
      have hp0 : (0 : Int) < 2 ^ i := Int.pow_pos (by omega)
      have hd0 : 0 ≤ (v : Int) / 2 ^ i := Int.ediv_nonneg (by omega) (by omega)
      have hd1 : (v : Int) / 2 ^ i ≤ 65535 := Int.le_trans (Int.ediv_le_self _ (by omega)) (by omega)
      have hand := and_oneF _ hd0 hd1
      have KC := Kept.mk (bit_any ((v : Int) / 2 ^ i % 2) (by omega) KB.out (by rw [List.length_append, List.length_reverse, List.length_drop, bitsL_length]; omega))
      have hi16 : (i : Int) < 16 := by omega
      go_wp2_with (go_at_call 34; refine Calls.mono KC.out (fun e w2 hp => ?_); obtain ⟨rfl, ob2, hB2, hM2⟩ := hp; have KB2 := Kept.mk hB2; have KM2 := Kept.mk hM2; clear hB2 hM2)
      go_roundw
      case rel =>
        refine ⟨i, ob2, rfl, by omega, ?_, KM.out.trans KM2.out⟩
        have h2 := KB2.out
        rw [bitsL_drop (v : Int) n i (by omega), List.reverse_cons, ← List.append_assoc]
        exact h2
      case measure => simp [intOf]
end Go.Proofs.Ytjijkcmbbccfmaa
