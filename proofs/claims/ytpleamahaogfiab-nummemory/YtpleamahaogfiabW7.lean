/-
  Walks: PutHead, DocPutHead.
-/
import Derived.Test.YtpleamahaogfiabW6
namespace Go.Proofs.Ytpleamahaogfiab
open Go.RowKit

set_option maxHeartbeats 400000 in
theorem putHead_bad (v : Value) (k x : Int) (w : World) (hn : k < 0 ∨ 7 < k) :
    Calls Try.prog 13 #[v, .int .i64 k, .int .u64 x] w fun e w' => e = .returned (.tuple #[.slice none 0 0, .int .i64 1]) ∧ w' = w := by
  rcases hn with hn | hn
  · go_enter Try.func13, Try.ntmps13
    go_wp2
    go_ret2
    exact ⟨rfl, rfl⟩
  · have h1 : ¬ k < 0 := by omega
    go_enter Try.func13, Try.ntmps13
    go_wp2
    go_ret2
    exact ⟨rfl, rfl⟩

set_option maxHeartbeats 400000 in
theorem docPutHead_bad (v : Value) (k x : Int) (w : World) (hn : k < 0 ∨ 7 < k) :
    Calls Try.prog 14 #[v, .int .i64 k, .int .u64 x] w fun e w' => e = .returned (.tuple #[.slice none 0 0, .int .i64 1]) ∧ w' = w := by
  rcases hn with hn | hn
  · go_enter Try.func14, Try.ntmps14
    go_wp2
    go_ret2
    exact ⟨rfl, rfl⟩
  · have h1 : ¬ k < 0 := by omega
    go_enter Try.func14, Try.ntmps14
    go_wp2
    go_ret2
    exact ⟨rfl, rfl⟩

set_option maxHeartbeats 1000000 in
theorem putHead_ok (v : Value) (xs : List Int) (k x : Int) (w : World) (h : Rd w v xs) (hk0 : 0 ≤ k) (hk1 : k ≤ 7) (hx0 : 0 ≤ x) (hx1 : x < 18446744073709551616) (hl : xs.length + 20 ≤ 140737488355328) :
    Calls Try.prog 13 #[v, .int .i64 k, .int .u64 x] w fun e w' => ∃ v', e = .returned (.tuple #[v', .int .i64 0]) ∧ Own 5 w' w.heap.size v' (xs ++ headL k x) ∧ Below w.heap.size w w' := by
  obtain ⟨i0, z0, hi, hz, hs, hb0, hc, _⟩ := info5
  have hn : ¬ (k < 0) := by omega
  have h15 := u64_and15 x hx0 hx1
  have hor := or_kind k (x % 16) hk0 hk1 (by omega) (by omega)
  by_cases h16 : x < 16
  · have hz : (x / 16 == 0) = true := by rw [beq_iff_eq]; omega
    have HL : Hid (headL k x = [k * 16 + x % 16]) := if_pos h16
    go_enter Try.func13, Try.ntmps13
    go_wp2_with fail
    refine (clone_any v xs _ h (by omega)).mono ?_
    rintro e w1 ⟨v1, rfl, ho1, hb1⟩
    have ho2 := ho1.alloc (.cells #[.int .u8 (k * 16 + x % 16)] 5)
    have hr2 : Rd (w1.alloc (.cells #[.int .u8 (k * 16 + x % 16)] 5)) (.slice (some ⟨w1.heap.size, 0, none⟩) 1 1) [k * 16 + x % 16] := Rd.one w1 _ 5 (by omega) (by omega)
    have hsz := hb1.size
    have hll : xs.length + 1 ≤ 140737488355328 := by omega
    go_wp2_with (at_builtin; refine wpList_append_rd _ rfl _ _ 22 rfl w.heap.size 5 i0 z0 Try.underlying22 hi ‹_› hs hb0 hc _ xs rfl ho2 _ [k * 16 + x % 16] rfl hr2 hll (by simp; omega) ?_; intro v2 w2 hown hgrow hat)
    go_ret2
    exact ⟨v2, rfl, by rw [HL.out]; exact hown, (hb1.alloc hsz _).grown hgrow (by simp; omega) (own_ge ho1)⟩
  · have hq : (x / 16 == 0) = false := by rw [beq_eq_false_iff_ne]; omega
    have HL : Hid (headL k x = (k * 16 + x % 16 + 128) :: sizeL (x / 16)) := if_neg h16
    have hor2 := or128' (k * 16 + x % 16) (by omega) (by omega)
    go_enter Try.func13, Try.ntmps13
    go_wp2_with fail
    refine (clone_any v xs _ h (by omega)).mono ?_
    rintro e w1 ⟨v1, rfl, ho1, hb1⟩
    have ho2 := ho1.alloc (.cells #[.int .u8 (k * 16 + x % 16 + 128)] 5)
    have hr2 : Rd (w1.alloc (.cells #[.int .u8 (k * 16 + x % 16 + 128)] 5)) (.slice (some ⟨w1.heap.size, 0, none⟩) 1 1) [k * 16 + x % 16 + 128] := Rd.one w1 _ 5 (by omega) (by omega)
    have hsz := hb1.size
    have hll : xs.length + 1 ≤ 140737488355328 := by omega
    go_wp2_with (at_builtin; refine wpList_append_rd _ rfl _ _ 22 rfl w.heap.size 5 i0 z0 Try.underlying22 hi ‹_› hs hb0 hc _ xs rfl ho2 _ [k * 16 + x % 16 + 128] rfl hr2 hll (by simp; omega) ?_; intro v2 w2 hown hgrow hat)
    have hb2 : Below w.heap.size w w2 := (hb1.alloc hsz _).grown hgrow (by simp; omega) (own_ge ho1)
    have hsz2 := hb2.size
    go_wp2_with fail
    refine (appendSize_any v2 (xs ++ [k * 16 + x % 16 + 128]) (x / 16) _ w.heap.size hown hsz2 (by omega) (by omega) (by simp; omega)).mono ?_
    rintro e w3 ⟨v3, rfl, ho3, hb3⟩
    go_wp2
    go_ret2
    exact ⟨v3, rfl, by rw [HL.out]; simpa using ho3, hb2.trans hb3⟩

theorem first_app {w w1 : World} {v1 : Value} {xs : List Int} (h : Own 5 w1 w.heap.size v1 ([] ++ xs)) (hg : w.grownBy w1 (Value.slice none 0 0).ownBlock) : Own 5 w1 w.heap.size v1 xs ∧ Below w.heap.size w w1 :=
  ⟨h, (Below.refl _ w).grown hg (Nat.le_refl _) (own_ge (Own.nil 5 w _))⟩

set_option maxHeartbeats 1000000 in
theorem docPutHead_ok (v : Value) (xs : List Int) (k x : Int) (w : World) (h : Rd w v xs) (hk0 : 0 ≤ k) (hk1 : k ≤ 7) (hx0 : 0 ≤ x) (hx1 : x < 18446744073709551616) (hl : xs.length + 20 ≤ 140737488355328) :
    Calls Try.prog 14 #[v, .int .i64 k, .int .u64 x] w fun e w' => ∃ v', e = .returned (.tuple #[v', .int .i64 0]) ∧ Own 5 w' w.heap.size v' (xs ++ headL k x) ∧ Below w.heap.size w w' := by
  obtain ⟨i0, z0, hi, hz, hs, hb0, hc, _⟩ := info5
  have hn : ¬ (k < 0) := by omega
  have hll : xs.length + 1 ≤ 140737488355328 := by omega
  have hl0 : ([] : List Int).length + xs.length ≤ 140737488355328 := by simp; omega
  by_cases h16 : x < 16
  · have HL : Hid (headL k x = [k * 16 + x % 16]) := if_pos h16
    go_enter Try.func14, Try.ntmps14
    go_wp2_with (first | (at_builtin; refine wpList_append_rd _ rfl _ _ 22 rfl w.heap.size 5 i0 z0 Try.underlying22 hi hz hs hb0 hc (.slice none 0 0) [] rfl (Own.nil 5 w _) v xs rfl h hl0 (Nat.le_refl _) ?_; intro v1 w1 ho0 hgrow1 hat1; obtain ⟨ho1, hb1⟩ := first_app ho0 hgrow1; have hsz := hb1.size; have ho2 := ho1.alloc (.cells #[.int .u8 (k * 16 + x % 16)] 5); have hr2 := Rd.one w1 (k * 16 + x % 16) 5 (by omega) (by omega); clear hat1 hgrow1 ho0) | (at_builtin; refine wpList_append_rd _ rfl _ _ 22 rfl w.heap.size 5 i0 z0 Try.underlying22 hi hz hs hb0 hc _ xs rfl ho2 _ [k * 16 + x % 16] rfl hr2 hll (by simp; omega) ?_; intro v2 w2 hown hgrow hat))
    go_ret2
    exact ⟨v2, rfl, by rw [HL.out]; exact hown, (hb1.alloc hsz _).grown hgrow (by simp; omega) (own_ge ho1)⟩
  · have HL : Hid (headL k x = (k * 16 + x % 16 + 128) :: sizeL (x / 16)) := if_neg h16
    go_enter Try.func14, Try.ntmps14
    go_wp2_with (first | (at_builtin; refine wpList_append_rd _ rfl _ _ 22 rfl w.heap.size 5 i0 z0 Try.underlying22 hi hz hs hb0 hc (.slice none 0 0) [] rfl (Own.nil 5 w _) v xs rfl h hl0 (Nat.le_refl _) ?_; intro v1 w1 ho0 hgrow1 hat1; obtain ⟨ho1, hb1⟩ := first_app ho0 hgrow1; have hsz := hb1.size; have ho2 := ho1.alloc (.cells #[.int .u8 (k * 16 + x % 16 + 128)] 5); have hr2 := Rd.one w1 (k * 16 + x % 16 + 128) 5 (by omega) (by omega); clear hat1 hgrow1 ho0) | (at_builtin; refine wpList_append_rd _ rfl _ _ 22 rfl w.heap.size 5 i0 z0 Try.underlying22 hi hz hs hb0 hc _ xs rfl ho2 _ [k * 16 + x % 16 + 128] rfl hr2 hll (by simp; omega) ?_; intro v2 w2 hown hgrow hat))
    have hb2 : Below w.heap.size w w2 := (hb1.alloc hsz _).grown hgrow (by simp; omega) (own_ge ho1)
    have hA : AllB (xs ++ [k * 16 + x % 16 + 128]) := h.allB.append (AllB.one (by omega) (by omega))
    have hsz2 := hb2.size
    refine (docPutSize_any v2 (xs ++ [k * 16 + x % 16 + 128]) (x / 16) _ (Rd.own hown hA) (by omega) (by omega) (by simp; omega)).mono ?_
    rintro e w3 ⟨v3, rfl, ho3, hb3⟩
    go_wp2
    go_ret2
    exact ⟨v3, rfl, by rw [HL.out]; simpa using ho3.mono hsz2, hb2.trans (hb3.mono hsz2)⟩
end Go.Proofs.Ytpleamahaogfiab
