/-
  Walks: awake.
-/
import Derived.Test.YtpleamahaogfiabW7
namespace Go.Proofs.Ytpleamahaogfiab
open Go.RowKit

theorem allB2 {x y : Int} (h0 : 0 ≤ x ∧ x < 256) (h1 : 0 ≤ y ∧ y < 256) : AllB [x, y] := fun z hz => by simp at hz; omega

theorem Rd.two (w : World) (x y : Int) (t : TypeId) (h0 : 0 ≤ x ∧ x < 256) (h1 : 0 ≤ y ∧ y < 256) : Rd (w.alloc (.cells #[.int .u8 x, .int .u8 y] t)) (.slice (some ⟨w.heap.size, 0, none⟩) 2 2) [x, y] := by
  refine ⟨some ⟨w.heap.size, 0, none⟩, 2, rfl, Nat.le_refl _, by unfold maxLen; omega, fun z hz => by simp at hz; omega, (fun h => by cases h), fun _ => ⟨w.heap.size, 0, rfl, by simp, fun i hi => ?_⟩⟩
  match i, hi with
  | 0, _ => simp
  | 1, _ => simp

theorem same_true (a b : Value) (xs : List Int) (w : World) (ha : Rd w a xs) (hb : Rd w b xs) :
    Calls Try.prog 15 #[a, b] w fun e w' => e = .returned (.bool true) ∧ Below w.heap.size w w' :=
  (same_any a b xs xs w ha hb).mono fun e w' h => ⟨by rw [h.1]; simp, by rw [h.2]; exact Below.refl _ _⟩

theorem later_alloc {w w1 : World} {v : Value} {xs : List Int} (h : Rd w v xs) (hb : Below w.heap.size w w1) (o : Obj) : Rd (w1.alloc o) v xs :=
  h.later (hb.alloc hb.size o) (Nat.le_refl _)

set_option maxHeartbeats 1000000 in
theorem awake_any (w : World) : Calls Try.prog 9 #[] w fun e w' => e = .returned (.bool true) ∧ Below w.heap.size w w' := by
  have e1 : sizeL 300 = [172, 2] := by decide +kernel
  have e2 : spanL 300 = [129, 44] := by decide +kernel
  have e3 : headL 3 300 = [188, 18] := by decide +kernel
  have c1 := fun w => putSize_any (.slice none 0 0) [] 300 w (Rd.nil w) (by omega) (by omega) (by simp)
  have c2 := fun w => putSpan_any (.slice none 0 0) [] 300 w (Rd.nil w) (by omega) (by omega) (by simp)
  have c3 := fun w => putHead_ok (.slice none 0 0) [] 3 300 w (Rd.nil w) (by omega) (by omega) (by omega) (by omega) (by simp)
  rw [e1] at c1
  rw [e2] at c2
  rw [e3] at c3
  have C1 : Hid _ := c1
  have C2 : Hid _ := c2
  have C3 : Hid _ := c3
  clear c1 c2 c3 e1 e2 e3
  go_enter Try.func9, Try.ntmps9
  go_wp2_with fail
  refine Calls.mono (C1.out _) (fun e w1 hp => ?_)
  obtain ⟨a, rfl, hoa, hb1⟩ := hp
  have ra1 : Rd w1 a [172, 2] := Rd.own hoa (allB2 (by omega) (by omega))
  clear hoa
  go_wp2_with fail
  refine Calls.mono (C2.out _) (fun e w2 hp => ?_)
  obtain ⟨b, rfl, hob, hb2⟩ := hp
  have ra2 : Rd w2 a [172, 2] := ra1.later hb2 (Nat.le_refl _)
  have rb2 : Rd w2 b [129, 44] := Rd.own hob (allB2 (by omega) (by omega))
  clear hob ra1
  go_wp2_with fail
  refine Calls.mono (C3.out _) (fun e w3 hp => ?_)
  obtain ⟨c, rfl, hoc, hb3⟩ := hp
  have ra : Rd w3 a [172, 2] := ra2.later hb3 (Nat.le_refl _)
  have rb : Rd w3 b [129, 44] := rb2.later hb3 (Nat.le_refl _)
  have rc : Rd w3 c [188, 18] := Rd.own hoc (allB2 (by omega) (by omega))
  clear hoc ra2 rb2
  have hw3 : Below w.heap.size w w3 := hb1.trans ((hb2.mono hb1.size).trans (hb3.mono (Nat.le_trans hb1.size hb2.size)))
  clear hb1 hb2 hb3 C1 C2 C3
  go_wp2_with fail
  refine (same_true a _ [172, 2] _ (ra.later ((Below.refl _ _).alloc (Nat.le_refl _) _) (Nat.le_refl _)) (Rd.two w3 172 2 5 (by omega) (by omega))).mono ?_
  rintro e w4 ⟨rfl, hb4'⟩
  have hb4 : Below w3.heap.size w3 w4 := ((Below.refl _ _).alloc (Nat.le_refl _) _).trans (hb4'.mono (by simp))
  have rb4 := rb.later hb4 (Nat.le_refl _)
  have rc4 := rc.later hb4 (Nat.le_refl _)
  clear hb4' ra rb rc
  go_wp2_with fail
  refine (same_true b _ [129, 44] _ (rb4.later ((Below.refl _ _).alloc (Nat.le_refl _) _) (Nat.le_refl _)) (Rd.two w4 129 44 5 (by omega) (by omega))).mono ?_
  rintro e w5 ⟨rfl, hb5'⟩
  have hb5 : Below w4.heap.size w4 w5 := ((Below.refl _ _).alloc (Nat.le_refl _) _).trans (hb5'.mono (by simp))
  have rc5 := rc4.later hb5 (Nat.le_refl _)
  clear hb5' rb4 rc4
  go_wp2_with fail
  refine (same_true c _ [188, 18] _ (rc5.later ((Below.refl _ _).alloc (Nat.le_refl _) _) (Nat.le_refl _)) (Rd.two w5 188 18 5 (by omega) (by omega))).mono ?_
  rintro e w6 ⟨rfl, hb6'⟩
  have hb6 : Below w5.heap.size w5 w6 := ((Below.refl _ _).alloc (Nat.le_refl _) _).trans (hb6'.mono (by simp))
  clear hb6' rc5
  go_wp2
  go_ret
  exact ⟨rfl, hw3.trans ((hb4.mono hw3.size).trans ((hb5.mono (Nat.le_trans hw3.size hb4.size)).trans (hb6.mono (Nat.le_trans hw3.size (Nat.le_trans hb4.size hb5.size)))))⟩
end Go.Proofs.Ytpleamahaogfiab
