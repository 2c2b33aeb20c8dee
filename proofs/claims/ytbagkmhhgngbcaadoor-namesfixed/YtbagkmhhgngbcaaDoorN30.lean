/-
  Walks of the document: Ends, part.
-/
import Derived.Test.YtbagkmhhgngbcaaDoorN29
namespace Go.Proofs.YtbagkmhhgngbcaaDoor
open Go.RowKit

set_option maxHeartbeats 1000000 in
set_option maxRecDepth 100000 in
theorem ends_any (s p : ByteArray) (w : World) (hs : s.size ≤ 9223372036854775807) : Calls Tryd.prog 53 #[.string s, .string p] w fun e w' => e = .returned (.bool (Lib.hasSuffix s.data.toList p.data.toList)) ∧ w' = w := by
  rw [← Lib.hasSuffix_raw]
  have hlo : p.size ≤ s.size → ((s.size : Int) - (p.size : Int) + 9223372036854775808) % 18446744073709551616 - 9223372036854775808 = ((s.size - p.size : Nat) : Int) := fun _ => by omega
  go_enter Tryd.func53, Tryd.ntmps53
  go_wp2
  · have h : p.size ≤ s.size := by assumption
    go_ret
    refine ⟨?_, rfl⟩
    show Ending.returned (Value.bool ((s.extract (s.size - p.size) s.size).toList == p.toList)) = _
    simp [h]
  · have h : ¬ p.size ≤ s.size := by assumption
    go_ret
    refine ⟨?_, rfl⟩
    show Ending.returned (Value.bool false) = _
    simp [h]

theorem prefix_dot (s : ByteArray) (h : 0 < s.size) : Lib.hasPrefix s.data.toList [46] = decide (sN s 0 = 46) := by
  obtain ⟨c, hc, he⟩ := sN_some s h
  rw [he]
  unfold Lib.hasPrefix
  cases e : s.data.toList with
  | nil => rw [e] at hc; cases hc
  | cons x l =>
    rw [e] at hc
    have hx : x = c := by simpa using hc
    subst hx
    rw [Bool.eq_iff_iff, decide_eq_true_iff]
    simp only [List.isPrefixOf, Bool.and_true, beq_iff_eq]
    constructor
    · intro h; rw [← h]; rfl
    · intro h
      exact UInt8.toNat_inj.1 (by have : (46 : UInt8).toNat = 46 := rfl
                                  omega)

set_option maxHeartbeats 1000000 in
set_option maxRecDepth 100000 in
theorem part_any (s : ByteArray) (w : World) (hs : s.size ≤ 9223372036854775807) : Calls Tryd.prog 35 #[.string s] w fun e w' => e = .returned (.bool (rpF s)) ∧ Below w.heap.size w w' := by
  unfold rpF
  have K1 : Kept (∀ w, Calls Tryd.prog 53 #[.string s, .string ⟨#[46]⟩] w fun e w' => e = .returned (.bool (Lib.hasSuffix s.data.toList [46])) ∧ w' = w) := ⟨fun w => ends_any s ⟨#[46]⟩ w hs⟩
  have K2 : Kept (∀ w, Calls Tryd.prog 53 #[.string s, .string ⟨#[46, 108, 111, 99, 107]⟩] w fun e w' => e = .returned (.bool (Lib.hasSuffix s.data.toList [46, 108, 111, 99, 107])) ∧ w' = w) := ⟨fun w => ends_any s ⟨#[46, 108, 111, 99, 107]⟩ w hs⟩
  have KP := prefix_dot s
  generalize Lib.hasPrefix s.data.toList [46] = q0 at *
  generalize Lib.hasSuffix s.data.toList [46] = q1 at *
  generalize Lib.hasSuffix s.data.toList [46, 108, 111, 99, 107] = q2 at *
  obtain ⟨b0, hb0⟩ : ∃ b, (s.toList == []) = b := ⟨_, rfl⟩
  rw [hb0]
  cases b0
  · have hpos : 0 < s.size := by
      rw [Lib.size_eq]
      rw [Lib.toList_data] at hb0
      cases e : s.data.toList with
      | nil => rw [e] at hb0; cases hb0
      | cons x l => simp
    have hi := run_index_text w s .i64 0 hpos
    have KP := KP hpos
    rw [Int.natCast_zero] at hi
    by_cases hd : sN s 0 = 46
    · have hq : q0 = true := by rw [KP]; exact decide_eq_true hd
      subst hq
      rw [hd] at hi
      clear KP hd hs hpos
      go_enter Tryd.func35, Tryd.ntmps35
      go_wp2
      go_ret
      exact ⟨rfl, Below.refl _ _⟩
    · have hq : q0 = false := by rw [KP]; exact decide_eq_false hd
      subst hq
      have hdn : (sN s 0 != 46) = true := by simpa using hd
      generalize sN s 0 = x at *
      clear KP hd hs hpos
      go_enter Tryd.func35, Tryd.ntmps35
      go_wp2_with fail
      refine Calls.mono (K1.out w) (fun e w2 hp => ?_)
      obtain ⟨rfl, rfl⟩ := hp
      clear K1
      cases q1
      · go_wp2_with fail
        refine Calls.mono (K2.out w2) (fun e w3 hp => ?_)
        obtain ⟨rfl, rfl⟩ := hp
        clear K2
        go_wp2
        go_ret
        exact ⟨by cases q2 <;> rfl, Below.refl _ _⟩
      · go_wp2
        go_ret
        exact ⟨rfl, Below.refl _ _⟩
  · go_enter Tryd.func35, Tryd.ntmps35
    go_wp2
    go_ret
    exact ⟨rfl, Below.refl _ _⟩
end Go.Proofs.YtbagkmhhgngbcaaDoor
