/-
  Walks: refBytes, refPart.
-/
import Derived.Test.YtbagkmhhgngbcaaDoorN28
namespace Go.Proofs.YtbagkmhhgngbcaaDoor
open Go.RowKit

theorem ascii7 : AsciiB ⟨#[126, 94, 58, 63, 42, 91, 92]⟩ := by
  intro j b h
  have hm : b ∈ ([126, 94, 58, 63, 42, 91, 92] : List UInt8) := List.mem_of_getElem? h
  have key : ∀ b ∈ ([126, 94, 58, 63, 42, 91, 92] : List UInt8), b.toNat < 128 := by decide
  exact key b hm
theorem sN_some (s : ByteArray) {i : Nat} (hi : i < s.size) : ∃ c : UInt8, s.data.toList[i]? = some c ∧ sN s i = (c.toNat : Int) := by
  have hi' : i < s.data.size := hi
  refine ⟨s.data.getD i 0, ?_, rfl⟩
  rw [Array.getElem?_toList, Array.getElem?_eq_getElem hi', Array.getD, dif_pos hi']; rfl
theorem rb_no (s : ByteArray) {i : Nat} (hi : i < s.size) (h : sN s i ≤ 32 ∨ 127 ≤ sN s i) : rbF s = false := by
  obtain ⟨c, hc, he⟩ := sN_some s hi
  unfold rbF
  have : s.data.toList.all (fun c => okN c.toNat) = false := by
    rw [List.all_eq_false]
    refine ⟨c, List.mem_of_getElem? hc, ?_⟩
    unfold okN
    simp only [Bool.and_eq_true, decide_eq_true_eq]
    omega
  rw [this]
  rfl
theorem rb_yes (s : ByteArray) (h : ∀ i, i < s.size → 32 < sN s i ∧ sN s i < 127) : rbF s = !Lib.containsAny s.data.toList badC := by
  unfold rbF
  have : s.data.toList.all (fun c => okN c.toNat) = true := by
    rw [List.all_eq_true]
    intro c hc
    obtain ⟨i, hi, he⟩ := List.getElem_of_mem hc
    have hi' : i < s.size := by rw [Lib.size_eq]; exact hi
    have := h i hi'
    have e2 := (sN_eq s c hi').2 (by rw [List.getElem?_eq_getElem hi, he])
    unfold okN
    simp only [Bool.and_eq_true, decide_eq_true_eq]
    omega
  rw [this]
  rfl

set_option maxHeartbeats 1000000 in
set_option maxRecDepth 100000 in
theorem refBytes_any (s : ByteArray) (w : World) (hs : s.size < 4294967281) : Calls Tryd.prog 32 #[.string s] w fun e w' => e = .returned (.bool (rbF s)) ∧ Below w.heap.size w w' := by
  have KN : Kept (∀ i, i < s.size → sN s i ≤ 32 ∨ 127 ≤ sN s i → rbF s = false) := ⟨fun i hi h => rb_no s hi h⟩
  have KY : Kept ((∀ i, i < s.size → 32 < sN s i ∧ sN s i < 127) → rbF s = !Lib.containsAny s.data.toList badC) := ⟨rb_yes s⟩
  have KC : Kept (∀ w, Calls Tryd.prog 28 #[.string s, .string ⟨#[126, 94, 58, 63, 42, 91, 92]⟩] w fun e w' => e = .returned (.bool (Lib.containsAny s.data.toList badC)) ∧ Below w.heap.size w w') := ⟨fun w => containsAny_any s ⟨#[126, 94, 58, 63, 42, 91, 92]⟩ w hs (by decide) (by decide) ascii7⟩
  generalize Lib.containsAny s.data.toList badC = q at *
  go_enter Tryd.func32, Tryd.ntmps32
  go_wp2
  go_loopw [3, 6] (fun _ iv wr => ∃ k : Nat, k ≤ s.size ∧ iv = .int .i64 k ∧ wr = w ∧ ∀ j, j < k → 32 < sN s j ∧ sN s j < 127) (fun _ iv _ => s.size - (intOf iv).toNat)
  case atStart => exact ⟨0, by omega, rfl, rfl, fun j hj => by omega⟩
  case round =>
    obtain ⟨k, hk, rfl, rfl, hp⟩ := hrel
    have KP := Kept.mk hp
    clear hp
    by_cases hlt : k < s.size
    · have hd : ((k : Int) < (s.size : Int)) := by omega
      have hi := run_index_text wr s .i64 k hlt
      have hr := sN_range s k
      by_cases h1 : sN s k ≤ 32
      · have KE := Kept.mk (KN.out k hlt (Or.inl h1))
        generalize sN s k = x at hi h1
        clear hr
        go_wp2
        go_ret
        exact ⟨by rw [KE.out]; rfl, Below.refl _ _⟩
      · by_cases h2 : 127 ≤ sN s k
        · have KE := Kept.mk (KN.out k hlt (Or.inr h2))
          generalize sN s k = x at hi h1 h2
          clear hr
          go_wp2
          go_ret
          exact ⟨by rw [KE.out]; rfl, Below.refl _ _⟩
        · have KX : Kept (32 < sN s k ∧ sN s k < 127) := ⟨by omega⟩
          generalize sN s k = x at hi h1 h2
          clear hr
          go_wp2
          go_roundw
          case rel =>
            refine ⟨k + 1, by omega, rfl, trivial, fun j hj => ?_⟩
            rcases Nat.lt_or_ge j k with h' | h'
            · exact KP.out j h'
            · rw [show j = k by omega]
              exact KX.out
          case measure => simp [intOf]; omega
    · have hd : ¬ ((k : Int) < (s.size : Int)) := by omega
      have KE := Kept.mk (KY.out (fun i hi => KP.out i (by omega)))
      go_wp2_with fail
      refine Calls.mono (KC.out wr) (fun e w1 hp => ?_)
      obtain ⟨rfl, hb⟩ := hp
      have KB := Kept.mk hb
      clear hb
      go_wp2
      go_ret
      exact ⟨by rw [KE.out]; cases q <;> rfl, KB.out⟩

set_option maxHeartbeats 1000000 in
set_option maxRecDepth 100000 in
theorem refPart_any (s : ByteArray) (w : World) (hs : s.size ≤ 9223372036854775807) : Calls Tryd.prog 34 #[.string s] w fun e w' => e = .returned (.bool (rpF s)) ∧ Below w.heap.size w w' := by
  unfold rpF
  have K0 : Kept (∀ w, Calls Tryd.prog 51 #[.string s, .string ⟨#[46]⟩] w fun e w' => e = .returned (.bool (Lib.hasPrefix s.data.toList [46])) ∧ w' = w) := ⟨fun w => Tryd.strings_HasPrefix s ⟨#[46]⟩ w⟩
  have K1 : Kept (∀ w, Calls Tryd.prog 52 #[.string s, .string ⟨#[46]⟩] w fun e w' => e = .returned (.bool (Lib.hasSuffix s.data.toList [46])) ∧ w' = w) := ⟨fun w => Tryd.strings_HasSuffix s ⟨#[46]⟩ w hs⟩
  have K2 : Kept (∀ w, Calls Tryd.prog 52 #[.string s, .string ⟨#[46, 108, 111, 99, 107]⟩] w fun e w' => e = .returned (.bool (Lib.hasSuffix s.data.toList [46, 108, 111, 99, 107])) ∧ w' = w) := ⟨fun w => Tryd.strings_HasSuffix s ⟨#[46, 108, 111, 99, 107]⟩ w hs⟩
  generalize Lib.hasPrefix s.data.toList [46] = q0 at *
  generalize Lib.hasSuffix s.data.toList [46] = q1 at *
  generalize Lib.hasSuffix s.data.toList [46, 108, 111, 99, 107] = q2 at *
  obtain ⟨b0, hb0⟩ : ∃ b, (s.toList == []) = b := ⟨_, rfl⟩
  rw [hb0]
  cases b0
  · go_enter Tryd.func34, Tryd.ntmps34
    go_wp2_with fail
    refine Calls.mono (K0.out w) (fun e w1 hp => ?_)
    obtain ⟨rfl, rfl⟩ := hp
    clear K0
    cases q0
    · go_wp2_with fail
      refine Calls.mono (K1.out w1) (fun e w2 hp => ?_)
      obtain ⟨rfl, rfl⟩ := hp
      clear K1
      cases q1
      · go_wp2_with fail
        refine Calls.mono (K2.out w2) (fun e w3 hp => ?_)
        obtain ⟨rfl, rfl⟩ := hp
        clear K2
        go_wp2
        go_ret
        exact ⟨by cases q2 <;> rfl, Below.refl _ _⟩
      · go_wp2
        go_ret
        exact ⟨rfl, Below.refl _ _⟩
    · go_wp2
      go_ret
      exact ⟨rfl, Below.refl _ _⟩
  · go_enter Tryd.func34, Tryd.ntmps34
    go_wp2
    go_ret
    exact ⟨rfl, Below.refl _ _⟩
end Go.Proofs.YtbagkmhhgngbcaaDoor
