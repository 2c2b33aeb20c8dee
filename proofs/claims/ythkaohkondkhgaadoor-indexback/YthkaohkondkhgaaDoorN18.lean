/-
  Walks of the document: Has, plain, Ident.
-/
import Derived.Test.YthkaohkondkhgaaDoorN25
namespace Go.Proofs.YthkaohkondkhgaaDoor
open Go.RowKit

theorem any_mem (chars : List UInt8) : ∀ (l : List UInt8), Lib.containsAny l chars = false → ∀ b ∈ l, b ∉ chars
  | [], _, b, hb => by cases hb
  | x :: l, h, b, hb => by
    unfold Lib.containsAny at h
    have h := of_decide_eq_false h
    unfold Lib.indexAny at h
    by_cases hx : chars.contains x = true
    · rw [if_pos hx] at h; omega
    · rw [if_neg hx] at h
      rcases List.mem_cons.1 hb with rfl | hb
      · simpa using hx
      · refine any_mem chars l ?_ b hb
        unfold Lib.containsAny
        refine decide_eq_false ?_
        have hg := Lib.indexAny_ge chars l
        split at h
        · rename_i e; have : Lib.indexAny l chars = -1 := by simpa using e
          omega
        · omega
/-- Letter i of a text, as a number. -/
def sN (s : ByteArray) (i : Nat) : Int := ((s.data.getD i 0).toNat : Int)
theorem sN_range (s : ByteArray) (i : Nat) : 0 ≤ sN s i ∧ sN s i < 256 := by
  unfold sN
  have := (s.data.getD i 0).toNat_lt
  omega
theorem run_index_text (w : World) (s : ByteArray) (k : IntKind) (i : Nat) (hi : i < s.size) : (Instr.index 9 (.string s) (.int k i)).run Tryd.prog w = .ok (.int .u8 (sN s i)) w := by
  rw [run_index_string (P := Tryd.prog) (t := 9) (s := s) (k := k) (i := (i : Int)) (h := Tryd.underlying9)]
  rw [dif_pos ⟨by omega, by omega⟩]
  have e : s[((i : Int)).toNat]'(by omega) = s.data.getD i 0 := by
    simp only [Array.getD, Int.toNat_natCast]
    rw [dif_pos (show i < s.data.size from hi)]
    rfl
  rw [e]
  rfl
def hasF (s : ByteArray) (c : UInt8) : Bool := s.data.toList.contains c
theorem sN_eq (s : ByteArray) (c : UInt8) {i : Nat} (hi : i < s.size) : sN s i = (c.toNat : Int) ↔ s.data.toList[i]? = some c := by
  unfold sN
  have hi' : i < s.data.size := hi
  have e : s.data.toList[i]? = some (s.data.getD i 0) := by
    rw [Array.getElem?_toList, Array.getElem?_eq_getElem hi', Array.getD, dif_pos hi']; rfl
  rw [e]
  constructor
  · intro h
    congr 1
    exact UInt8.toNat_inj.1 (by omega)
  · intro h
    rw [Option.some.inj h]
theorem has_yes (s : ByteArray) (c : UInt8) {i : Nat} (hi : i < s.size) (h : sN s i = (c.toNat : Int)) : hasF s c = true := by
  have := (sN_eq s c hi).1 h
  unfold hasF
  rw [List.contains_iff_mem]
  exact List.mem_of_getElem? this
theorem has_no (s : ByteArray) (c : UInt8) (h : ∀ i, i < s.size → sN s i ≠ (c.toNat : Int)) : hasF s c = false := by
  unfold hasF
  cases e : s.data.toList.contains c with
  | false => rfl
  | true =>
    exfalso
    have hm := List.contains_iff_mem.1 e
    obtain ⟨i, hi, he⟩ := List.getElem_of_mem hm
    have hi' : i < s.size := by simpa using hi
    exact h i hi' ((sN_eq s c hi').2 (by rw [List.getElem?_eq_getElem hi, he]))

set_option maxHeartbeats 1000000 in
set_option maxRecDepth 100000 in
theorem has_any (s : ByteArray) (c : UInt8) (b : Int) (hb : b = (c.toNat : Int)) (w : World) (hs : s.size < 9223372036854775807) : Calls Tryd.prog 89 #[.string s, .int .u8 b] w fun e w' => e = .returned (.bool (hasF s c)) ∧ Below w.heap.size w w' := by
  have KY : Kept (∀ i, i < s.size → sN s i = b → hasF s c = true) := ⟨fun i hi h => has_yes s c hi (by rw [h, hb])⟩
  have KN : Kept ((∀ i, i < s.size → sN s i ≠ b) → hasF s c = false) := ⟨fun h => has_no s c (by rw [← hb]; exact h)⟩
  clear hb
  go_enter Tryd.func89, Tryd.ntmps89
  go_wp2
  go_loopw [5] (fun iv wr => ∃ k : Nat, k ≤ s.size ∧ iv = .int .i64 k ∧ wr = w ∧ ∀ j, j < k → sN s j ≠ b) (fun iv _ => s.size - (intOf iv).toNat)
  case atStart => exact ⟨0, by omega, rfl, rfl, fun j hj => by omega⟩
  case round =>
    obtain ⟨k, hk, rfl, rfl, hp⟩ := hrel
    have KP := Kept.mk hp
    clear hp
    by_cases hlt : k < s.size
    · have hd : ((k : Int) < (s.size : Int)) := by omega
      have hi := run_index_text wr s .i64 k hlt
      by_cases hx : sN s k = b
      · have KE := Kept.mk (KY.out k hlt hx)
        rw [hx] at hi
        clear hx
        go_wp2
        go_ret
        exact ⟨by rw [KE.out]; rfl, Below.refl _ _⟩
      · have KX := Kept.mk hx
        have hxb : (sN s k == b) = false := by simpa using hx
        generalize sN s k = x at hi hxb
        clear hx
        go_wp2
        refine ⟨⟨k + 1, by omega, by simp, trivial, fun j hj => ?_⟩, by simp [intOf]; omega⟩
        rcases Nat.lt_or_ge j k with h' | h'
        · exact KP.out j h'
        · rw [show j = k by omega]
          exact KX.out
    · have hd : ¬ ((k : Int) < (s.size : Int)) := by omega
      have KE := Kept.mk (KN.out (fun i hi => KP.out i (by omega)))
      go_wp2
      go_ret
      exact ⟨by rw [KE.out]; rfl, Below.refl _ _⟩

theorem any_no (chars : List UInt8) : ∀ (l : List UInt8), (∀ b ∈ l, b ∉ chars) → Lib.containsAny l chars = false
  | [], _ => by simp [Lib.containsAny, Lib.indexAny]
  | x :: l, h => by
    have ih := any_no chars l (fun b hb => h b (List.mem_cons_of_mem _ hb))
    unfold Lib.containsAny at ih ⊢
    have ih := of_decide_eq_false ih
    have hg := Lib.indexAny_ge chars l
    refine decide_eq_false ?_
    unfold Lib.indexAny
    rw [if_neg (by simpa using h x List.mem_cons_self), if_pos (by have : Lib.indexAny l chars = -1 := by omega
                                                                   simp [this])]
    omega
theorem who_has (s : ByteArray) : whoF s = (decide (s.size ≤ 100) && !hasF s 0 && !hasF s 10 && !hasF s 60 && !hasF s 62) := by
  unfold whoF hasF
  cases e : Lib.containsAny s.data.toList [0, 10, 60, 62] with
  | false =>
    have h := any_mem _ _ e
    have g : ∀ c ∈ ([0, 10, 60, 62] : List UInt8), s.data.toList.contains c = false := fun c hc => by
      cases e' : s.data.toList.contains c with
      | false => rfl
      | true => exact absurd hc (h c (List.contains_iff_mem.1 e'))
    rw [g 0 (by simp), g 10 (by simp), g 60 (by simp), g 62 (by simp)]
    simp
  | true =>
    cases e2 : (decide (s.size ≤ 100) && !s.data.toList.contains 0 && !s.data.toList.contains 10 && !s.data.toList.contains 60 && !s.data.toList.contains 62) with
    | false => simp
    | true =>
      exfalso
      simp only [Bool.and_eq_true, Bool.not_eq_true', decide_eq_true_eq] at e2
      obtain ⟨⟨⟨⟨_, a0⟩, a1⟩, a2⟩, a3⟩ := e2
      have := any_no [0, 10, 60, 62] s.data.toList (fun b hb hc => by
        have hb' := List.contains_iff_mem.2 hb
        simp only [List.mem_cons, List.not_mem_nil, or_false] at hc
        rcases hc with rfl | rfl | rfl | rfl
        · rw [a0] at hb'; cases hb'
        · rw [a1] at hb'; cases hb'
        · rw [a2] at hb'; cases hb'
        · rw [a3] at hb'; cases hb')
      rw [this] at e
      cases e

end Go.Proofs.YthkaohkondkhgaaDoor
