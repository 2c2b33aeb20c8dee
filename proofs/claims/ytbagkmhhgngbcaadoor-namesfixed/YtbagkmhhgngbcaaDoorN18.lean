/-
  Walks of the document: Has, plain, Ident.
-/
import Derived.Test.YtbagkmhhgngbcaaDoorN15
namespace Go.Proofs.YtbagkmhhgngbcaaDoor
open Go.RowKit

/-- Letter i of a text, as a number. -/
def sN (s : ByteArray) (i : Nat) : Int := ((s.data.getD i 0).toNat : Int)
theorem sN_range (s : ByteArray) (i : Nat) : 0 ≤ sN s i ∧ sN s i < 256 := by
  unfold sN
  have := (s.data.getD i 0).toNat_lt
  omega
theorem run_index_text (w : World) (s : ByteArray) (k : IntKind) (i : Nat) (hi : i < s.size) : (Instr.index 9 (.string s) (.int k i)).run Tryd.prog w = .ok (.int .u8 (sN s i)) w := by
  rw [run_index_string (P := Tryd.prog) (t := 9) (s := s) (k := k) (i := (i : Int)) (h := Tryd.underlying9)]
  rw [dif_pos ⟨by omega, by omega⟩]
  have e : s[((i : Int)).toNat]'(by omega) = s.data.getD i 0 := by
    simp only [Array.getD, Int.toNat_natCast]
    rw [dif_pos (show i < s.data.size from hi)]
    rfl
  rw [e]
  rfl
def hasF (s : ByteArray) (c : UInt8) : Bool := s.data.toList.contains c
theorem sN_eq (s : ByteArray) (c : UInt8) {i : Nat} (hi : i < s.size) : sN s i = (c.toNat : Int) ↔ s.data.toList[i]? = some c := by
  unfold sN
  have hi' : i < s.data.size := hi
  have e : s.data.toList[i]? = some (s.data.getD i 0) := by
    rw [Array.getElem?_toList, Array.getElem?_eq_getElem hi', Array.getD, dif_pos hi']; rfl
  rw [e]
  constructor
  · intro h
    congr 1
    exact UInt8.toNat_inj.1 (by omega)
  · intro h
    rw [Option.some.inj h]
theorem has_yes (s : ByteArray) (c : UInt8) {i : Nat} (hi : i < s.size) (h : sN s i = (c.toNat : Int)) : hasF s c = true := by
  have := (sN_eq s c hi).1 h
  unfold hasF
  rw [List.contains_iff_mem]
  exact List.mem_of_getElem? this
theorem has_no (s : ByteArray) (c : UInt8) (h : ∀ i, i < s.size → sN s i ≠ (c.toNat : Int)) : hasF s c = false := by
  unfold hasF
  cases e : s.data.toList.contains c with
  | false => rfl
  | true =>
    exfalso
    have hm := List.contains_iff_mem.1 e
    obtain ⟨i, hi, he⟩ := List.getElem_of_mem hm
    have hi' : i < s.size := by simpa using hi
    exact h i hi' ((sN_eq s c hi').2 (by rw [List.getElem?_eq_getElem hi, he]))

set_option maxHeartbeats 1000000 in
set_option maxRecDepth 100000 in
theorem has_any (s : ByteArray) (c : UInt8) (b : Int) (hb : b = (c.toNat : Int)) (w : World) (hs : s.size < 9223372036854775807) : Calls Tryd.prog 26 #[.string s, .int .u8 b] w fun e w' => e = .returned (.bool (hasF s c)) ∧ Below w.heap.size w w' := by
  have KY : Kept (∀ i, i < s.size → sN s i = b → hasF s c = true) := ⟨fun i hi h => has_yes s c hi (by rw [h, hb])⟩
  have KN : Kept ((∀ i, i < s.size → sN s i ≠ b) → hasF s c = false) := ⟨fun h => has_no s c (by rw [← hb]; exact h)⟩
  clear hb
  go_enter Tryd.func26, Tryd.ntmps26
  go_wp2
  go_loopw [5] (fun iv wr => ∃ k : Nat, k ≤ s.size ∧ iv = .int .i64 k ∧ wr = w ∧ ∀ j, j < k → sN s j ≠ b) (fun iv _ => s.size - (intOf iv).toNat)
  case atStart => exact ⟨0, by omega, rfl, rfl, fun j hj => by omega⟩
  case round =>
    obtain ⟨k, hk, rfl, rfl, hp⟩ := hrel
    have KP := Kept.mk hp
    clear hp
    by_cases hlt : k < s.size
    · have hd : ((k : Int) < (s.size : Int)) := by omega
      have hi := run_index_text wr s .i64 k hlt
      by_cases hx : sN s k = b
      · have KE := Kept.mk (KY.out k hlt hx)
        rw [hx] at hi
        clear hx
        go_wp2
        go_ret
        exact ⟨by rw [KE.out]; rfl, Below.refl _ _⟩
      · have KX := Kept.mk hx
        have hxb : (sN s k == b) = false := by simpa using hx
        generalize sN s k = x at hi hxb
        clear hx
        go_wp2
        refine ⟨⟨k + 1, by omega, by simp, trivial, fun j hj => ?_⟩, by simp [intOf]; omega⟩
        rcases Nat.lt_or_ge j k with h' | h'
        · exact KP.out j h'
        · rw [show j = k by omega]
          exact KX.out
    · have hd : ¬ ((k : Int) < (s.size : Int)) := by omega
      have KE := Kept.mk (KN.out (fun i hi => KP.out i (by omega)))
      go_wp2
      go_ret
      exact ⟨by rw [KE.out]; rfl, Below.refl _ _⟩

theorem any_no (chars : List UInt8) : ∀ (l : List UInt8), (∀ b ∈ l, b ∉ chars) → Lib.containsAny l chars = false
  | [], _ => by simp [Lib.containsAny, Lib.indexAny]
  | x :: l, h => by
    have ih := any_no chars l (fun b hb => h b (List.mem_cons_of_mem _ hb))
    unfold Lib.containsAny at ih ⊢
    have ih := of_decide_eq_false ih
    have hg := Lib.indexAny_ge chars l
    refine decide_eq_false ?_
    unfold Lib.indexAny
    rw [if_neg (by simpa using h x List.mem_cons_self), if_pos (by have : Lib.indexAny l chars = -1 := by omega
                                                                   simp [this])]
    omega
theorem who_has (s : ByteArray) : whoF s = (decide (s.size ≤ 100) && !hasF s 0 && !hasF s 10 && !hasF s 60 && !hasF s 62) := by
  unfold whoF hasF
  cases e : Lib.containsAny s.data.toList [0, 10, 60, 62] with
  | false =>
    have h := any_mem _ _ e
    have g : ∀ c ∈ ([0, 10, 60, 62] : List UInt8), s.data.toList.contains c = false := fun c hc => by
      cases e' : s.data.toList.contains c with
      | false => rfl
      | true => exact absurd hc (h c (List.contains_iff_mem.1 e'))
    rw [g 0 (by simp), g 10 (by simp), g 60 (by simp), g 62 (by simp)]
    simp
  | true =>
    cases e2 : (decide (s.size ≤ 100) && !s.data.toList.contains 0 && !s.data.toList.contains 10 && !s.data.toList.contains 60 && !s.data.toList.contains 62) with
    | false => simp
    | true =>
      exfalso
      simp only [Bool.and_eq_true, Bool.not_eq_true', decide_eq_true_eq] at e2
      obtain ⟨⟨⟨⟨_, a0⟩, a1⟩, a2⟩, a3⟩ := e2
      have := any_no [0, 10, 60, 62] s.data.toList (fun b hb hc => by
        have hb' := List.contains_iff_mem.2 hb
        simp only [List.mem_cons, List.not_mem_nil, or_false] at hc
        rcases hc with rfl | rfl | rfl | rfl
        · rw [a0] at hb'; cases hb'
        · rw [a1] at hb'; cases hb'
        · rw [a2] at hb'; cases hb'
        · rw [a3] at hb'; cases hb')
      rw [this] at e
      cases e

set_option maxHeartbeats 1000000 in
set_option maxRecDepth 100000 in
theorem plain_any (s : ByteArray) (w : World) : Calls Tryd.prog 42 #[.string s] w fun e w' => e = .returned (.bool (whoF s)) ∧ Below w.heap.size w w' := by
  rw [who_has]
  by_cases h : s.size ≤ 100
  · have hd : decide ((s.size : Int) ≤ 100) = true := by simp; omega
    have K0 : Kept (∀ w, Calls Tryd.prog 26 #[.string s, .int .u8 0] w fun e w' => e = .returned (.bool (hasF s 0)) ∧ Below w.heap.size w w') := ⟨fun w => has_any s 0 0 rfl w (by omega)⟩
    have K1 : Kept (∀ w, Calls Tryd.prog 26 #[.string s, .int .u8 10] w fun e w' => e = .returned (.bool (hasF s 10)) ∧ Below w.heap.size w w') := ⟨fun w => has_any s 10 10 rfl w (by omega)⟩
    have K2 : Kept (∀ w, Calls Tryd.prog 26 #[.string s, .int .u8 60] w fun e w' => e = .returned (.bool (hasF s 60)) ∧ Below w.heap.size w w') := ⟨fun w => has_any s 60 60 rfl w (by omega)⟩
    have K3 : Kept (∀ w, Calls Tryd.prog 26 #[.string s, .int .u8 62] w fun e w' => e = .returned (.bool (hasF s 62)) ∧ Below w.heap.size w w') := ⟨fun w => has_any s 62 62 rfl w (by omega)⟩
    rw [decide_eq_true h]
    generalize hasF s 0 = q0 at *
    generalize hasF s 10 = q1 at *
    generalize hasF s 60 = q2 at *
    generalize hasF s 62 = q3 at *
    go_enter Tryd.func42, Tryd.ntmps42
    go_wp2_with fail
    refine Calls.mono (K0.out w) (fun e w1 hp => ?_)
    obtain ⟨rfl, hb⟩ := hp
    have KB1 := Kept.mk hb
    clear hb K0
    cases q0
    · go_wp2_with fail
      refine Calls.mono (K1.out w1) (fun e w2 hp => ?_)
      obtain ⟨rfl, hb⟩ := hp
      have KB2 := Kept.mk (KB1.out.trans (hb.mono KB1.out.size))
      clear hb K1 KB1
      cases q1
      · go_wp2_with fail
        refine Calls.mono (K2.out w2) (fun e w3 hp => ?_)
        obtain ⟨rfl, hb⟩ := hp
        have KB3 := Kept.mk (KB2.out.trans (hb.mono KB2.out.size))
        clear hb K2 KB2
        cases q2
        · go_wp2_with fail
          refine Calls.mono (K3.out w3) (fun e w4 hp => ?_)
          obtain ⟨rfl, hb⟩ := hp
          have KB4 := Kept.mk (KB3.out.trans (hb.mono KB3.out.size))
          clear hb K3 KB3
          go_wp2
          go_ret
          exact ⟨by cases q3 <;> rfl, KB4.out⟩
        · go_wp2
          go_ret
          exact ⟨rfl, KB3.out⟩
      · go_wp2
        go_ret
        exact ⟨rfl, KB2.out⟩
    · go_wp2
      go_ret
      exact ⟨rfl, KB1.out⟩
  · have hd : decide ((s.size : Int) ≤ 100) = false := by simp; omega
    rw [decide_eq_false h]
    go_enter Tryd.func42, Tryd.ntmps42
    go_wp2
    go_ret
    exact ⟨rfl, Below.refl _ _⟩

set_option maxHeartbeats 1000000 in
set_option maxRecDepth 100000 in
theorem rident_any (i : Idt) (w : World) : Calls Tryd.prog 23 #[i.v] w fun e w' => e = .returned (.bool (idF i)) ∧ Below w.heap.size w w' := by
  obtain ⟨nm, em, tm, zn⟩ := i
  unfold Idt.v idF
  simp only
  have KW1 := plain_any nm
  have KW2 := plain_any em
  obtain ⟨w1, hw1, hB1, -, hc⟩ := box_ident w ⟨nm, em, tm, zn⟩
  simp only at hw1 hc
  have KC := Kept.mk hc
  have KB1 := Kept.mk hB1
  have d0 := (hc w1 (Below.refl _ _)).1
  clear hc hB1
  generalize whoF nm = q1 at *
  generalize whoF em = q2 at *
  have K1 := Kept.mk (KW1 w1)
  have K2 := Kept.mk KW2
  clear KW1 KW2
  cases q1
  · go_enter Tryd.func23, Tryd.ntmps23
    go_wp2_with fail
    refine Calls.mono K1.out (fun e w2 hp => ?_)
    obtain ⟨rfl, hb2⟩ := hp
    have KB2 := Kept.mk (KB1.out.trans (hb2.mono KB1.out.size))
    clear hb2
    go_wp2
    go_ret
    exact ⟨rfl, KB2.out⟩
  · go_enter Tryd.func23, Tryd.ntmps23
    go_wp2_with fail
    refine Calls.mono K1.out (fun e w2 hp => ?_)
    obtain ⟨rfl, hb2⟩ := hp
    have d1 := (KC.out w2 hb2).2.1
    have K2 := Kept.mk (K2.out w2)
    have KB2 := Kept.mk (KB1.out.trans (hb2.mono KB1.out.size))
    have KB12 := Kept.mk hb2
    clear hb2 d0
    go_wp2_with fail
    refine Calls.mono K2.out (fun e w3 hp => ?_)
    obtain ⟨rfl, hb3⟩ := hp
    obtain ⟨-, -, d2, d3⟩ := KC.out w3 (KB12.out.trans (hb3.mono KB12.out.size))
    have KB3 := Kept.mk (KB2.out.trans (hb3.mono KB2.out.size))
    clear hb3 d1
    cases q2
    · go_wp2
      go_ret
      exact ⟨rfl, KB3.out⟩
    · by_cases h1 : 0 ≤ tm
      · by_cases h2 : tm ≤ 1099511627776
        · by_cases h3 : -1439 ≤ zn
          · go_wp2
            go_ret
            exact ⟨by simp [h1, h2, h3], KB3.out⟩
          · go_wp2
            go_ret
            exact ⟨by simp; omega, KB3.out⟩
        · go_wp2
          go_ret
          exact ⟨by simp; omega, KB3.out⟩
      · go_wp2
        go_ret
        exact ⟨by simp; omega, KB3.out⟩
end Go.Proofs.YtbagkmhhgngbcaaDoor
