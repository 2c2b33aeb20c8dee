/-
  Walks of the document: Has, plain, Ident.
-/
import Derived.Test.YtkbalngddlhlpaaGreatDoorN15
import Derived.Lib.SlBytesRow
namespace Go.Proofs.YtkbalngddlhlpaaGreatDoor
open Go.RowKit

def sN (s : ByteArray) (i : Nat) : Int := ((s.data.getD i 0).toNat : Int)
theorem sN_range (s : ByteArray) (i : Nat) : 0 ≤ sN s i ∧ sN s i < 256 := by
  unfold sN
  have := (s.data.getD i 0).toNat_lt
  omega
theorem run_index_text (w : World) (s : ByteArray) (k : IntKind) (i : Nat) (hi : i < s.size) : (Instr.index 9 (.string s) (.int k i)).run Tryz.prog w = .ok (.int .u8 (sN s i)) w := by
  rw [run_index_string (P := Tryz.prog) (t := 9) (s := s) (k := k) (i := (i : Int)) (h := Tryz.underlying9)]
  rw [dif_pos ⟨by omega, by omega⟩]
  have e : s[((i : Int)).toNat]'(by omega) = s.data.getD i 0 := by
    simp only [Array.getD, Int.toNat_natCast]
    rw [dif_pos (show i < s.data.size from hi)]
    rfl
  rw [e]
  rfl
def hasF (s : ByteArray) (c : UInt8) : Bool := s.data.toList.contains c
theorem sN_eq (s : ByteArray) (c : UInt8) {i : Nat} (hi : i < s.size) : sN s i = (c.toNat : Int) ↔ s.data.toList[i]? = some c := by
  unfold sN
  have hi' : i < s.data.size := hi
  have e : s.data.toList[i]? = some (s.data.getD i 0) := by
    rw [Array.getElem?_toList, Array.getElem?_eq_getElem hi', Array.getD, dif_pos hi']; rfl
  rw [e]
  constructor
  · intro h
    congr 1
    exact UInt8.toNat_inj.1 (by omega)
  · intro h
    rw [Option.some.inj h]
theorem any_no (chars : List UInt8) : ∀ (l : List UInt8), (∀ b ∈ l, b ∉ chars) → Lib.containsAny l chars = false
  | [], _ => by simp [Lib.containsAny, Lib.indexAny]
  | x :: l, h => by
    have ih := any_no chars l (fun b hb => h b (List.mem_cons_of_mem _ hb))
    unfold Lib.containsAny at ih ⊢
    have ih := of_decide_eq_false ih
    have hg := Lib.indexAny_ge chars l
    refine decide_eq_false ?_
    unfold Lib.indexAny
    rw [if_neg (by simpa using h x List.mem_cons_self), if_pos (by have : Lib.indexAny l chars = -1 := by omega
                                                                   simp [this])]
    omega
theorem who_has (s : ByteArray) : whoF s = (decide (s.size ≤ 100) && !hasF s 0 && !hasF s 10 && !hasF s 60 && !hasF s 62) := by
  unfold whoF hasF
  cases e : Lib.containsAny s.data.toList [0, 10, 60, 62] with
  | false =>
    have h := any_mem _ _ e
    have g : ∀ c ∈ ([0, 10, 60, 62] : List UInt8), s.data.toList.contains c = false := fun c hc => by
      cases e' : s.data.toList.contains c with
      | false => rfl
      | true => exact absurd hc (h c (List.contains_iff_mem.1 e'))
    rw [g 0 (by simp), g 10 (by simp), g 60 (by simp), g 62 (by simp)]
    simp
  | true =>
    cases e2 : (decide (s.size ≤ 100) && !s.data.toList.contains 0 && !s.data.toList.contains 10 && !s.data.toList.contains 60 && !s.data.toList.contains 62) with
    | false => simp
    | true =>
      exfalso
      simp only [Bool.and_eq_true, Bool.not_eq_true', decide_eq_true_eq] at e2
      obtain ⟨⟨⟨⟨_, a0⟩, a1⟩, a2⟩, a3⟩ := e2
      have := any_no [0, 10, 60, 62] s.data.toList (fun b hb hc => by
        have hb' := List.contains_iff_mem.2 hb
        simp only [List.mem_cons, List.not_mem_nil, or_false] at hc
        rcases hc with rfl | rfl | rfl | rfl
        · rw [a0] at hb'; cases hb'
        · rw [a1] at hb'; cases hb'
        · rw [a2] at hb'; cases hb'
        · rw [a3] at hb'; cases hb')
      rw [this] at e
      cases e







def nmGo (s : ByteArray) (v : Int) (k : Nat) : Nat → Int
  | 0 => v
  | n + 1 => if 48 ≤ sN s k ∧ sN s k ≤ 57 then nmGo s (10 * v + (sN s k - 48)) (k + 1) n else -1
def nmF (s : ByteArray) : Int := if s.size = 0 ∨ 13 < s.size then -1 else nmGo s 0 0 s.size

end Go.Proofs.YtkbalngddlhlpaaGreatDoor
