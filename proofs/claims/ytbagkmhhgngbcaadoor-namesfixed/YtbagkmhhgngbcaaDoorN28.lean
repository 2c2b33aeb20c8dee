/-
  Pure: a text cut at each slash; a reference.
-/
import Derived.Test.YtbagkmhhgngbcaaDoorN27
namespace Go.Proofs.YtbagkmhhgngbcaaDoor
open Go.RowKit

/-- A text cut at each slash. -/
def cutL : List UInt8 → List (List UInt8)
  | [] => [[]]
  | c :: l => if c = 47 then [] :: cutL l else match cutL l with
    | p :: ps => (c :: p) :: ps
    | [] => [[c]]
theorem cutL_app (b : List UInt8) : ∀ a : List UInt8, cutL (a ++ 47 :: b) = cutL a ++ cutL b
  | [] => by simp [cutL]
  | c :: l => by
    have ih := cutL_app b l
    rw [List.cons_append, cutL, cutL]
    by_cases h : c = 47
    · rw [if_pos h, if_pos h, ih]; rfl
    · rw [if_neg h, if_neg h, ih]
      cases e : cutL l with
      | nil =>
        exfalso
        cases l with
        | nil => simp [cutL] at e
        | cons x l =>
          unfold cutL at e
          split at e
          · cases e
          · split at e <;> cases e
      | cons p ps => rfl
theorem cutL_none : ∀ a : List UInt8, (∀ c ∈ a, c ≠ 47) → cutL a = [a]
  | [], _ => rfl
  | c :: l, h => by
    rw [cutL, if_neg (h c List.mem_cons_self), cutL_none l (fun x hx => h x (List.mem_cons_of_mem _ hx))]
theorem cutL_at (a b : List UInt8) (h : ∀ c ∈ a, c ≠ 47) : cutL (a ++ 47 :: b) = a :: cutL b := by
  rw [cutL_app, cutL_none a h]; rfl
theorem occ_one (s : List UInt8) (c : UInt8) (j : Nat) : Lib.occAt s [c] j = true ↔ s[j]? = some c := by
  constructor
  · exact fun h => Lib.occAt_head rfl h
  · intro h
    unfold Lib.occAt
    rw [List.isPrefixOf_iff_prefix]
    have hj : j < s.length := (List.getElem?_eq_some_iff.1 h).1
    rw [List.drop_eq_getElem_cons hj]
    have e : s[j] = c := (List.getElem?_eq_some_iff.1 h).2
    rw [e]
    exact ⟨s.drop (j + 1), rfl⟩
theorem split_at {s : List UInt8} {i : Nat} {c : UInt8} (h : s[i]? = some c) : s = s.take i ++ c :: s.drop (i + 1) := by
  have hj : i < s.length := (List.getElem?_eq_some_iff.1 h).1
  have e : s[i] = c := (List.getElem?_eq_some_iff.1 h).2
  conv => lhs; rw [← List.take_append_drop i s]
  rw [List.drop_eq_getElem_cons hj, e]
theorem splitK_cut : ∀ (n : Nat) (s : List UInt8), s.length ≤ n → Lib.splitK [47] 0 (Lib.count s [47]) s = cutL s
  | n, s, hn => by
    rcases Lib.index_spec s [47] with ⟨hi, ho⟩ | ⟨i, hi, hle, ho, hno⟩
    · rw [Lib.count_miss hi, Lib.splitK, cutL_none]
      intro c hc hc47
      subst hc47
      obtain ⟨j, hj, e⟩ := List.getElem_of_mem hc
      have := ho j (by omega)
      rw [(occ_one s 47 j).2 (by rw [List.getElem?_eq_getElem hj, e])] at this
      cases this
    · have h47 := (occ_one s 47 i).1 ho
      have hlt : i < s.length := (List.getElem?_eq_some_iff.1 h47).1
      have e := split_at h47
      have hm : ¬ (Lib.index s [47] == -1) = true := fun e => by have := beq_iff_eq.1 e; omega
      rw [Lib.count_hit (by simp) hi, Nat.add_comm, Lib.splitK, if_neg hm, hi]
      simp only [Int.toNat_natCast, Nat.add_zero, List.length_cons, List.length_nil, Nat.zero_add]
      cases n with
      | zero => omega
      | succ n =>
        rw [splitK_cut n (s.drop (i + 1)) (by rw [List.length_drop]; omega)]
        conv => rhs; rw [e]
        rw [cutL_at]
        intro c hc hc47
        subst hc47
        obtain ⟨j, hj, e2⟩ := List.getElem_of_mem hc
        have hji : j < i := by rw [List.length_take] at hj; omega
        have := hno j hji
        rw [(occ_one s 47 j).2 (by rw [List.getElem?_eq_getElem (by omega), ← e2, List.getElem_take])] at this
        cases this
theorem parts_cut (s : ByteArray) : (partsB s).map (·.data.toList) = cutL s.data.toList := by
  unfold partsB
  rw [Lib.splitB_data]
  exact splitK_cut _ s.data.toList (Nat.le_refl _)
theorem parts_of (s : ByteArray) : partsB s = (cutL s.data.toList).map fun l => (⟨l.toArray⟩ : ByteArray) := by
  rw [← parts_cut, List.map_map]
  conv => lhs; rw [← List.map_id (partsB s)]
  refine List.map_congr_left fun x _ => ?_
  exact (Lib.mk_data x).symm
theorem parts_ne (s : ByteArray) : 0 < (partsB s).length := by rw [partsB_length]; omega

/-- May it be a part of a reference? -/
def rpF (s : ByteArray) : Bool := !(s.toList == []) && !Lib.hasPrefix s.data.toList [46] && !Lib.hasSuffix s.data.toList [46] && !Lib.hasSuffix s.data.toList [46, 108, 111, 99, 107]
/-- Letters that no reference has. -/
def badC : List UInt8 := [126, 94, 58, 63, 42, 91, 92]
def okN (n : Nat) : Bool := decide (32 < n) && decide (n < 127)
def rbF (s : ByteArray) : Bool := s.data.toList.all (fun c => okN c.toNat) && !Lib.containsAny s.data.toList badC
def headL : List UInt8 := [72, 69, 65, 68]
def refsL : List UInt8 := [114, 101, 102, 115]
def firstF (s : ByteArray) : Bool := match partsB s with
  | p :: _ => p.toList == refsL
  | [] => false
/-- May it be a reference? -/
def refF (s : ByteArray) : Bool := (s.toList == headL) || (decide (s.size ≤ 200) && rbF s && !Lib.contains s.data.toList [46, 46] && !Lib.contains s.data.toList [64, 123] && decide (3 ≤ (partsB s).length) && firstF s && (partsB s).all rpF)

/-- Two letters, one behind the other. -/
def twoAt (s : List UInt8) (a b : UInt8) (i : Nat) : Prop := s[i]? = some a ∧ s[i + 1]? = some b
theorem occ_two (s : List UInt8) (a b : UInt8) (j : Nat) : Lib.occAt s [a, b] j = true ↔ twoAt s a b j := by
  unfold Lib.occAt twoAt
  rw [List.isPrefixOf_iff_prefix]
  constructor
  · rintro ⟨r, hr⟩
    have h0 : (s.drop j)[0]? = some a := by rw [← hr]; rfl
    have h1 : (s.drop j)[1]? = some b := by rw [← hr]; rfl
    rw [List.getElem?_drop] at h0 h1
    exact ⟨h0, h1⟩
  · rintro ⟨h0, h1⟩
    have hj0 : j < s.length := (List.getElem?_eq_some_iff.1 h0).1
    have hj1 : j + 1 < s.length := (List.getElem?_eq_some_iff.1 h1).1
    have e0 : s[j] = a := (List.getElem?_eq_some_iff.1 h0).2
    have e1 : s[j + 1] = b := (List.getElem?_eq_some_iff.1 h1).2
    rw [List.drop_eq_getElem_cons hj0, List.drop_eq_getElem_cons hj1, e0, e1]
    exact ⟨_, rfl⟩
theorem contains_two (s : List UInt8) (a b : UInt8) : Lib.contains s [a, b] = true ↔ ∃ i, twoAt s a b i := by
  unfold Lib.contains
  rw [decide_eq_true_iff]
  rcases Lib.index_spec s [a, b] with ⟨hi, ho⟩ | ⟨i, hi, hle, ho, hno⟩
  · constructor
    · intro h; omega
    · rintro ⟨j, hj⟩
      have hlt : j < s.length := (List.getElem?_eq_some_iff.1 hj.1).1
      have := ho j (by omega)
      rw [(occ_two s a b j).2 hj] at this
      cases this
  · exact ⟨fun _ => ⟨i, (occ_two s a b i).1 ho⟩, fun _ => by omega⟩

/-- Is the letter at place i as it may be in a reference? -/
def goodAt (s : List UInt8) (i : Nat) : Prop := (∀ c, s[i]? = some c → okN c.toNat = true ∧ badC.contains c = false) ∧ (1 ≤ i → ¬ twoAt s 46 46 (i - 1) ∧ ¬ twoAt s 64 123 (i - 1))
theorem any_iff (chars l : List UInt8) : Lib.containsAny l chars = false ↔ ∀ c ∈ l, chars.contains c = false := by
  constructor
  · intro h c hc
    have := any_mem _ _ h c hc
    cases e : chars.contains c with
    | false => rfl
    | true => exact absurd (List.contains_iff_mem.1 e) this
  · intro h
    refine any_no chars l fun b hb hm => ?_
    have := h b hb
    rw [List.contains_iff_mem.2 hm] at this
    cases this
theorem good_all (s : ByteArray) : (rbF s && !Lib.contains s.data.toList [46, 46] && !Lib.contains s.data.toList [64, 123]) = true ↔ ∀ i, i < s.size → goodAt s.data.toList i := by
  have hsz := Lib.size_eq s
  unfold rbF
  simp only [Bool.and_eq_true, Bool.not_eq_true', List.all_eq_true, any_iff]
  have c1 := contains_two s.data.toList 46 46
  have c2 := contains_two s.data.toList 64 123
  constructor
  · rintro ⟨⟨⟨h1, h2⟩, h3⟩, h4⟩ i hi
    refine ⟨fun c hc => ⟨h1 c (List.mem_of_getElem? hc), h2 c (List.mem_of_getElem? hc)⟩, fun _ => ⟨fun ht => ?_, fun ht => ?_⟩⟩
    · rw [c1.2 ⟨_, ht⟩] at h3; cases h3
    · rw [c2.2 ⟨_, ht⟩] at h4; cases h4
  · intro h
    have two : ∀ a b i, twoAt s.data.toList a b i → i + 1 < s.size := fun a b i ht => by
      have := (List.getElem?_eq_some_iff.1 ht.2).1
      omega
    refine ⟨⟨⟨fun c hc => ?_, fun c hc => ?_⟩, ?_⟩, ?_⟩
    · obtain ⟨j, hj, e⟩ := List.getElem_of_mem hc
      exact ((h j (by omega)).1 c (by rw [List.getElem?_eq_getElem hj, e])).1
    · obtain ⟨j, hj, e⟩ := List.getElem_of_mem hc
      exact ((h j (by omega)).1 c (by rw [List.getElem?_eq_getElem hj, e])).2
    · cases e : Lib.contains s.data.toList [46, 46] with
      | false => rfl
      | true =>
        obtain ⟨i, hi⟩ := c1.1 e
        exact absurd hi ((h (i + 1) (two _ _ _ hi)).2 (by omega)).1
    · cases e : Lib.contains s.data.toList [64, 123] with
      | false => rfl
      | true =>
        obtain ⟨i, hi⟩ := c2.1 e
        exact absurd hi ((h (i + 1) (two _ _ _ hi)).2 (by omega)).2
theorem ref_doc (s : ByteArray) (hh : (s.toList == headL) = false) : refF s = true ↔ (3 ≤ (partsB s).length ∧ firstF s = true ∧ s.size ≤ 200 ∧ (partsB s).all rpF = true ∧ ∀ i, i < s.size → goodAt s.data.toList i) := by
  unfold refF
  rw [hh, ← good_all]
  simp only [Bool.false_or, Bool.and_eq_true, decide_eq_true_eq]
  constructor
  · rintro ⟨⟨⟨⟨⟨⟨h1, h2⟩, h3⟩, h4⟩, h5⟩, h6⟩, h7⟩
    exact ⟨h5, h6, h1, h7, ⟨h2, h3⟩, h4⟩
  · rintro ⟨h5, h6, h1, h7, ⟨h2, h3⟩, h4⟩
    exact ⟨⟨⟨⟨⟨⟨h1, h2⟩, h3⟩, h4⟩, h5⟩, h6⟩, h7⟩
end Go.Proofs.YtbagkmhhgngbcaaDoor
