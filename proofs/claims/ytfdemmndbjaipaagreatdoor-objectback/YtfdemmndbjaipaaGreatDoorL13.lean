/-
  The document's tag. (By tools/gen_l12.py.)
-/
import Derived.Test.YtfdemmndbjaipaaGreatDoorL9
import Derived.Test.YtfdemmndbjaipaaGreatDoorO10B
import Derived.Test.YtfdemmndbjaipaaGreatDoorN21
import Derived.Test.YtfdemmndbjaipaaGreatDoorShH2
namespace Go.Proofs.YtfdemmndbjaipaaGreatDoor
open Go.RowKit

theorem hz_has (s : ByteArray) : hzF s = hasF s 0 := (Lib.contains_iff_indexByte _ _).symm
theorem tn_has (s : ByteArray) : tnF s = (decide (1 ≤ s.size) && decide (s.size ≤ 100) && !(hasF s 0 || hasF s 10)) := by
  have e : Lib.containsAny s.data.toList [0, 10] = (hasF s 0 || hasF s 10) := by
    cases e : Lib.containsAny s.data.toList [0, 10] with
    | false =>
      have h := any_mem _ _ e
      have g : ∀ c ∈ ([0, 10] : List UInt8), hasF s c = false := fun c hc => by
        unfold hasF
        cases e' : s.data.toList.contains c with
        | false => rfl
        | true => exact absurd hc (h c (List.contains_iff_mem.1 e'))
      rw [g 0 (by simp), g 10 (by simp)]
      rfl
    | true =>
      cases h0 : hasF s 0 with
      | true => rfl
      | false =>
        cases h1 : hasF s 10 with
        | true => rfl
        | false =>
          exfalso
          unfold hasF at h0 h1
          have := any_no [0, 10] s.data.toList (fun b hb hc => by
            have hb' := List.contains_iff_mem.2 hb
            simp only [List.mem_cons, List.not_mem_nil, or_false] at hc
            rcases hc with rfl | rfl
            · rw [h0] at hb'; cases hb'
            · rw [h1] at hb'; cases hb')
          rw [this] at e
          cases e
  unfold tnF
  rw [e]
theorem tag_least (c : LbC) : [if (!isK c.k) = true then 9 else 0, msF c.ms, if (!tnF c.nm || !idF c.ig) = true then 3 else 0].foldl lsF 0 = teF c := by
  unfold teF msF
  rw [hz_has]
  have e1 : (tnF c.nm = false ∨ idF c.ig = false) ↔ (!tnF c.nm || !idF c.ig) = true := by simp
  have e2 : (isK c.k = false) ↔ (!isK c.k) = true := by simp
  by_cases h3 : 65536 < c.ms.size
  · simp only [if_pos h3, e1, e2]
    generalize (!tnF c.nm || !idF c.ig) = p2
    generalize (!isK c.k) = p4
    revert p2 p4
    decide
  · simp only [if_neg h3, e1, e2]
    generalize (!tnF c.nm || !idF c.ig) = p2
    generalize hasF c.ms 0 = p3
    generalize (!isK c.k) = p4
    revert p2 p3 p4
    decide
theorem LbB.rangeIg {w : World} {g : Nat} {c : LbC} (h : LbB w g c) (hok : c.ok) : w.rangeAt g 34 (igL c.ig) := by
  intro j v hv
  have h2 := h.range (34 + j) v (by
    have := LbC.at' hok (2 + j)
    rw [show 32 + (2 + j) = 34 + j by omega] at this
    rw [this]
    unfold LbC.tl
    have hj : j < 4 := by
      rcases Nat.lt_or_ge j 4 with h' | h'
      · exact h'
      · rw [List.getElem?_eq_none (by exact h')] at hv; cases hv
    have : j = 0 ∨ j = 1 ∨ j = 2 ∨ j = 3 := by omega
    rcases this with rfl | rfl | rfl | rfl <;> exact hv)
  rwa [Nat.zero_add] at h2
theorem strL_cat (a b : ByteArray) : strL (a ++ b) = strL a ++ strL b := by
  unfold strL
  rw [ByteArray.data_append, Array.toList_append, List.map_append]
/-- A text's bytes, read. -/
theorem text_rd (w : World) (s : ByteArray) (hs : s.size ≤ 1000000) : ∃ W v, (convert 9 33 (.string s)).run Tryz.prog w = .ok v W ∧ Rd .u8 anyB W v (strL s) ∧ Below w.heap.size w W := by
  obtain ⟨W, cap, cur, fz, hrun, hrow, hcs, hfz, hsc, hcm, htk, hB⟩ := bytes_text w s hs
  refine ⟨W, _, hrun, ⟨some ⟨w.heap.size, 0, none⟩, cap, by rw [strL_length], by rw [strL_length]; exact hsc, hcm, (fun h => by cases h), fun _ => ⟨w.heap.size, 0, rfl, ?_, trivial, fun i hi => ?_⟩⟩, hB⟩
  · rcases Nat.lt_or_ge w.heap.size W.heap.size with h | h
    · exact h
    · rw [Array.getElem?_eq_none h] at hrow; cases hrow
  · rw [Nat.zero_add, cell_of_row W w.heap.size i _ _ _ hrow]
    have h1 := congrArg (fun l : List Value => l[i]?) htk
    rw [strL_length] at hi
    rw [List.getElem?_take_of_lt hi, Array.getElem?_toList] at h1
    rw [h1]
    unfold cellsK
    rw [List.getElem?_map, List.getElem?_eq_getElem (by rw [strL_length]; exact hi)]
    simp [List.getD, List.getElem?_eq_getElem (show i < (strL s).length by rw [strL_length]; exact hi)]
theorem tg_str (c : LbC) (hok : c.ok) : strL ((((((((⟨#[111, 98, 106, 101, 99, 116, 32]⟩ ++ strOfNums (Sh.hexF c.tg)) ++ ⟨#[10, 116, 121, 112, 101, 32]⟩) ++ wdF c.k) ++ ⟨#[10, 116, 97, 103, 32]⟩) ++ c.nm) ++ ⟨#[10, 116, 97, 103, 103, 101, 114, 32]⟩) ++ putB c.ig) ++ ⟨#[10, 10]⟩ ++ c.ms) = tgL c := by
  unfold tgL
  simp only [strL_cat, strL_back (fun x hx => Sh.hexF_allB (fun y hy => hok.2.1 y hy) x hx), List.append_assoc]
  rfl
end Go.Proofs.YtfdemmndbjaipaaGreatDoor
