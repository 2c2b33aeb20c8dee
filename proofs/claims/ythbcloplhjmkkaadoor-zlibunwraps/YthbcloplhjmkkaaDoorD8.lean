/-
  The document's table in memory.
-/
import Derived.Test.YthbcloplhjmkkaaDoorD7
import Derived.Test.YthbcloplhjmkkaaDoorC1
namespace Go.Proofs.YthbcloplhjmkkaaDoor
open Go.RowKit

/-- A block that holds a table: the symbols, and behind them the counts. -/
def TT (w : World) (b : Nat) (sv : Value) (cs : List Int) : Prop := w.heap[b]? = some (.cells (sv :: cs.map (Value.int .i64)).toArray 66)
section
variable {w : World} {b : Nat} {sv : Value} {cs : List Int}
theorem TT.lt (h : TT w b sv cs) : b < w.heap.size := by
  rcases Nat.lt_or_ge b w.heap.size with h' | h'
  · exact h'
  · unfold TT at h
    rw [Array.getElem?_eq_none h'] at h
    cases h
theorem TT.c0 (h : TT w b sv cs) : w.cell? ⟨b, 0, none⟩ = some sv := by unfold TT at h; simp [World.cell?, h]
theorem TT.cn (h : TT w b sv cs) (n : Nat) (hn : n < cs.length) : w.cell? ⟨b, 1 + n, none⟩ = some (.int .i64 (cs.getD n 0)) := by
  unfold TT at h
  simp [World.cell?, h, Nat.add_comm 1 n, List.getElem?_eq_getElem hn]
theorem TT.fz (h : TT w b sv cs) (i : Nat) : w.frozen? ⟨b, i, none⟩ = false := by unfold TT at h; simp [World.frozen?, h]
theorem TT.s0 (h : TT w b sv cs) (v : Value) : TT (w.setCell ⟨b, 0, none⟩ v) b v cs := by
  unfold TT at h ⊢
  simp only [World.setCell, Array.getElem?_modify, h]
  simp
theorem TT.sn (h : TT w b sv cs) (n : Nat) (x : Int) : TT (w.setCell ⟨b, 1 + n, none⟩ (.int .i64 x)) b sv (cs.set n x) := by
  unfold TT at h ⊢
  simp only [World.setCell, Array.getElem?_modify, h]
  simp [Nat.add_comm 1 n, List.map_set]
theorem TT.far {w' : World} (h : TT w b sv cs) (hb : w'.heap[b]? = w.heap[b]?) : TT w' b sv cs := by
  unfold TT at h ⊢
  rw [hb]
  exact h
end

/-- tabled under way. -/
structure Tk (w wr : World) (sv : Value) (cs ss : List Int) : Prop where
  tt : TT wr (w.heap.size + 1) sv cs
  rb : TT wr w.heap.size (.slice none 0 0) (List.replicate 16 0)
  os : Own .i64 3 wr (w.heap.size + 2) sv ss
  bel : Below w.heap.size w wr
theorem Tk.app {w wr w1 : World} {sv v' : Value} {cs ss ss' : List Int} {o : Obj} (h : Tk w wr sv cs ss) (hown : Own .i64 3 w1 (w.heap.size + 2) v' ss') (hg : (wr.alloc o).grownBy w1 sv.ownBlock) :
    TT w1 (w.heap.size + 1) sv cs ∧ Tk w (w1.setCell ⟨w.heap.size + 1, 0, none⟩ v') v' cs ss' := by
  have hlt := h.tt.lt
  have keep : ∀ k, k < wr.heap.size → sv.ownBlock ≠ some k → w1.heap[k]? = wr.heap[k]? := fun k hk hne => by
    rw [hg.block k (by simp; omega) (fun e => hne e.symm), Below.heap_alloc _ _ _ hk]
  have hsv : ∀ k, k < w.heap.size + 2 → sv.ownBlock ≠ some k := fun k hk e => by have := (h.os.lt k e).1; omega
  have htt : TT w1 (w.heap.size + 1) sv cs := h.tt.far (keep _ hlt (hsv _ (by omega)))
  refine ⟨htt, htt.s0 _, ?_, ?_, ?_⟩
  · refine (h.rb.far (keep _ (by omega) (hsv _ (by omega)))).far (Below.heap_setCell _ _ _ _ (by show w.heap.size ≠ w.heap.size + 1; omega))
  · exact hown.far fun g hgb => Below.heap_setCell _ _ _ _ (by have := (hown.lt g hgb).1; show g ≠ w.heap.size + 1; omega)
  · refine ((h.bel.alloc h.bel.size o).grown hg (by simp; omega) (fun k e => ?_)).setCell (by show w.heap.size ≤ w.heap.size + 1; omega) _
    have := (h.os.lt k e).1
    omega
theorem Tk.cnt {w wr : World} {sv : Value} {cs ss : List Int} (h : Tk w wr sv cs ss) (n : Nat) (x : Int) : Tk w (wr.setCell ⟨w.heap.size + 1, 1 + n, none⟩ (.int .i64 x)) sv (cs.set n x) ss := by
  refine ⟨h.tt.sn n x, ?_, ?_, h.bel.setCell (by show w.heap.size ≤ w.heap.size + 1; omega) _⟩
  · exact h.rb.far (Below.heap_setCell _ _ _ _ (by show w.heap.size ≠ w.heap.size + 1; omega))
  · exact h.os.far fun g hgb => Below.heap_setCell _ _ _ _ (by have := (h.os.lt g hgb).1; show g ≠ w.heap.size + 1; omega)

/-- The counts while the symbols of length n are looked for, j of the lengths having been seen. -/
def csF (L : List Int) (n j : Nat) : List Int :=
  (List.range 16).map fun i => if i = 0 ∨ n < i then 0 else if i < n then ((idxF (i : Int) L 0).length : Int) else ((idxF (i : Int) (L.take j) 0).length : Int)
theorem csF_length (L : List Int) (n j : Nat) : (csF L n j).length = 16 := by simp [csF]
theorem csF_getD (L : List Int) (n j i : Nat) (hi : i < 16) : (csF L n j).getD i 0 = if i = 0 ∨ n < i then 0 else if i < n then ((idxF (i : Int) L 0).length : Int) else ((idxF (i : Int) (L.take j) 0).length : Int) := by
  unfold csF
  simp only [List.getD, List.getElem?_map, List.getElem?_range hi]
  rfl
theorem list_ext_getD {a b : List Int} (hl : a.length = b.length) (h : ∀ i, i < a.length → a.getD i 0 = b.getD i 0) : a = b := by
  apply List.ext_getElem hl
  intro i h1 h2
  have := h i h1
  simpa [List.getD, List.getElem?_eq_getElem h1, List.getElem?_eq_getElem h2] using this
theorem csF_hit (L : List Int) (n j : Nat) (hn : 1 ≤ n) (hn2 : n ≤ 15) (hj : j < L.length) (hx : L.getD j 0 = (n : Int)) : csF L n (j + 1) = (csF L n j).set n ((csF L n j).getD n 0 + 1) := by
  apply list_ext_getD (by simp [csF_length])
  intro i hi
  rw [csF_length] at hi
  have e : L.take (j + 1) = L.take j ++ [L.getD j 0] := by
    rw [List.take_add_one, List.getD, List.getElem?_eq_getElem hj]
    rfl
  by_cases hin : i = n
  · subst hin
    have hs : ((csF L i j).set i ((csF L i j).getD i 0 + 1)).getD i 0 = (csF L i j).getD i 0 + 1 := by
      have hl : i < (csF L i j).length := by rw [csF_length]; omega
      generalize (csF L i j).getD i 0 + 1 = y
      simp [List.getD, hl]
    rw [hs, csF_getD _ _ _ _ hi, csF_getD _ _ _ _ hi, if_neg (by omega), if_neg (by omega), if_neg (by omega), if_neg (by omega), e, idxF_snoc, if_pos hx]
    simp
  · have hs : ∀ y, ((csF L n j).set n y).getD i 0 = (csF L n j).getD i 0 := by
      intro y
      simp only [List.getD]
      rw [List.getElem?_set_ne (fun e => hin e.symm)]
    rw [hs, csF_getD _ _ _ _ hi, csF_getD _ _ _ _ hi]
    by_cases h1 : i = 0 ∨ n < i
    · rw [if_pos h1, if_pos h1]
    · rw [if_neg h1, if_neg h1, if_pos (by omega), if_pos (by omega)]
theorem csF_miss (L : List Int) (n j : Nat) (hj : j < L.length) (hx : ¬ L.getD j 0 = (n : Int)) : csF L n (j + 1) = csF L n j := by
  apply list_ext_getD (by simp [csF_length])
  intro i hi
  rw [csF_length] at hi
  have e : L.take (j + 1) = L.take j ++ [L.getD j 0] := by
    rw [List.take_add_one, List.getD, List.getElem?_eq_getElem hj]
    rfl
  rw [csF_getD _ _ _ _ hi, csF_getD _ _ _ _ hi]
  by_cases h1 : i = 0 ∨ n < i
  · rw [if_pos h1, if_pos h1]
  · by_cases h2 : i < n
    · rw [if_neg h1, if_neg h1, if_pos h2, if_pos h2]
    · obtain rfl : i = n := by omega
      rw [if_neg h1, if_neg h1, if_neg h2, if_neg h2, e, idxF_snoc, if_neg hx, List.append_nil]
theorem csF_next (L : List Int) (n : Nat) : csF L (n + 1) 0 = csF L n L.length := by
  apply list_ext_getD (by simp [csF_length])
  intro i hi
  rw [csF_length] at hi
  rw [csF_getD _ _ _ _ hi, csF_getD _ _ _ _ hi]
  by_cases h0 : i = 0
  · rw [if_pos (Or.inl h0), if_pos (Or.inl h0)]
  · rcases Nat.lt_trichotomy i (n + 1) with h | h | h
    · rw [if_neg (show ¬ (i = 0 ∨ n + 1 < i) by omega), if_pos h, if_neg (show ¬ (i = 0 ∨ n < i) by omega)]
      by_cases h2 : i < n
      · rw [if_pos h2]
      · rw [if_neg h2, List.take_length]
    · rw [if_neg (show ¬ (i = 0 ∨ n + 1 < i) by omega), if_neg (show ¬ i < n + 1 by omega), if_pos (Or.inr (by omega))]
      simp [idxF]
    · rw [if_pos (Or.inr h), if_pos (Or.inr (by omega))]
theorem csF_start (L : List Int) : csF L 1 0 = List.replicate 16 0 := by
  apply list_ext_getD (by simp [csF_length])
  intro i hi
  rw [csF_length] at hi
  rw [csF_getD _ _ _ _ hi]
  have e : (List.replicate 16 (0 : Int)).getD i 0 = 0 := by rw [List.getD, List.getElem?_replicate, if_pos hi]; rfl
  rw [e]
  by_cases h1 : i = 0 ∨ 1 < i
  · rw [if_pos h1]
  · rw [if_neg h1, if_neg (by omega)]
    simp [idxF]
end Go.Proofs.YthbcloplhjmkkaaDoor
