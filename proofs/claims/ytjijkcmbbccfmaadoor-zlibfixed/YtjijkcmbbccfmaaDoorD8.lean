/-
  The document's table in memory.
-/
import Derived.Test.YtjijkcmbbccfmaaDoorD4
import Derived.Test.YtjijkcmbbccfmaaDoorC1
namespace Go.Proofs.YtjijkcmbbccfmaaDoor
open Go.RowKit

/-- A block that holds a table: the symbols, and behind them the counts. -/
def TT (w : World) (b : Nat) (sv : Value) (cs : List Int) : Prop := w.heap[b]? = some (.cells (sv :: cs.map (Value.int .i64)).toArray 84)
section
variable {w : World} {b : Nat} {sv : Value} {cs : List Int}
theorem TT.lt (h : TT w b sv cs) : b < w.heap.size := by
  rcases Nat.lt_or_ge b w.heap.size with h' | h'
  · exact h'
  · unfold TT at h
    rw [Array.getElem?_eq_none h'] at h
    cases h
theorem TT.c0 (h : TT w b sv cs) : w.cell? ⟨b, 0, none⟩ = some sv := by unfold TT at h; simp [World.cell?, h]
theorem TT.cn (h : TT w b sv cs) (n : Nat) (hn : n < cs.length) : w.cell? ⟨b, 1 + n, none⟩ = some (.int .i64 (cs.getD n 0)) := by
  unfold TT at h
  simp [World.cell?, h, Nat.add_comm 1 n, List.getElem?_eq_getElem hn]
theorem TT.fz (h : TT w b sv cs) (i : Nat) : w.frozen? ⟨b, i, none⟩ = false := by unfold TT at h; simp [World.frozen?, h]
theorem TT.s0 (h : TT w b sv cs) (v : Value) : TT (w.setCell ⟨b, 0, none⟩ v) b v cs := by
  unfold TT at h ⊢
  simp only [World.setCell, Array.getElem?_modify, h]
  simp
theorem TT.sn (h : TT w b sv cs) (n : Nat) (x : Int) : TT (w.setCell ⟨b, 1 + n, none⟩ (.int .i64 x)) b sv (cs.set n x) := by
  unfold TT at h ⊢
  simp only [World.setCell, Array.getElem?_modify, h]
  simp [Nat.add_comm 1 n, List.map_set]
theorem TT.far {w' : World} (h : TT w b sv cs) (hb : w'.heap[b]? = w.heap[b]?) : TT w' b sv cs := by
  unfold TT at h ⊢
  rw [hb]
  exact h
end

/-- tabled under way. -/
structure Tk (w wr : World) (sv : Value) (cs ss : List Int) : Prop where
  tt : TT wr (w.heap.size + 1) sv cs
  rb : TT wr w.heap.size (.slice none 0 0) (List.replicate 16 0)
  os : Own .i64 3 wr (w.heap.size + 2) sv ss
  bel : Below w.heap.size w wr
theorem Tk.app {w wr w1 : World} {sv v' : Value} {cs ss ss' : List Int} {o : Obj} (h : Tk w wr sv cs ss) (hown : Own .i64 3 w1 (w.heap.size + 2) v' ss') (hg : (wr.alloc o).grownBy w1 sv.ownBlock) :
    TT w1 (w.heap.size + 1) sv cs ∧ Tk w (w1.setCell ⟨w.heap.size + 1, 0, none⟩ v') v' cs ss' := by
  have hlt := h.tt.lt
  have keep : ∀ k, k < wr.heap.size → sv.ownBlock ≠ some k → w1.heap[k]? = wr.heap[k]? := fun k hk hne => by
    rw [hg.block k (by simp; omega) (fun e => hne e.symm), Below.heap_alloc _ _ _ hk]
  have hsv : ∀ k, k < w.heap.size + 2 → sv.ownBlock ≠ some k := fun k hk e => by have := (h.os.lt k e).1; omega
  have htt : TT w1 (w.heap.size + 1) sv cs := h.tt.far (keep _ hlt (hsv _ (by omega)))
  refine ⟨htt, htt.s0 _, ?_, ?_, ?_⟩
  · refine (h.rb.far (keep _ (by omega) (hsv _ (by omega)))).far (Below.heap_setCell _ _ _ _ (by show w.heap.size ≠ w.heap.size + 1; omega))
  · exact hown.far fun g hgb => Below.heap_setCell _ _ _ _ (by have := (hown.lt g hgb).1; show g ≠ w.heap.size + 1; omega)
  · refine ((h.bel.alloc h.bel.size o).grown hg (by simp; omega) (fun k e => ?_)).setCell (by show w.heap.size ≤ w.heap.size + 1; omega) _
    have := (h.os.lt k e).1
    omega
theorem Tk.cnt {w wr : World} {sv : Value} {cs ss : List Int} (h : Tk w wr sv cs ss) (n : Nat) (x : Int) : Tk w (wr.setCell ⟨w.heap.size + 1, 1 + n, none⟩ (.int .i64 x)) sv (cs.set n x) ss := by
  refine ⟨h.tt.sn n x, ?_, ?_, h.bel.setCell (by show w.heap.size ≤ w.heap.size + 1; omega) _⟩
  · exact h.rb.far (Below.heap_setCell _ _ _ _ (by show w.heap.size ≠ w.heap.size + 1; omega))
  · exact h.os.far fun g hgb => Below.heap_setCell _ _ _ _ (by have := (h.os.lt g hgb).1; show g ≠ w.heap.size + 1; omega)

/-- The counts while the symbols of length n are looked for, j of the lengths having been seen. -/
def csF (L : List Int) (n j : Nat) : List Int :=
  (List.range 16).map fun i => if i = 0 ∨ n < i then 0 else if i < n then ((idxF (i : Int) L 0).length : Int) else ((idxF (i : Int) (L.take j) 0).length : Int)
theorem csF_length (L : List Int) (n j : Nat) : (csF L n j).length = 16 := by simp [csF]
theorem csF_getD (L : List Int) (n j i : Nat) (hi : i < 16) : (csF L n j).getD i 0 = if i = 0 ∨ n < i then 0 else if i < n then ((idxF (i : Int) L 0).length : Int) else ((idxF (i : Int) (L.take j) 0).length : Int) := by
  unfold csF
  simp only [List.getD, List.getElem?_map, List.getElem?_range hi]
  rfl
theorem list_ext_getD {a b : List Int} (hl : a.length = b.length) (h : ∀ i, i < a.length → a.getD i 0 = b.getD i 0) : a = b := by
  apply List.ext_getElem hl
  intro i h1 h2
  have := h i h1
  simpa [List.getD, List.getElem?_eq_getElem h1, List.getElem?_eq_getElem h2] using this
theorem csF_hit (L : List Int) (n j : Nat) (hn : 1 ≤ n) (hn2 : n ≤ 15) (hj : j < L.length) (hx : L.getD j 0 = (n : Int)) : csF L n (j + 1) = (csF L n j).set n ((csF L n j).getD n 0 + 1) := by
  apply list_ext_getD (by simp [csF_length])
  intro i hi
  rw [csF_length] at hi
  have e : L.take (j + 1) = L.take j ++ [L.getD j 0] := by
    rw [List.take_add_one, List.getD, List.getElem?_eq_getElem hj]
    rfl
  by_cases hin : i = n
  · subst hin
    have hs : ((csF L i j).set i ((csF L i j).getD i 0 + 1)).getD i 0 = (csF L i j).getD i 0 + 1 := by
      have hl : i < (csF L i j).length := by rw [csF_length]; omega
      generalize (csF L i j).getD i 0 + 1 = y
      simp [List.getD, hl]
    rw [hs, csF_getD _ _ _ _ hi, csF_getD _ _ _ _ hi, if_neg (by omega), if_neg (by omega), if_neg (by omega), if_neg (by omega), e, idxF_snoc, if_pos hx]
    simp
  · have hs : ∀ y, ((csF L n j).set n y).getD i 0 = (csF L n j).getD i 0 := by
      intro y
      simp only [List.getD]
      rw [List.getElem?_set_ne (fun e => hin e.symm)]
    rw [hs, csF_getD _ _ _ _ hi, csF_getD _ _ _ _ hi]
    by_cases h1 : i = 0 ∨ n < i
    · rw [if_pos h1, if_pos h1]
    · rw [if_neg h1, if_neg h1, if_pos (by omega), if_pos (by omega)]
theorem csF_miss (L : List Int) (n j : Nat) (hj : j < L.length) (hx : ¬ L.getD j 0 = (n : Int)) : csF L n (j + 1) = csF L n j := by
  apply list_ext_getD (by simp [csF_length])
  intro i hi
  rw [csF_length] at hi
  have e : L.take (j + 1) = L.take j ++ [L.getD j 0] := by
    rw [List.take_add_one, List.getD, List.getElem?_eq_getElem hj]
    rfl
  rw [csF_getD _ _ _ _ hi, csF_getD _ _ _ _ hi]
  by_cases h1 : i = 0 ∨ n < i
  · rw [if_pos h1, if_pos h1]
  · by_cases h2 : i < n
    · rw [if_neg h1, if_neg h1, if_pos h2, if_pos h2]
    · obtain rfl : i = n := by omega
      rw [if_neg h1, if_neg h1, if_neg h2, if_neg h2, e, idxF_snoc, if_neg hx, List.append_nil]
theorem csF_next (L : List Int) (n : Nat) : csF L (n + 1) 0 = csF L n L.length := by
  apply list_ext_getD (by simp [csF_length])
  intro i hi
  rw [csF_length] at hi
  rw [csF_getD _ _ _ _ hi, csF_getD _ _ _ _ hi]
  by_cases h0 : i = 0
  · rw [if_pos (Or.inl h0), if_pos (Or.inl h0)]
  · rcases Nat.lt_trichotomy i (n + 1) with h | h | h
    · rw [if_neg (show ¬ (i = 0 ∨ n + 1 < i) by omega), if_pos h, if_neg (show ¬ (i = 0 ∨ n < i) by omega)]
      by_cases h2 : i < n
      · rw [if_pos h2]
      · rw [if_neg h2, List.take_length]
    · rw [if_neg (show ¬ (i = 0 ∨ n + 1 < i) by omega), if_neg (show ¬ i < n + 1 by omega), if_pos (Or.inr (by omega))]
      simp [idxF]
    · rw [if_pos (Or.inr h), if_pos (Or.inr (by omega))]
theorem csF_start (L : List Int) : csF L 1 0 = List.replicate 16 0 := by
  apply list_ext_getD (by simp [csF_length])
  intro i hi
  rw [csF_length] at hi
  rw [csF_getD _ _ _ _ hi]
  have e : (List.replicate 16 (0 : Int)).getD i 0 = 0 := by rw [List.getD, List.getElem?_replicate, if_pos hi]; rfl
  rw [e]
  by_cases h1 : i = 0 ∨ 1 < i
  · rw [if_pos h1]
  · rw [if_neg h1, if_neg (by omega)]
    simp [idxF]

open Go.RowKit

theorem list16 (cs : List Int) (h : cs.length = 16) : cs = [cs.getD 0 0, cs.getD 1 0, cs.getD 2 0, cs.getD 3 0, cs.getD 4 0, cs.getD 5 0, cs.getD 6 0, cs.getD 7 0, cs.getD 8 0, cs.getD 9 0, cs.getD 10 0, cs.getD 11 0, cs.getD 12 0, cs.getD 13 0, cs.getD 14 0, cs.getD 15 0] := by
  apply list_ext_getD (by rw [h]; rfl)
  intro i hi
  rw [h] at hi
  have : i = 0 ∨ i = 1 ∨ i = 2 ∨ i = 3 ∨ i = 4 ∨ i = 5 ∨ i = 6 ∨ i = 7 ∨ i = 8 ∨ i = 9 ∨ i = 10 ∨ i = 11 ∨ i = 12 ∨ i = 13 ∨ i = 14 ∨ i = 15 := by omega
  rcases this with rfl | rfl | rfl | rfl | rfl | rfl | rfl | rfl | rfl | rfl | rfl | rfl | rfl | rfl | rfl | rfl <;> rfl
theorem tt_fill {w wr : World} {b : Nat} {x : Value} (sv : Value) (y0 y1 y2 y3 y4 y5 y6 y7 y8 y9 y10 y11 y12 y13 y14 y15 : Int) (h : TT wr b x (List.replicate 16 0)) (hb : Below w.heap.size w wr) (hbb : w.heap.size ≤ b) :
    ∃ w2, ((((((((((((((((wr.setCell ⟨b, 0, none⟩ sv).setCell ⟨b, 1, none⟩ (.int .i64 y0)).setCell ⟨b, 2, none⟩ (.int .i64 y1)).setCell ⟨b, 3, none⟩ (.int .i64 y2)).setCell ⟨b, 4, none⟩ (.int .i64 y3)).setCell ⟨b, 5, none⟩ (.int .i64 y4)).setCell ⟨b, 6, none⟩ (.int .i64 y5)).setCell ⟨b, 7, none⟩ (.int .i64 y6)).setCell ⟨b, 8, none⟩ (.int .i64 y7)).setCell ⟨b, 9, none⟩ (.int .i64 y8)).setCell ⟨b, 10, none⟩ (.int .i64 y9)).setCell ⟨b, 11, none⟩ (.int .i64 y10)).setCell ⟨b, 12, none⟩ (.int .i64 y11)).setCell ⟨b, 13, none⟩ (.int .i64 y12)).setCell ⟨b, 14, none⟩ (.int .i64 y13)).setCell ⟨b, 15, none⟩ (.int .i64 y14)).setCell ⟨b, 16, none⟩ (.int .i64 y15) = w2 ∧ TT w2 b sv [y0, y1, y2, y3, y4, y5, y6, y7, y8, y9, y10, y11, y12, y13, y14, y15] ∧ Below w.heap.size w w2 ∧ wr.heap.size ≤ w2.heap.size ∧ ∀ k, k ≠ b → w2.heap[k]? = wr.heap[k]? := by
  refine ⟨_, rfl, ((((((((((((((((h.s0 sv).sn 0 y0).sn 1 y1).sn 2 y2).sn 3 y3).sn 4 y4).sn 5 y5).sn 6 y6).sn 7 y7).sn 8 y8).sn 9 y9).sn 10 y10).sn 11 y11).sn 12 y12).sn 13 y13).sn 14 y14).sn 15 y15, ((((((((((((((((hb.setCell hbb _).setCell hbb _).setCell hbb _).setCell hbb _).setCell hbb _).setCell hbb _).setCell hbb _).setCell hbb _).setCell hbb _).setCell hbb _).setCell hbb _).setCell hbb _).setCell hbb _).setCell hbb _).setCell hbb _).setCell hbb _).setCell hbb _, by simp [World.setCell], fun k hne => ?_⟩
  rw [Below.heap_setCell _ _ _ _ hne, Below.heap_setCell _ _ _ _ hne, Below.heap_setCell _ _ _ _ hne, Below.heap_setCell _ _ _ _ hne, Below.heap_setCell _ _ _ _ hne, Below.heap_setCell _ _ _ _ hne, Below.heap_setCell _ _ _ _ hne, Below.heap_setCell _ _ _ _ hne, Below.heap_setCell _ _ _ _ hne, Below.heap_setCell _ _ _ _ hne, Below.heap_setCell _ _ _ _ hne, Below.heap_setCell _ _ _ _ hne, Below.heap_setCell _ _ _ _ hne, Below.heap_setCell _ _ _ _ hne, Below.heap_setCell _ _ _ _ hne, Below.heap_setCell _ _ _ _ hne, Below.heap_setCell _ _ _ _ hne]
set_option maxRecDepth 100000 in
theorem tt_ret {w2 : World} {b : Nat} {sv : Value} (y0 y1 y2 y3 y4 y5 y6 y7 y8 y9 y10 y11 y12 y13 y14 y15 : Int) (h : TT w2 b sv [y0, y1, y2, y3, y4, y5, y6, y7, y8, y9, y10, y11, y12, y13, y14, y15]) (t0 t1 : Value) (ts : List Value) :
    (results Tryd.f54 (t0 :: t1 :: .pointer (some ⟨b, 0, none⟩) :: ts).toArray).run Tryd.prog w2 = .ok (.agg (sv :: [y0, y1, y2, y3, y4, y5, y6, y7, y8, y9, y10, y11, y12, y13, y14, y15].map (Value.int .i64)).toArray) w2 := by
  have c0 := h.c0
  have c1 : w2.cell? ⟨b, 1, none⟩ = some (.int .i64 y0) := h.cn 0 (by simp)
  have c2 : w2.cell? ⟨b, 2, none⟩ = some (.int .i64 y1) := h.cn 1 (by simp)
  have c3 : w2.cell? ⟨b, 3, none⟩ = some (.int .i64 y2) := h.cn 2 (by simp)
  have c4 : w2.cell? ⟨b, 4, none⟩ = some (.int .i64 y3) := h.cn 3 (by simp)
  have c5 : w2.cell? ⟨b, 5, none⟩ = some (.int .i64 y4) := h.cn 4 (by simp)
  have c6 : w2.cell? ⟨b, 6, none⟩ = some (.int .i64 y5) := h.cn 5 (by simp)
  have c7 : w2.cell? ⟨b, 7, none⟩ = some (.int .i64 y6) := h.cn 6 (by simp)
  have c8 : w2.cell? ⟨b, 8, none⟩ = some (.int .i64 y7) := h.cn 7 (by simp)
  have c9 : w2.cell? ⟨b, 9, none⟩ = some (.int .i64 y8) := h.cn 8 (by simp)
  have c10 : w2.cell? ⟨b, 10, none⟩ = some (.int .i64 y9) := h.cn 9 (by simp)
  have c11 : w2.cell? ⟨b, 11, none⟩ = some (.int .i64 y10) := h.cn 10 (by simp)
  have c12 : w2.cell? ⟨b, 12, none⟩ = some (.int .i64 y11) := h.cn 11 (by simp)
  have c13 : w2.cell? ⟨b, 13, none⟩ = some (.int .i64 y12) := h.cn 12 (by simp)
  have c14 : w2.cell? ⟨b, 14, none⟩ = some (.int .i64 y13) := h.cn 13 (by simp)
  have c15 : w2.cell? ⟨b, 15, none⟩ = some (.int .i64 y14) := h.cn 14 (by simp)
  have c16 : w2.cell? ⟨b, 16, none⟩ = some (.int .i64 y15) := h.cn 15 (by simp)
  simp [results, Tryd.results54, go_sem, c0, c1, c2, c3, c4, c5, c6, c7, c8, c9, c10, c11, c12, c13, c14, c15, c16]
end Go.Proofs.YtjijkcmbbccfmaaDoor
