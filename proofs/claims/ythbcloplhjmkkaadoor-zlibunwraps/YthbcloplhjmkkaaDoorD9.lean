/-
  The document's table, filled at once.
-/
import Derived.Test.YthbcloplhjmkkaaDoorD8
namespace Go.Proofs.YthbcloplhjmkkaaDoor
open Go.RowKit

theorem list16 (cs : List Int) (h : cs.length = 16) : cs = [cs.getD 0 0, cs.getD 1 0, cs.getD 2 0, cs.getD 3 0, cs.getD 4 0, cs.getD 5 0, cs.getD 6 0, cs.getD 7 0, cs.getD 8 0, cs.getD 9 0, cs.getD 10 0, cs.getD 11 0, cs.getD 12 0, cs.getD 13 0, cs.getD 14 0, cs.getD 15 0] := by
  apply list_ext_getD (by rw [h]; rfl)
  intro i hi
  rw [h] at hi
  have : i = 0 ∨ i = 1 ∨ i = 2 ∨ i = 3 ∨ i = 4 ∨ i = 5 ∨ i = 6 ∨ i = 7 ∨ i = 8 ∨ i = 9 ∨ i = 10 ∨ i = 11 ∨ i = 12 ∨ i = 13 ∨ i = 14 ∨ i = 15 := by omega
  rcases this with rfl | rfl | rfl | rfl | rfl | rfl | rfl | rfl | rfl | rfl | rfl | rfl | rfl | rfl | rfl | rfl <;> rfl
theorem tt_fill {w wr : World} {b : Nat} {x : Value} (sv : Value) (y0 y1 y2 y3 y4 y5 y6 y7 y8 y9 y10 y11 y12 y13 y14 y15 : Int) (h : TT wr b x (List.replicate 16 0)) (hb : Below w.heap.size w wr) (hbb : w.heap.size ≤ b) :
    ∃ w2, ((((((((((((((((wr.setCell ⟨b, 0, none⟩ sv).setCell ⟨b, 1, none⟩ (.int .i64 y0)).setCell ⟨b, 2, none⟩ (.int .i64 y1)).setCell ⟨b, 3, none⟩ (.int .i64 y2)).setCell ⟨b, 4, none⟩ (.int .i64 y3)).setCell ⟨b, 5, none⟩ (.int .i64 y4)).setCell ⟨b, 6, none⟩ (.int .i64 y5)).setCell ⟨b, 7, none⟩ (.int .i64 y6)).setCell ⟨b, 8, none⟩ (.int .i64 y7)).setCell ⟨b, 9, none⟩ (.int .i64 y8)).setCell ⟨b, 10, none⟩ (.int .i64 y9)).setCell ⟨b, 11, none⟩ (.int .i64 y10)).setCell ⟨b, 12, none⟩ (.int .i64 y11)).setCell ⟨b, 13, none⟩ (.int .i64 y12)).setCell ⟨b, 14, none⟩ (.int .i64 y13)).setCell ⟨b, 15, none⟩ (.int .i64 y14)).setCell ⟨b, 16, none⟩ (.int .i64 y15) = w2 ∧ TT w2 b sv [y0, y1, y2, y3, y4, y5, y6, y7, y8, y9, y10, y11, y12, y13, y14, y15] ∧ Below w.heap.size w w2 ∧ wr.heap.size ≤ w2.heap.size ∧ ∀ k, k ≠ b → w2.heap[k]? = wr.heap[k]? := by
  refine ⟨_, rfl, ((((((((((((((((h.s0 sv).sn 0 y0).sn 1 y1).sn 2 y2).sn 3 y3).sn 4 y4).sn 5 y5).sn 6 y6).sn 7 y7).sn 8 y8).sn 9 y9).sn 10 y10).sn 11 y11).sn 12 y12).sn 13 y13).sn 14 y14).sn 15 y15, ((((((((((((((((hb.setCell hbb _).setCell hbb _).setCell hbb _).setCell hbb _).setCell hbb _).setCell hbb _).setCell hbb _).setCell hbb _).setCell hbb _).setCell hbb _).setCell hbb _).setCell hbb _).setCell hbb _).setCell hbb _).setCell hbb _).setCell hbb _).setCell hbb _, by simp [World.setCell], fun k hne => ?_⟩
  rw [Below.heap_setCell _ _ _ _ hne, Below.heap_setCell _ _ _ _ hne, Below.heap_setCell _ _ _ _ hne, Below.heap_setCell _ _ _ _ hne, Below.heap_setCell _ _ _ _ hne, Below.heap_setCell _ _ _ _ hne, Below.heap_setCell _ _ _ _ hne, Below.heap_setCell _ _ _ _ hne, Below.heap_setCell _ _ _ _ hne, Below.heap_setCell _ _ _ _ hne, Below.heap_setCell _ _ _ _ hne, Below.heap_setCell _ _ _ _ hne, Below.heap_setCell _ _ _ _ hne, Below.heap_setCell _ _ _ _ hne, Below.heap_setCell _ _ _ _ hne, Below.heap_setCell _ _ _ _ hne, Below.heap_setCell _ _ _ _ hne]
set_option maxRecDepth 100000 in
theorem tt_ret {w2 : World} {b : Nat} {sv : Value} (y0 y1 y2 y3 y4 y5 y6 y7 y8 y9 y10 y11 y12 y13 y14 y15 : Int) (h : TT w2 b sv [y0, y1, y2, y3, y4, y5, y6, y7, y8, y9, y10, y11, y12, y13, y14, y15]) (t0 t1 : Value) (ts : List Value) :
    (results Tryd.f32 (t0 :: t1 :: .pointer (some ⟨b, 0, none⟩) :: ts).toArray).run Tryd.prog w2 = .ok (.agg (sv :: [y0, y1, y2, y3, y4, y5, y6, y7, y8, y9, y10, y11, y12, y13, y14, y15].map (Value.int .i64)).toArray) w2 := by
  have c0 := h.c0
  have c1 : w2.cell? ⟨b, 1, none⟩ = some (.int .i64 y0) := h.cn 0 (by simp)
  have c2 : w2.cell? ⟨b, 2, none⟩ = some (.int .i64 y1) := h.cn 1 (by simp)
  have c3 : w2.cell? ⟨b, 3, none⟩ = some (.int .i64 y2) := h.cn 2 (by simp)
  have c4 : w2.cell? ⟨b, 4, none⟩ = some (.int .i64 y3) := h.cn 3 (by simp)
  have c5 : w2.cell? ⟨b, 5, none⟩ = some (.int .i64 y4) := h.cn 4 (by simp)
  have c6 : w2.cell? ⟨b, 6, none⟩ = some (.int .i64 y5) := h.cn 5 (by simp)
  have c7 : w2.cell? ⟨b, 7, none⟩ = some (.int .i64 y6) := h.cn 6 (by simp)
  have c8 : w2.cell? ⟨b, 8, none⟩ = some (.int .i64 y7) := h.cn 7 (by simp)
  have c9 : w2.cell? ⟨b, 9, none⟩ = some (.int .i64 y8) := h.cn 8 (by simp)
  have c10 : w2.cell? ⟨b, 10, none⟩ = some (.int .i64 y9) := h.cn 9 (by simp)
  have c11 : w2.cell? ⟨b, 11, none⟩ = some (.int .i64 y10) := h.cn 10 (by simp)
  have c12 : w2.cell? ⟨b, 12, none⟩ = some (.int .i64 y11) := h.cn 11 (by simp)
  have c13 : w2.cell? ⟨b, 13, none⟩ = some (.int .i64 y12) := h.cn 12 (by simp)
  have c14 : w2.cell? ⟨b, 14, none⟩ = some (.int .i64 y13) := h.cn 13 (by simp)
  have c15 : w2.cell? ⟨b, 15, none⟩ = some (.int .i64 y14) := h.cn 14 (by simp)
  have c16 : w2.cell? ⟨b, 16, none⟩ = some (.int .i64 y15) := h.cn 15 (by simp)
  simp [results, Tryd.results32, go_sem, c0, c1, c2, c3, c4, c5, c6, c7, c8, c9, c10, c11, c12, c13, c14, c15, c16]
end Go.Proofs.YthbcloplhjmkkaaDoor
