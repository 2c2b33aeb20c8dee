/-
  Blocks of numbers of any kind.
-/
import Derived.Test.YtnflfkmmkejkpaaDoorP1
namespace Go.Proofs.YtnflfkmmkejkpaaDoor
open Go.RowKit

/-- Block b holds the numbers xs. -/
def BlkK (k : IntKind) (w : World) (b : Nat) (t : TypeId) (xs : List Int) : Prop := w.heap[b]? = some (.cells (cellsK k xs).toArray t)
section
variable {k : IntKind} {w w' : World} {b : Nat} {t : TypeId} {xs : List Int}
theorem BlkK.lt (h : BlkK k w b t xs) : b < w.heap.size := by
  unfold BlkK at h
  rcases Nat.lt_or_ge b w.heap.size with h' | h'
  · exact h'
  · rw [Array.getElem?_eq_none h'] at h
    cases h
theorem BlkK.cell (h : BlkK k w b t xs) (i : Nat) (hi : i < xs.length) : w.cell? ⟨b, i, none⟩ = some (.int k (xs.getD i 0)) := by
  unfold BlkK at h
  simp [World.cell?, h, cellsK, List.getD, List.getElem?_eq_getElem hi]
theorem BlkK.frozen (h : BlkK k w b t xs) (i : Nat) : w.frozen? ⟨b, i, none⟩ = false := by
  unfold BlkK at h
  simp [World.frozen?, h]
theorem BlkK.set (h : BlkK k w b t xs) (i : Nat) (y : Int) : BlkK k (w.setCell ⟨b, i, none⟩ (.int k y)) b t (xs.set i y) := by
  unfold BlkK at h ⊢
  simp only [World.setCell, Array.getElem?_modify, h]
  simp [cellsK, List.map_set]
theorem BlkK.other {b' i : Nat} (h : BlkK k w b t xs) (hne : b ≠ b') (u : Value) : BlkK k (w.setCell ⟨b', i, none⟩ u) b t xs := by
  unfold BlkK at h ⊢
  rw [Below.heap_setCell _ _ _ _ hne]
  exact h
theorem BlkK.drewN (h : BlkK k w b t xs) (n : Nat) : BlkK k (w.drewN n) b t xs := h
theorem BlkK.far {B : Nat} (h : BlkK k w b t xs) (hb : Below B w w') (hlt : b < B) : BlkK k w' b t xs := by
  unfold BlkK at h ⊢
  rw [hb.block b hlt]
  exact h
theorem BlkK.range (h : BlkK k w b t xs) : w.rangeAt b 0 (cellsK k xs) := by
  intro j v hv
  rw [Nat.zero_add, cell_of_row w b j _ t (0, 0) h]
  simpa using hv
theorem BlkK.there (h : BlkK k w b t xs) (n : Nat) (hn : n = xs.length) : w.there b 0 n := by
  intro j hj
  rw [Nat.zero_add]
  exact ⟨by rw [h.cell j (by omega)]; rfl, h.frozen j⟩
theorem BlkK.over {ws : List Int} (h : BlkK k w b t xs) (hl : xs.length = ws.length) : BlkK k (w.setCells b 0 (cellsK k ws)) b t ws := by
  have := Sh.heap_setCells b t (cellsK k ws) 0 w _ h
  have e := Sh.setL_all (cellsK k ws) [] (cellsK k xs) (by simp [cellsK, hl])
  simp only [List.nil_append, List.length_nil] at e
  rw [e] at this
  exact this
end
theorem alloc_blkK (k : IntKind) (w : World) (xs : List Int) (t : TypeId) : BlkK k (w.alloc (.cells (cellsK k xs).toArray t)) w.heap.size t xs := heap_alloc_new w _
theorem cellsK_all (k : IntKind) (xs : List Int) : (cellsK k xs).toArray.all (·.oneCell') = true := all_oneCell_toArray (cellsK_one k xs)

def z256 : List Int := List.replicate 256 0
theorem z256_length : z256.length = 256 := List.length_replicate
set_option maxRecDepth 100000 in
theorem zero_fan : Tryd.zeroCells71 = (cellsK .u64 z256).toArray := by kernel_rfl
set_option maxRecDepth 100000 in
theorem info_fan : (Tryd.prog.info? 71).map (·.size) = some 256 := by kernel_rfl
/-- Two fans of noughts. -/
theorem two_fans (w : World) : ∃ w0, (w.alloc (.cells Tryd.zeroCells71 71)).alloc (.cells Tryd.zeroCells71 71) = w0 ∧ BlkK .u64 w0 w.heap.size 71 z256 ∧ BlkK .u64 w0 (w.heap.size + 1) 71 z256 ∧ w0.heap.size = w.heap.size + 2 ∧ Below w.heap.size w w0 := by
  rw [zero_fan]
  have hB : Below w.heap.size w ((w.alloc (.cells (cellsK .u64 z256).toArray 71)).alloc (.cells (cellsK .u64 z256).toArray 71)) := ((Below.refl _ _).alloc (Nat.le_refl _) _).alloc (by simp) _
  refine ⟨_, rfl, ?_, ?_, by simp, hB⟩
  · exact (alloc_blkK .u64 w z256 _).far ((Below.refl (w.heap.size + 1) _).alloc (by simp) _) (by omega)
  · have := alloc_blkK .u64 (w.alloc (.cells (cellsK .u64 z256).toArray 71)) z256 71
    rwa [show (w.alloc (.cells (cellsK .u64 z256).toArray 71)).heap.size = w.heap.size + 1 by simp] at this
end Go.Proofs.YtnflfkmmkejkpaaDoor
