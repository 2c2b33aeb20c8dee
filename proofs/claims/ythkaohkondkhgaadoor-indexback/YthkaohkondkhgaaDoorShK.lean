/-
  The vocabulary: blocks that hold words or bytes.
-/
import Derived.Test.YthkaohkondkhgaaDoorShW1
import Derived.Test.YthkaohkondkhgaaDoorShBK
import Derived.Test.YthkaohkondkhgaaDoorShQ
import Derived.Deep.MidRow
import Derived.Deep.RegionHeld3
namespace Go.Proofs.YthkaohkondkhgaaDoor.Sh
open Go.RowKit

def cellsU32 (xs : List Int) : List Value := xs.map (Value.int .u32)
theorem cellsU32_length (xs : List Int) : (cellsU32 xs).length = xs.length := by simp [cellsU32]
theorem cellsU32_one (xs : List Int) : ∀ v ∈ cellsU32 xs, v.oneCell' = true := by
  intro u hu
  obtain ⟨x, _, rfl⟩ := List.mem_map.1 hu
  rfl

/-- Block b holds the words xs. -/
def Blk (w : World) (b : Nat) (t : TypeId) (xs : List Int) : Prop := w.heap[b]? = some (.cells (cellsU32 xs).toArray t)
/-- Block b holds the bytes xs. -/
def Blk8 (w : World) (b : Nat) (t : TypeId) (xs : List Int) : Prop := w.heap[b]? = some (.cells (cellsU8 xs).toArray t)

theorem Blk.cell {w : World} {b : Nat} {t : TypeId} {xs : List Int} (h : Blk w b t xs) (i : Nat) (hi : i < xs.length) : w.cell? ⟨b, i, none⟩ = some (.int .u32 (xs.getD i 0)) := by
  unfold Blk at h
  simp [World.cell?, h, cellsU32, List.getD, List.getElem?_eq_getElem hi]
theorem Blk8.cell {w : World} {b : Nat} {t : TypeId} {xs : List Int} (h : Blk8 w b t xs) (i : Nat) (hi : i < xs.length) : w.cell? ⟨b, i, none⟩ = some (.int .u8 (xs.getD i 0)) := by
  unfold Blk8 at h
  simp [World.cell?, h, cellsU8, List.getD, List.getElem?_eq_getElem hi]
theorem Blk.frozen {w : World} {b : Nat} {t : TypeId} {xs : List Int} (h : Blk w b t xs) (i : Nat) : w.frozen? ⟨b, i, none⟩ = false := by
  unfold Blk at h
  simp [World.frozen?, h]
theorem Blk.set {w : World} {b : Nat} {t : TypeId} {xs : List Int} (h : Blk w b t xs) (i : Nat) (y : Int) : Blk (w.setCell ⟨b, i, none⟩ (.int .u32 y)) b t (xs.set i y) := by
  unfold Blk at h ⊢
  simp only [World.setCell, Array.getElem?_modify, h]
  simp [cellsU32, List.map_set]
theorem Blk.other {w : World} {b b' i : Nat} {t : TypeId} {xs : List Int} (h : Blk w b t xs) (hne : b ≠ b') (u : Value) : Blk (w.setCell ⟨b', i, none⟩ u) b t xs := by
  unfold Blk at h ⊢
  rw [Below.heap_setCell _ _ _ _ hne]
  exact h
theorem Blk8.other {w : World} {b b' i : Nat} {t : TypeId} {xs : List Int} (h : Blk8 w b t xs) (hne : b ≠ b') (u : Value) : Blk8 (w.setCell ⟨b', i, none⟩ u) b t xs := by
  unfold Blk8 at h ⊢
  rw [Below.heap_setCell _ _ _ _ hne]
  exact h
theorem Blk.drewN {w : World} {b : Nat} {t : TypeId} {xs : List Int} (h : Blk w b t xs) (n : Nat) : Blk (w.drewN n) b t xs := h
theorem Blk8.drewN {w : World} {b : Nat} {t : TypeId} {xs : List Int} (h : Blk8 w b t xs) (n : Nat) : Blk8 (w.drewN n) b t xs := h
theorem Blk.drew {w : World} {b : Nat} {t : TypeId} {xs : List Int} (h : Blk w b t xs) : Blk w.drew b t xs := h
theorem Blk8.drew {w : World} {b : Nat} {t : TypeId} {xs : List Int} (h : Blk8 w b t xs) : Blk8 w.drew b t xs := h

/-- Every number is a word's. -/
def AllW (xs : List Int) : Prop := ∀ x ∈ xs, 0 ≤ x ∧ x < 4294967296
theorem AllW.getD {xs : List Int} (h : AllW xs) (i : Nat) : 0 ≤ xs.getD i 0 ∧ xs.getD i 0 < 4294967296 := by
  rcases Nat.lt_or_ge i xs.length with hi | hi
  · have e : xs.getD i 0 = xs[i] := by simp [List.getD, List.getElem?_eq_getElem hi]
    rw [e]
    exact h _ (List.getElem_mem hi)
  · have e : xs.getD i 0 = 0 := by simp [List.getD, List.getElem?_eq_none hi]
    rw [e]
    omega
theorem alloc_blk (w : World) (xs : List Int) (t : TypeId) : Blk (w.alloc (.cells (cellsU32 xs).toArray t)) w.heap.size t xs := heap_alloc_new w _
theorem alloc_blk8 (w : World) (xs : List Int) (t : TypeId) : Blk8 (w.alloc (.cells (cellsU8 xs).toArray t)) w.heap.size t xs := heap_alloc_new w _
theorem Blk.alloc {w : World} {b : Nat} {t : TypeId} {xs : List Int} (h : Blk w b t xs) (o : Obj) : Blk (w.alloc o) b t xs := by
  unfold Blk at h ⊢
  have hb : b < w.heap.size := by
    rcases Nat.lt_or_ge b w.heap.size with h' | h'
    · exact h'
    · rw [Array.getElem?_eq_none h'] at h
      cases h
  rw [Below.heap_alloc w o b hb]
  exact h
theorem Blk8.alloc {w : World} {b : Nat} {t : TypeId} {xs : List Int} (h : Blk8 w b t xs) (o : Obj) : Blk8 (w.alloc o) b t xs := by
  unfold Blk8 at h ⊢
  have hb : b < w.heap.size := by
    rcases Nat.lt_or_ge b w.heap.size with h' | h'
    · exact h'
    · rw [Array.getElem?_eq_none h'] at h
      cases h
  rw [Below.heap_alloc w o b hb]
  exact h

theorem heap3 (w : World) (A B C : Obj) : (((w.alloc A).alloc B).alloc C).heap[w.heap.size]? = some A ∧ (((w.alloc A).alloc B).alloc C).heap[w.heap.size + 1]? = some B ∧ (((w.alloc A).alloc B).alloc C).heap[w.heap.size + 1 + 1]? = some C := by
  have s1 : (w.alloc A).heap.size = w.heap.size + 1 := by simp
  have s2 : ((w.alloc A).alloc B).heap.size = w.heap.size + 1 + 1 := by simp
  refine ⟨?_, ?_, ?_⟩
  · rw [Below.heap_alloc _ _ _ (by omega), Below.heap_alloc _ _ _ (by omega)]
    exact heap_alloc_new w A
  · rw [Below.heap_alloc _ _ _ (by omega), ← s1]
    exact heap_alloc_new (w.alloc A) B
  · rw [← s2]
    exact heap_alloc_new ((w.alloc A).alloc B) C
/-- A list of cells laid over an array from a place on. -/
def setL : Array Value → Nat → List Value → Array Value
  | C, _, [] => C
  | C, o, v :: vs => setL (C.setIfInBounds o v) (o + 1) vs
theorem setL_all : ∀ (vs pre suf : List Value), suf.length = vs.length → setL (pre ++ suf).toArray pre.length vs = (pre ++ vs).toArray
  | [], pre, suf, h => by
    have : suf = [] := List.eq_nil_of_length_eq_zero (by simpa using h)
    subst this
    rfl
  | v :: vs, pre, suf, h => by
    cases suf with
    | nil => simp at h
    | cons s suf =>
      have e : (pre ++ s :: suf).toArray.setIfInBounds pre.length v = ((pre ++ [v]) ++ suf).toArray := by
        simp
      have ih := setL_all vs (pre ++ [v]) suf (by simpa using h)
      rw [setL, e]
      simp only [List.length_append, List.length_singleton] at ih
      rw [ih]
      simp
theorem heap_setCells (b : Nat) (t : TypeId) : ∀ (vs : List Value) (o : Nat) (w : World) (C : Array Value), w.heap[b]? = some (.cells C t) → (w.setCells b o vs).heap[b]? = some (.cells (setL C o vs) t)
  | [], _, _, _, h => h
  | v :: vs, o, w, C, h => by
    rw [World.setCells, setL]
    exact heap_setCells b t vs (o + 1) _ _ (heap_setCell_same w b o C t v h)
theorem below_cells {B b : Nat} (hb : B ≤ b) : ∀ (vs : List Value) (o : Nat) (a w : World), Below B a w → Below B a (w.setCells b o vs)
  | [], _, _, _, h => h
  | v :: vs, o, a, w, h => by
    rw [World.setCells]
    exact below_cells hb vs (o + 1) a _ (h.setCell hb v)
theorem Blk.over {w : World} {b : Nat} {t : TypeId} {zs ws : List Int} (h : Blk w b t zs) (hl : zs.length = ws.length) : Blk (w.setCells b 0 (cellsU32 ws)) b t ws := by
  have := heap_setCells b t (cellsU32 ws) 0 w _ h
  have e := setL_all (cellsU32 ws) [] (cellsU32 zs) (by simp [cellsU32, hl])
  simp only [List.nil_append, List.length_nil] at e
  rw [e] at this
  exact this
theorem Blk.range {w : World} {b : Nat} {t : TypeId} {xs : List Int} (h : Blk w b t xs) : w.rangeAt b 0 (cellsU32 xs) := by
  intro j v hv
  rw [Nat.zero_add, cell_of_row w b j _ t (0, 0) h]
  simpa using hv
theorem Blk.there {w : World} {b : Nat} {t : TypeId} {xs : List Int} (h : Blk w b t xs) (n : Nat) (hn : n = xs.length) : w.there b 0 n := by
  intro j hj
  rw [Nat.zero_add]
  exact ⟨by rw [h.cell j (by omega)]; rfl, h.frozen j⟩

theorem blk_of {w : World} {o : Obj} {b : Nat} {t : TypeId} {xs : List Int} (h : w.heap[b]? = some o) (ho : o = .cells (cellsU32 xs).toArray t) : Blk w b t xs := by
  unfold Blk
  rw [h, ho]
theorem blk8_of {w : World} {o : Obj} {b : Nat} {t : TypeId} {xs : List Int} (h : w.heap[b]? = some o) (ho : o = .cells (cellsU8 xs).toArray t) : Blk8 w b t xs := by
  unfold Blk8
  rw [h, ho]
theorem Blk.far {w w' : World} {b B : Nat} {t : TypeId} {xs : List Int} (h : Blk w b t xs) (hb : Below B w w') (hlt : b < B) : Blk w' b t xs := by
  unfold Blk at h ⊢
  rw [hb.block b hlt]
  exact h
/-- The table of the rounds lies in its block. -/
def Tab (w : World) (ks : List Int) : Prop := 1 < w.heap.size ∧ ∀ i, i < ks.length → w.cell? ⟨1, i, none⟩ = some (.int .u32 (ks.getD i 0))
theorem Tab.cell {w : World} {ks : List Int} (h : Tab w ks) (i : Nat) (hi : i < ks.length) : w.cell? ⟨1, i, none⟩ = some (.int .u32 (ks.getD i 0)) := h.2 i hi
theorem Tab.far {w w' : World} {ks : List Int} {B : Nat} (h : Tab w ks) (hb : Below B w w') (hlt : 1 < B) : Tab w' ks :=
  ⟨Nat.lt_of_lt_of_le h.1 hb.size, fun i hi => by rw [hb.cell (p := ⟨1, i, none⟩) hlt]; exact h.2 i hi⟩
theorem Tab.alloc {w : World} {ks : List Int} (h : Tab w ks) (o : Obj) : Tab (w.alloc o) ks := h.far ((Below.refl w.heap.size w).alloc (Nat.le_refl _) o) h.1
theorem Tab.drewN {w : World} {ks : List Int} (h : Tab w ks) (n : Nat) : Tab (w.drewN n) ks := h
theorem Tab.other {w : World} {ks : List Int} {b i : Nat} (h : Tab w ks) (hne : 1 < b) (u : Value) : Tab (w.setCell ⟨b, i, none⟩ u) ks := h.far ((Below.refl (1 + 1) w).setCell (by show 1 + 1 ≤ b; omega) u) (by omega)
/-- A fact that the walk does not see, nor unfolds. -/
structure Kept (p : Prop) : Prop where
  out : p
end Go.Proofs.YthkaohkondkhgaaDoor.Sh
