/-
  Walks: Clone, Twin, Same.
-/
import Derived.Test.YthkaohkondkhgaaDoorShBK
import Derived.Test.YthkaohkondkhgaaDoorShW1
import Derived.Test.YthkaohkondkhgaaDoorShQ
import Derived.Deep.MidRow
import Derived.Deep.RegionHeld3
namespace Go.Proofs.YthkaohkondkhgaaDoor.Sh
open Go.RowKit

set_option maxRecDepth 100000 in
theorem info5 : ∃ i z, Tryd.prog.info? 5 = some i ∧ i.zero = some z ∧ i.size = 1 ∧ i.bytes = 1 ∧ z.cells.size = 1 ∧ z = .int .u8 0 := by
  refine ⟨_, _, rfl, rfl, rfl, rfl, rfl, rfl⟩

set_option maxHeartbeats 400000 in
set_option maxRecDepth 100000 in
theorem twin_any (v : Value) (xs : List Int) (w : World) (h : Rd w v xs) (hl : xs.length ≤ 140737488355328) :
    Calls Tryd.prog 15 #[v] w fun e w' => ∃ v', e = .returned v' ∧ Own 5 w' w.heap.size v' xs ∧ Below w.heap.size w w' := by
  obtain ⟨i0, z0, hi, hz, hs, hb, hc, _⟩ := info5
  go_enter Tryd.func15, Tryd.ntmps15
  go_wp2_with (at_builtin; refine wpList_append_rd _ rfl _ _ 25 rfl w.heap.size 5 i0 z0 Tryd.underlying25 hi hz hs hb hc (.slice none 0 0) [] rfl (Own.nil 5 w _) v xs rfl h (by simpa using hl) (Nat.le_refl _) ?_; intro v' w1 hown hgrow hat)
  go_ret
  exact ⟨v', rfl, hown, (Below.refl _ w).grown hgrow (Nat.le_refl _) (by intro k hk; simp [Value.ownBlock] at hk)⟩

set_option maxHeartbeats 400000 in
set_option maxRecDepth 100000 in
theorem same_any (a b : Value) (xs ys : List Int) (w : World) (ha : Rd w a xs) (hb : Rd w b ys) :
    Calls Tryd.prog 12 #[a, b] w fun e w' => e = .returned (.bool (decide (xs = ys))) ∧ w' = w := by
  have h1 := ha.str Tryd.underlying25 Tryd.underlying5 9 Tryd.underlying9
  have h2 := hb.str Tryd.underlying25 Tryd.underlying5 9 Tryd.underlying9
  have he := strs_eq ha.allB hb.allB
  clear ha hb
  go_enter Tryd.func12, Tryd.ntmps12
  go_wp2
  go_ret
  exact ⟨rfl, rfl⟩

set_option maxHeartbeats 400000 in
set_option maxRecDepth 100000 in
theorem clone_any (v : Value) (xs : List Int) (w : World) (h : Rd w v xs) (hl : xs.length ≤ 140737488355328) :
    Calls Tryd.prog 45 #[v] w fun e w' => ∃ v', e = .returned v' ∧ Own 5 w' w.heap.size v' xs ∧ Below w.heap.size w w' := by
  obtain ⟨i0, z0, hi, hz, hs, hb, hc, _⟩ := info5
  have q22 : ∀ (w : World) (a : Option Addr) (n c n' c' : Nat), (binOp .eql 25 (.slice a n c) (.slice none n' c')).run Tryd.prog w = .ok (.bool a.isNone) w := fun w a n c n' c' => Lib.run_eql_slice_nil w _ _ a n c n' c' Tryd.underlying25
  obtain ⟨a, c, hv⟩ : ∃ a c, v = .slice a xs.length c := by
    obtain ⟨a, c, hv, _⟩ := h
    exact ⟨a, c, hv⟩
  subst hv
  cases a with
  | none =>
    have hx : xs = [] := by
      obtain ⟨a, c', hv, h1, _, _, h4, _⟩ := h
      injection hv with e1 e2 e3
      subst e1
      have := h4 rfl
      exact List.eq_nil_of_length_eq_zero (by omega)
    subst hx
    clear h
    go_enter Tryd.func45, Tryd.ntmps45
    go_wp2
    go_ret
    exact ⟨_, rfl, Own.nil 5 w _, Below.refl _ _⟩
  | some a =>
    have hr : Rd (w.alloc (.cells #[] 5)) (.slice (some a) xs.length c) xs := h.later ((Below.refl _ _).alloc (Nat.le_refl _) _) (Nat.le_refl _)
    clear h
    have ho : Own 5 (w.alloc (.cells #[] 5)) w.heap.size (.slice (some ⟨w.heap.size, 0, none⟩) 0 0) [] := World.ownsRow_made w #[] 0 (Nat.le_refl _) (Nat.zero_le _) rfl
    go_enter Tryd.func45, Tryd.ntmps45
    go_wp2_with (at_builtin; refine wpList_append_rd _ rfl _ _ 25 rfl w.heap.size 5 i0 z0 Tryd.underlying25 hi hz hs hb hc (.slice (some ⟨w.heap.size, 0, none⟩) 0 0) [] rfl ho _ xs rfl hr (by simpa using hl) (by simp) ?_; intro v' w1 hown hgrow hat)
    go_ret
    exact ⟨v', rfl, hown, ((Below.refl _ w).alloc (Nat.le_refl _) _).grown hgrow (by simp) (by intro k hk; simp [Value.ownBlock] at hk; omega)⟩


def cellsU32 (xs : List Int) : List Value := xs.map (Value.int .u32)
theorem cellsU32_length (xs : List Int) : (cellsU32 xs).length = xs.length := by simp [cellsU32]
theorem cellsU32_one (xs : List Int) : ∀ v ∈ cellsU32 xs, v.oneCell' = true := by
  intro u hu
  obtain ⟨x, _, rfl⟩ := List.mem_map.1 hu
  rfl

/-- Block b holds the words xs. -/
def Blk (w : World) (b : Nat) (t : TypeId) (xs : List Int) : Prop := w.heap[b]? = some (.cells (cellsU32 xs).toArray t)
/-- Block b holds the bytes xs. -/
def Blk8 (w : World) (b : Nat) (t : TypeId) (xs : List Int) : Prop := w.heap[b]? = some (.cells (cellsU8 xs).toArray t)

theorem Blk.cell {w : World} {b : Nat} {t : TypeId} {xs : List Int} (h : Blk w b t xs) (i : Nat) (hi : i < xs.length) : w.cell? ⟨b, i, none⟩ = some (.int .u32 (xs.getD i 0)) := by
  unfold Blk at h
  simp [World.cell?, h, cellsU32, List.getD, List.getElem?_eq_getElem hi]
theorem Blk8.cell {w : World} {b : Nat} {t : TypeId} {xs : List Int} (h : Blk8 w b t xs) (i : Nat) (hi : i < xs.length) : w.cell? ⟨b, i, none⟩ = some (.int .u8 (xs.getD i 0)) := by
  unfold Blk8 at h
  simp [World.cell?, h, cellsU8, List.getD, List.getElem?_eq_getElem hi]
theorem Blk.frozen {w : World} {b : Nat} {t : TypeId} {xs : List Int} (h : Blk w b t xs) (i : Nat) : w.frozen? ⟨b, i, none⟩ = false := by
  unfold Blk at h
  simp [World.frozen?, h]
theorem Blk.set {w : World} {b : Nat} {t : TypeId} {xs : List Int} (h : Blk w b t xs) (i : Nat) (y : Int) : Blk (w.setCell ⟨b, i, none⟩ (.int .u32 y)) b t (xs.set i y) := by
  unfold Blk at h ⊢
  simp only [World.setCell, Array.getElem?_modify, h]
  simp [cellsU32, List.map_set]
theorem Blk.other {w : World} {b b' i : Nat} {t : TypeId} {xs : List Int} (h : Blk w b t xs) (hne : b ≠ b') (u : Value) : Blk (w.setCell ⟨b', i, none⟩ u) b t xs := by
  unfold Blk at h ⊢
  rw [Below.heap_setCell _ _ _ _ hne]
  exact h
theorem Blk8.other {w : World} {b b' i : Nat} {t : TypeId} {xs : List Int} (h : Blk8 w b t xs) (hne : b ≠ b') (u : Value) : Blk8 (w.setCell ⟨b', i, none⟩ u) b t xs := by
  unfold Blk8 at h ⊢
  rw [Below.heap_setCell _ _ _ _ hne]
  exact h
theorem Blk.drewN {w : World} {b : Nat} {t : TypeId} {xs : List Int} (h : Blk w b t xs) (n : Nat) : Blk (w.drewN n) b t xs := h
theorem Blk8.drewN {w : World} {b : Nat} {t : TypeId} {xs : List Int} (h : Blk8 w b t xs) (n : Nat) : Blk8 (w.drewN n) b t xs := h
theorem Blk.drew {w : World} {b : Nat} {t : TypeId} {xs : List Int} (h : Blk w b t xs) : Blk w.drew b t xs := h
theorem Blk8.drew {w : World} {b : Nat} {t : TypeId} {xs : List Int} (h : Blk8 w b t xs) : Blk8 w.drew b t xs := h

/-- Every number is a word's. -/
def AllW (xs : List Int) : Prop := ∀ x ∈ xs, 0 ≤ x ∧ x < 4294967296
theorem AllW.getD {xs : List Int} (h : AllW xs) (i : Nat) : 0 ≤ xs.getD i 0 ∧ xs.getD i 0 < 4294967296 := by
  rcases Nat.lt_or_ge i xs.length with hi | hi
  · have e : xs.getD i 0 = xs[i] := by simp [List.getD, List.getElem?_eq_getElem hi]
    rw [e]
    exact h _ (List.getElem_mem hi)
  · have e : xs.getD i 0 = 0 := by simp [List.getD, List.getElem?_eq_none hi]
    rw [e]
    omega
theorem alloc_blk (w : World) (xs : List Int) (t : TypeId) : Blk (w.alloc (.cells (cellsU32 xs).toArray t)) w.heap.size t xs := heap_alloc_new w _
theorem alloc_blk8 (w : World) (xs : List Int) (t : TypeId) : Blk8 (w.alloc (.cells (cellsU8 xs).toArray t)) w.heap.size t xs := heap_alloc_new w _
theorem Blk.alloc {w : World} {b : Nat} {t : TypeId} {xs : List Int} (h : Blk w b t xs) (o : Obj) : Blk (w.alloc o) b t xs := by
  unfold Blk at h ⊢
  have hb : b < w.heap.size := by
    rcases Nat.lt_or_ge b w.heap.size with h' | h'
    · exact h'
    · rw [Array.getElem?_eq_none h'] at h
      cases h
  rw [Below.heap_alloc w o b hb]
  exact h
theorem Blk8.alloc {w : World} {b : Nat} {t : TypeId} {xs : List Int} (h : Blk8 w b t xs) (o : Obj) : Blk8 (w.alloc o) b t xs := by
  unfold Blk8 at h ⊢
  have hb : b < w.heap.size := by
    rcases Nat.lt_or_ge b w.heap.size with h' | h'
    · exact h'
    · rw [Array.getElem?_eq_none h'] at h
      cases h
  rw [Below.heap_alloc w o b hb]
  exact h

theorem heap3 (w : World) (A B C : Obj) : (((w.alloc A).alloc B).alloc C).heap[w.heap.size]? = some A ∧ (((w.alloc A).alloc B).alloc C).heap[w.heap.size + 1]? = some B ∧ (((w.alloc A).alloc B).alloc C).heap[w.heap.size + 1 + 1]? = some C := by
  have s1 : (w.alloc A).heap.size = w.heap.size + 1 := by simp
  have s2 : ((w.alloc A).alloc B).heap.size = w.heap.size + 1 + 1 := by simp
  refine ⟨?_, ?_, ?_⟩
  · rw [Below.heap_alloc _ _ _ (by omega), Below.heap_alloc _ _ _ (by omega)]
    exact heap_alloc_new w A
  · rw [Below.heap_alloc _ _ _ (by omega), ← s1]
    exact heap_alloc_new (w.alloc A) B
  · rw [← s2]
    exact heap_alloc_new ((w.alloc A).alloc B) C
/-- A list of cells laid over an array from a place on. -/
def setL : Array Value → Nat → List Value → Array Value
  | C, _, [] => C
  | C, o, v :: vs => setL (C.setIfInBounds o v) (o + 1) vs
theorem setL_all : ∀ (vs pre suf : List Value), suf.length = vs.length → setL (pre ++ suf).toArray pre.length vs = (pre ++ vs).toArray
  | [], pre, suf, h => by
    have : suf = [] := List.eq_nil_of_length_eq_zero (by simpa using h)
    subst this
    rfl
  | v :: vs, pre, suf, h => by
    cases suf with
    | nil => simp at h
    | cons s suf =>
      have e : (pre ++ s :: suf).toArray.setIfInBounds pre.length v = ((pre ++ [v]) ++ suf).toArray := by
        simp
      have ih := setL_all vs (pre ++ [v]) suf (by simpa using h)
      rw [setL, e]
      simp only [List.length_append, List.length_singleton] at ih
      rw [ih]
      simp
theorem heap_setCells (b : Nat) (t : TypeId) : ∀ (vs : List Value) (o : Nat) (w : World) (C : Array Value), w.heap[b]? = some (.cells C t) → (w.setCells b o vs).heap[b]? = some (.cells (setL C o vs) t)
  | [], _, _, _, h => h
  | v :: vs, o, w, C, h => by
    rw [World.setCells, setL]
    exact heap_setCells b t vs (o + 1) _ _ (heap_setCell_same w b o C t v h)
theorem below_cells {B b : Nat} (hb : B ≤ b) : ∀ (vs : List Value) (o : Nat) (a w : World), Below B a w → Below B a (w.setCells b o vs)
  | [], _, _, _, h => h
  | v :: vs, o, a, w, h => by
    rw [World.setCells]
    exact below_cells hb vs (o + 1) a _ (h.setCell hb v)
theorem Blk.over {w : World} {b : Nat} {t : TypeId} {zs ws : List Int} (h : Blk w b t zs) (hl : zs.length = ws.length) : Blk (w.setCells b 0 (cellsU32 ws)) b t ws := by
  have := heap_setCells b t (cellsU32 ws) 0 w _ h
  have e := setL_all (cellsU32 ws) [] (cellsU32 zs) (by simp [cellsU32, hl])
  simp only [List.nil_append, List.length_nil] at e
  rw [e] at this
  exact this
theorem Blk.range {w : World} {b : Nat} {t : TypeId} {xs : List Int} (h : Blk w b t xs) : w.rangeAt b 0 (cellsU32 xs) := by
  intro j v hv
  rw [Nat.zero_add, cell_of_row w b j _ t (0, 0) h]
  simpa using hv
theorem Blk.there {w : World} {b : Nat} {t : TypeId} {xs : List Int} (h : Blk w b t xs) (n : Nat) (hn : n = xs.length) : w.there b 0 n := by
  intro j hj
  rw [Nat.zero_add]
  exact ⟨by rw [h.cell j (by omega)]; rfl, h.frozen j⟩

theorem blk_of {w : World} {o : Obj} {b : Nat} {t : TypeId} {xs : List Int} (h : w.heap[b]? = some o) (ho : o = .cells (cellsU32 xs).toArray t) : Blk w b t xs := by
  unfold Blk
  rw [h, ho]
theorem blk8_of {w : World} {o : Obj} {b : Nat} {t : TypeId} {xs : List Int} (h : w.heap[b]? = some o) (ho : o = .cells (cellsU8 xs).toArray t) : Blk8 w b t xs := by
  unfold Blk8
  rw [h, ho]
theorem Blk.far {w w' : World} {b B : Nat} {t : TypeId} {xs : List Int} (h : Blk w b t xs) (hb : Below B w w') (hlt : b < B) : Blk w' b t xs := by
  unfold Blk at h ⊢
  rw [hb.block b hlt]
  exact h
/-- The table of the rounds lies in its block. -/
def Tab (w : World) (ks : List Int) : Prop := 1 < w.heap.size ∧ ∀ i, i < ks.length → w.cell? ⟨1, i, none⟩ = some (.int .u32 (ks.getD i 0))
theorem Tab.cell {w : World} {ks : List Int} (h : Tab w ks) (i : Nat) (hi : i < ks.length) : w.cell? ⟨1, i, none⟩ = some (.int .u32 (ks.getD i 0)) := h.2 i hi
theorem Tab.far {w w' : World} {ks : List Int} {B : Nat} (h : Tab w ks) (hb : Below B w w') (hlt : 1 < B) : Tab w' ks :=
  ⟨Nat.lt_of_lt_of_le h.1 hb.size, fun i hi => by rw [hb.cell (p := ⟨1, i, none⟩) hlt]; exact h.2 i hi⟩
theorem Tab.alloc {w : World} {ks : List Int} (h : Tab w ks) (o : Obj) : Tab (w.alloc o) ks := h.far ((Below.refl w.heap.size w).alloc (Nat.le_refl _) o) h.1
theorem Tab.drewN {w : World} {ks : List Int} (h : Tab w ks) (n : Nat) : Tab (w.drewN n) ks := h
theorem Tab.other {w : World} {ks : List Int} {b i : Nat} (h : Tab w ks) (hne : 1 < b) (u : Value) : Tab (w.setCell ⟨b, i, none⟩ u) ks := h.far ((Below.refl (1 + 1) w).setCell (by show 1 + 1 ≤ b; omega) u) (by omega)
/-- A fact that the walk does not see, nor unfolds. -/
structure Kept (p : Prop) : Prop where
  out : p


theorem cell_block (w : World) (arr : List Int) (t : TypeId) (i : Nat) (hi : i < arr.length) : (w.alloc (.cells (cellsU8 arr).toArray t)).cell? ⟨w.heap.size, i, none⟩ = some (.int .u8 (arr.getD i 0)) := by
  simp [cellsU8, List.getD, List.getElem?_eq_getElem hi]

/-- A list that is laid in a block of its own. -/
theorem Rd.block (w : World) (arr : List Int) (t : TypeId) (hA : AllB arr) (hn : arr.length ≤ 1000000) : Rd (w.alloc (.cells (cellsU8 arr).toArray t)) (.slice (some ⟨w.heap.size, 0, none⟩) arr.length arr.length) arr := by
  refine ⟨some ⟨w.heap.size, 0, none⟩, arr.length, rfl, Nat.le_refl _, by unfold maxLen; omega, hA, (fun h => by cases h), fun _ => ⟨w.heap.size, 0, rfl, by simp, fun i hi => ?_⟩⟩
  rw [Nat.zero_add]
  exact cell_block w arr t i hi

theorem Own.block (w : World) (arr : List Int) (e : TypeId) (hn : arr.length ≤ 1000000) : Own e (w.alloc (.cells (cellsU8 arr).toArray e)) w.heap.size (.slice (some ⟨w.heap.size, 0, none⟩) arr.length arr.length) arr :=
  ⟨by rw [cellsU8_length, Nat.mul_one], .inr ⟨w.heap.size, arr.length, (cellsU8 arr).toArray, rfl, Nat.le_refl _, heap_alloc_new w _, Nat.le_refl _, by unfold maxLen; omega, by simp [cellsU8], by rw [Nat.mul_one]; exact List.take_of_length_le (by simp [cellsU8])⟩⟩

/-- What a slice of the call's own, that is not empty, looks like. -/
theorem Own.open {e : TypeId} {w : World} {base : Nat} {v : Value} {xs : List Int} (h : Own e w base v xs) (h0 : 0 < xs.length) :
    ∃ g cap, v = .slice (some ⟨g, 0, none⟩) xs.length cap ∧ base ≤ g ∧ g < w.heap.size ∧ xs.length ≤ cap ∧ (∀ i, i < xs.length → w.cell? ⟨g, i, none⟩ = some (.int .u8 (xs.getD i 0))) ∧ ∀ i, w.frozen? ⟨g, i, none⟩ = false := by
  have h' := h
  rcases h with ⟨h1, h2⟩
  rcases h2 with ⟨_, hn⟩ | ⟨g, cap, cur, hv, hg, hh, hnc, hcm, hcs, htake⟩
  · omega
  · refine ⟨g, cap, hv, hg, ?_, hnc, fun i hi => ?_, fun i => by simp [World.frozen?, hh]⟩
    · rcases Nat.lt_or_ge g w.heap.size with h'' | h''
      · exact h''
      · rw [Array.getElem?_eq_none h''] at hh
        cases hh
    · have hk := World.ownsRow.cells h' (g := g) (by rw [hv]; rfl) i (.int .u8 (xs.getD i 0)) (by simp [cellsU8, List.getElem?_eq_getElem hi, List.getD])
      rw [add_plain, Nat.zero_add] at hk
      exact hk

/-- A store into it. -/
theorem Own.set {e : TypeId} {w : World} {base g cap n : Nat} {xs : List Int} (h : Own e w base (.slice (some ⟨g, 0, none⟩) n cap) xs) (i : Nat) (y : Int) : Own e (w.setCell ⟨g, i, none⟩ (.int .u8 y)) base (.slice (some ⟨g, 0, none⟩) n cap) (xs.set i y) := by
  rcases h with ⟨h1, h2⟩
  rcases h2 with ⟨hv, _⟩ | ⟨g', cap', cur, hv, hg, hh, hnc, hcm, hcs, htake⟩
  · cases hv
  · injection hv with e1 e2 e3
    injection e1 with e1
    injection e1 with e4 e5
    subst e2 e3 e4
    have hl : xs.length * 1 = xs.length := Nat.mul_one _
    refine ⟨by rw [cellsU8_length, List.length_set, Nat.mul_one], .inr ⟨g, cap, cur.setIfInBounds i (.int .u8 y), by rw [List.length_set], hg, ?_, by rw [List.length_set]; exact hnc, hcm, by simpa using hcs, ?_⟩⟩
    · simp only [World.setCell, Array.getElem?_modify, hh]
      simp
    · rw [List.length_set]
      simp only [Array.toList_setIfInBounds, List.take_set, htake, cellsU8, List.map_set]
end Go.Proofs.YthkaohkondkhgaaDoor.Sh
