/-
  Walks: the document's Rests.
-/
import Derived.Test.YtjhcpmhjdhmjpaaVNT
namespace Go.Proofs.Ytjhcpmhjdhmjpaa
open Go.RowKit

def rowG (M N : List ByteArray) : List Nat := (List.range (N.length + 1)).map fun j => rst M (N.drop j)
theorem rowG_len (M N : List ByteArray) : (rowG M N).length = N.length + 1 := by unfold rowG; simp
theorem rowG_get (M N : List ByteArray) {j : Nat} (h : j ≤ N.length) : (rowG M N)[j]? = some (rst M (N.drop j)) := by
  unfold rowG
  rw [List.getElem?_map, List.getElem?_range (by omega)]
  rfl
theorem rowG_eq {M N : List ByteArray} {R : List Nat} (hl : R.length = N.length + 1) (h : ∀ j, j ≤ N.length → R[j]? = some (rst M (N.drop j))) : R = rowG M N := by
  apply List.ext_getElem?
  intro j
  by_cases hj : j ≤ N.length
  · rw [h j hj, rowG_get M N hj]
  · rw [List.getElem?_eq_none (by omega), List.getElem?_eq_none (by rw [rowG_len]; omega)]
theorem dropB_cons {N : List ByteArray} {k : Nat} {q : ByteArray} (h : N[k]? = some q) : N.drop k = q :: N.drop (k + 1) := by
  obtain ⟨hl, hg⟩ := List.getElem?_eq_some_iff.1 h
  rw [← hg]
  exact List.drop_eq_getElem_cons hl
theorem info_ints : ∃ i, Try.prog.info? 58 = some i ∧ i.zero = some (.slice none 0 0) ∧ i.size = 1 ∧ i.bytes = 24 := by
  have h : (Try.prog.info? 58).map (fun i => (i.zero, i.size, i.bytes)) = some (some (.slice none 0 0), 1, 24) := by kernel_rfl
  cases h' : Try.prog.info? 58 with
  | none => rw [h'] at h; cases h
  | some i =>
    rw [h'] at h
    simp only [Option.map_some, Option.some.injEq, Prod.mk.injEq] at h
    exact ⟨i, rfl, h.1, h.2.1, h.2.2⟩
/-- The table, its rows from k on filled. -/
structure TbSt (w wr : World) (tb : Nat) (a b : List ByteArray) (k : Nat) : Prop where
  st : ∃ (C : List Value) (r : Nat → Nat), C.length = a.length + 1 ∧ Bk wr tb 58 C ∧ ∀ j, k ≤ j → j ≤ a.length → C[j]? = some (slV (r j) (b.length + 1)) ∧ Bk wr (r j) 3 (intV (rowG (a.drop j) b)) ∧ tb < r j
  tb : tb = w.heap.size
  bel : Below w.heap.size w wr
  le : k ≤ a.length + 1
/-- The same, with a row under way. -/
structure TbMd (w wr : World) (tb : Nat) (a b : List ByteArray) (k rb : Nat) (R : List Nat) : Prop where
  st : ∃ (C : List Value) (r : Nat → Nat), C.length = a.length + 1 ∧ Bk wr tb 58 C ∧ C[k]? = some (slV rb (b.length + 1)) ∧ ∀ j, k + 1 ≤ j → j ≤ a.length → C[j]? = some (slV (r j) (b.length + 1)) ∧ Bk wr (r j) 3 (intV (rowG (a.drop j) b)) ∧ tb < r j ∧ r j ≠ rb
  row : Bk wr rb 3 (intV R)
  rl : R.length = b.length + 1
  rlt : tb < rb
  tb : tb = w.heap.size
  bel : Below w.heap.size w wr
  le : k ≤ a.length
section
variable {w wr : World} {tb k rb : Nat} {a b : List ByteArray} {R : List Nat}
theorem TbMd.set (h : TbMd w wr tb a b k rb R) (j x : Nat) : TbMd w (wr.setCell ⟨rb, j, none⟩ (.int .i64 (x : Int))) tb a b k rb (R.set j x) := by
  obtain ⟨C, r, h1, h2, h3, h4⟩ := h.st
  have ht := h.tb
  have hl := h.rlt
  refine ⟨⟨C, r, h1, h2.other (by omega) _, h3, fun j a b => ?_⟩, ?_, by simp [h.rl], hl, ht, h.bel.setCell (show w.heap.size ≤ rb by omega) _, h.le⟩
  · obtain ⟨a1, a2, a3, a4⟩ := h4 j a b
    exact ⟨a1, a2.other a4 _, a3, a4⟩
  · have := h.row.set j (.int .i64 (x : Int))
    rw [intV_set] at this
    exact this
theorem TbMd.drewN (h : TbMd w wr tb a b k rb R) (m : Nat) : TbMd w (wr.drewN m) tb a b k rb R := ⟨h.st, h.row, h.rl, h.rlt, h.tb, ⟨h.bel.os, h.bel.tape, h.bel.output, h.bel.size, h.bel.block⟩, h.le⟩
theorem TbMd.done (h : TbMd w wr tb a b k rb R) (hR : R = rowG (a.drop k) b) : TbSt w wr tb a b k := by
  obtain ⟨C, r, h1, h2, h3, h4⟩ := h.st
  refine ⟨⟨C, fun j => if j = k then rb else r j, h1, h2, fun j x y => ?_⟩, h.tb, h.bel, by have := h.le; omega⟩
  by_cases e : j = k
  · subst e
    simp only [if_true]
    exact ⟨h3, by rw [← hR]; exact h.row, h.rlt⟩
  · simp only [if_neg e]
    obtain ⟨a1, a2, a3, -⟩ := h4 j (by omega) y
    exact ⟨a1, a2, a3⟩
theorem TbMd.ck (h : TbMd w wr tb a b k rb R) : wr.cell? ⟨tb, k, none⟩ = some (.slice (some ⟨rb, 0, none⟩) (b.length + 1) (b.length + 1)) := by
  obtain ⟨C, r, h1, h2, h3, h4⟩ := h.st
  exact h2.cell k _ h3
/-- What the next row holds. -/
theorem TbMd.next (h : TbMd w wr tb a b k rb R) (hk : k < a.length) : ∃ nb, wr.cell? ⟨tb, k + 1, none⟩ = some (.slice (some ⟨nb, 0, none⟩) (b.length + 1) (b.length + 1)) ∧ ∀ j, j ≤ b.length → wr.cell? ⟨nb, j, none⟩ = some (.int .i64 ((rst (a.drop (k + 1)) (b.drop j) : Nat) : Int)) := by
  obtain ⟨C, r, h1, h2, h3, h4⟩ := h.st
  obtain ⟨g1, g2, -, -⟩ := h4 (k + 1) (Nat.le_refl _) (by omega)
  exact ⟨r (k + 1), h2.cell (k + 1) _ g1, fun j hj => g2.cell j _ (intV_get (rowG_get _ _ hj))⟩
end
/-- A new row is laid. -/
theorem TbSt.mid {w wr w5 : World} {tb k : Nat} {a b : List ByteArray} (h : TbSt w wr tb a b (k + 1)) (hg : wr.grownBy w5 none) (hb : Bk w5 wr.heap.size 3 (intV (List.replicate (b.length + 1) 0))) :
    (∃ u, w5.cell? ⟨tb, k, none⟩ = some u) ∧ w5.frozen? ⟨tb, k, none⟩ = false ∧ TbMd w (w5.setCell ⟨tb, k, none⟩ (slV wr.heap.size (b.length + 1))) tb a b k wr.heap.size (List.replicate (b.length + 1) 0) := by
  obtain ⟨C, r, h1, h2, h3⟩ := h.st
  have ht := h.tb
  have hle := h.le
  have htl := h2.lt
  have hF := Fx.grown hg
  have h2' := h2.fx hF (by simp)
  obtain ⟨u, hu⟩ : ∃ u, C[k]? = some u := ⟨_, List.getElem?_eq_getElem (by omega)⟩
  refine ⟨⟨u, h2'.cell k _ hu⟩, h2'.frozen k, ⟨⟨C.set k (slV wr.heap.size (b.length + 1)), r, by simp [h1], h2'.set k _, by rw [List.getElem?_set_self (by omega)], fun j x y => ?_⟩, hb.other (by omega) _, by simp, by omega, ht, (h.bel.trans (hF.below (by omega) (by simp))).setCell (show w.heap.size ≤ tb by omega) _, by omega⟩⟩
  obtain ⟨a1, a2, a3⟩ := h3 j x y
  have := a2.lt
  exact ⟨by rw [List.getElem?_set_ne (by omega)]; exact a1, (a2.fx hF (by simp)).other (by omega) _, a3, by omega⟩
end Go.Proofs.Ytjhcpmhjdhmjpaa
