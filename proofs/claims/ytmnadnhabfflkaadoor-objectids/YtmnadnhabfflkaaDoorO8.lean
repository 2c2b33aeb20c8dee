/-
  Bytes of a text that are appended to; bridges to sha's texts.
-/
import Derived.Test.YtmnadnhabfflkaaDoorO7
import Derived.Lib.ConvBytes
import Derived.Lib.FrozenHead
namespace Go.Proofs.YtmnadnhabfflkaaDoor
open Go.RowKit

/-- Cells stored into a row none of whose cells is frozen. -/
theorem storeCells_atM (P : Program) (g o : Nat) (t : TypeId) (fz : Nat × Nat) : ∀ (vs : List Value) (i : Nat) (cur : Array Value) (w : World), w.heap[g]? = some (.cells cur t fz) → cur.size ≤ fz.1 → o + i + vs.length ≤ cur.size → (∀ v ∈ vs, v.oneCell' = true) →
    (storeCells ⟨g, o, none⟩ vs i).run P w = .ok () (w.setRow g (cur.toList.take (o + i) ++ vs ++ cur.toList.drop (o + i + vs.length)).toArray)
  | [], i, cur, w, hg, _, _, _ => by
    simp only [storeCells, List.append_nil, List.length_nil, Nat.add_zero, List.take_append_drop, Array.toArray_toList]
    rw [setRow_self w g cur t fz hg]
    rfl
  | v :: rest, i, cur, w, hg, hfz, hl, h1 => by
    have hi : o + i < cur.size := by simp at hl; omega
    have hadd : (⟨g, o, none⟩ : Addr).add i = ⟨g, o + i, none⟩ := by unfold Addr.add; split <;> simp_all
    have hcell : w.cell? ⟨g, o + i, none⟩ = some cur[o + i] := by simp [World.cell?, hg, hi]
    have hfro : w.frozen? ⟨g, o + i, none⟩ = false := by
      obtain ⟨lo, hi'⟩ := fz
      simp only [World.frozen?, hg, Bool.and_eq_false_iff, decide_eq_false_iff_not]
      left
      simp only at hfz
      omega
    have hst : (store ((⟨g, o, none⟩ : Addr).add i) v).run P w = .ok () (w.setRow g (cur.setIfInBounds (o + i) v)) := by
      rw [hadd, run_store P w _ v _ (h1 v (by simp)), hcell]
      simp [hfro, setCell_eq_setRow w g (o + i) cur t fz v hg]
    have ih := storeCells_atM P g o t fz rest (i + 1) (cur.setIfInBounds (o + i) v) (w.setRow g (cur.setIfInBounds (o + i) v)) (setRow_heap w g cur _ t _ hg) (by simpa using hfz) (by simp at hl ⊢; omega) (fun x hx => h1 x (by simp [hx]))
    simp only [storeCells, Sem.run_bind, hst, Result.andThen_ok, ih, setRow_setRow]
    congr 3
    have e := list_seg_step cur.toList (o + i) v rest (by simp at hl ⊢; omega)
    simpa [Array.toList_setIfInBounds, Nat.add_assoc] using e
theorem cellsK_at {k : IntKind} {zs : List Int} {j : Nat} (h : j < zs.length) : (cellsK k zs)[j]? = some (.int k (zs.getD j 0)) := by
  simp [cellsK, List.getD, List.getElem?_eq_getElem h]
/-- Bytes behind those of a row that nobody else writes. -/
theorem run_append_marked {P : Program} (w : World) (S : Nat → Prop) (t ty e : TypeId) (i : TypeInfo) (z : Value) (ht : P.underlying t = some (.slice e)) (hi : P.info? e = some i) (hz : i.zero = some z)
    (hsize : i.size = 1) (hby : i.bytes = 1)
    (g n cap : Nat) (cur : Array Value) (fz : Nat × Nat) (hg : w.heap[g]? = some (.cells cur e fz)) (hcs : cur.size = cap) (hfz : cap ≤ fz.1) (hn : n ≤ cap) (hcm : cap ≤ maxLen)
    (xs : List Int) (hxs : cur.toList.take n = cellsK .u8 xs) (hxl : xs.length = n)
    (x : Value) (ys : List Int) (hs : Rd .u8 S w x ys) (hbytes : n + ys.length ≤ 140737488355328) :
    ∃ v' w', (Builtin.append_ #[t, t] ty #[.slice (some ⟨g, 0, none⟩) n cap, x]).run P w = .ok v' w' ∧ Rd .u8 anyB w' v' (xs ++ ys) ∧ w.grownBy w' (some g) := by
  have hglt : g < w.heap.size := (Array.getElem?_eq_some_iff.1 hg).1
  have hcell : ∀ k, k < xs.length → w.cell? ⟨g, 0 + k, none⟩ = some (.int .u8 (xs.getD k 0)) := fun k hk => by
    rw [Nat.zero_add, cell_of_row w g k cur e fz hg]
    have : (cur.toList.take n)[k]? = (cellsK .u8 xs)[k]? := by rw [hxs]
    rw [List.getElem?_take, if_pos (by omega), Array.getElem?_toList] at this
    rw [this]
    simp [cellsK, List.getD, List.getElem?_eq_getElem hk]
  obtain ⟨a, c, rfl, h2, h3, h4, h5⟩ := hs
  by_cases h0 : 0 < ys.length
  · obtain ⟨b, off, rfl, hbw, _, hc⟩ := h5 h0
    have hnews : ∀ j u, (cellsK .u8 ys)[j]? = some u → w.cell? ((⟨b, off, none⟩ : Addr).add j) = some u := fun j u hj => by
      obtain ⟨hj', rfl⟩ := cellsK_get hj
      rw [add_plain]
      exact hc j hj'
    by_cases hroom : n + ys.length ≤ cap
    · have hf := run_firstCells_some (P := P) w i.size ys.length ⟨b, off, none⟩ ys.length c (cellsK .u8 ys) (by rw [cellsK_length, hsize, Nat.mul_one]) hnews
      rw [hsize] at hf
      have hst := storeCells_atM P g n e fz (cellsK .u8 ys) 0 cur w hg (by omega) (by rw [cellsK_length]; omega) (cellsK_one .u8 ys)
      simp only [Nat.add_zero] at hst
      refine ⟨.slice (some ⟨g, 0, none⟩) (n + ys.length) cap, w.setRow g (cur.toList.take n ++ cellsK .u8 ys ++ cur.toList.drop (n + (cellsK .u8 ys).length)).toArray, ?_, ?_, ?_⟩
      · simp [Builtin.append_, run_underlying ht, sizeOf, typeInfo, hi, Builtin.lenOf, hroom, hf, Addr.add_lit, hst, hsize]
      · have hrow := setRow_heap w g cur (cur.toList.take n ++ cellsK .u8 ys ++ cur.toList.drop (n + (cellsK .u8 ys).length)).toArray e fz hg
        refine ⟨some ⟨g, 0, none⟩, cap, by rw [List.length_append, hxl], by rw [List.length_append, hxl]; omega, hcm, (fun h => by cases h), fun _ => ⟨g, 0, rfl, by simpa using hglt, trivial, fun k hk => ?_⟩⟩
        rw [Nat.zero_add, cell_of_row _ g k _ e fz hrow, hxs, ← cellsK_append, List.getElem?_toArray, List.getElem?_append_left (by rw [cellsK_length]; exact hk)]
        exact cellsK_at hk
      · exact ⟨rfl, rfl, rfl, by simp, fun k _ hk => setRow_other w g k _ (fun e => hk (by rw [e]))⟩
    · have holds : ∀ j u, (cellsK .u8 xs)[j]? = some u → w.cell? ((⟨g, 0, none⟩ : Addr).add j) = some u := fun j u hj => by
        obtain ⟨hj', rfl⟩ := cellsK_get hj
        rw [add_plain]
        exact hcell j hj'
      have hr := run_append_grow (P := P) w t ty e i z ht hi hz ⟨g, 0, none⟩ n cap (cellsK .u8 xs) (by rw [cellsK_length, hsize, hxl, Nat.mul_one]) holds ⟨b, off, none⟩ ys.length c (cellsK .u8 ys) (by rw [cellsK_length, hsize, Nat.mul_one]) hnews (by omega) (by unfold maxLen at *; omega) (by rw [hby]; exact growslice_fits (by unfold maxLen at *; omega) (by omega))
      refine ⟨_, _, hr, ?_, ?_⟩
      · have hge := grownCap_ge w (n + ys.length) cap e
        have hle := grownCap_le_maxLen w (n + ys.length) cap e (by unfold maxLen; omega)
        refine ⟨some ⟨w.heap.size, 0, none⟩, grownCap w (n + ys.length) cap e, by rw [List.length_append, hxl], by rw [List.length_append, hxl]; exact hge, hle, (fun h => by cases h), fun _ => ⟨w.heap.size, 0, rfl, by simp, trivial, fun k hk => ?_⟩⟩
        rw [Nat.zero_add, cell_of_row _ w.heap.size k _ e (0, 0) (heap_alloc_new w.drew _)]
        rw [← Array.getElem?_toList, Array.toList_append, Array.toList_append, List.getElem?_append_left (by rw [List.length_append] at hk; simp [cellsK]; omega)]
        rw [show (cellsK IntKind.u8 xs).toArray.toList ++ (cellsK IntKind.u8 ys).toArray.toList = cellsK .u8 (xs ++ ys) from by rw [cellsK_append]]
        exact cellsK_at hk
      · exact ⟨rfl, rfl, rfl, by simp, fun k hk _ => heap_alloc_old w.drew _ hk⟩
  · have hy : ys = [] := List.eq_nil_of_length_eq_zero (by omega)
    subst hy
    refine ⟨_, w, run_append_zero w t ty e i ht hi _ _ cap hn a c, ?_, ⟨rfl, rfl, rfl, Nat.le_refl _, fun _ _ _ => rfl⟩⟩
    rw [List.append_nil]
    exact ⟨some ⟨g, 0, none⟩, cap, by rw [hxl], by omega, hcm, (fun h => by cases h), fun _ => ⟨g, 0, rfl, hglt, trivial, hcell⟩⟩
end Go.Proofs.YtmnadnhabfflkaaDoor
