/-
  What the rows' frames share: an argument that is an ident, opened; a text's bulk.
-/
import Derived.Test.YtbagkmhhgngbcaaDoorN14
namespace Go.Proofs.YtbagkmhhgngbcaaDoor
open Go.ChangeShapes Go.WideShapes Go.ChangeAt Go.RowKit

set_option maxRecDepth 100000 in
theorem arg_ident {H : Type} {enc : TypeId × Value → H} {W : World} {base b0 : Nat} {sp : Nat → Bool} {held : Bool} {r : Reach} {v : Value} {d : DataW H} {ps : List MemPlace}
    (hval : Value.okWide Tryd.prog W r b0 27 v) (hd : DataW.Trod enc Tryd.prog W base sp held 27 v d ps) : ∃ i : Idt, v = i.v := by
  obtain ⟨xs, rfl, hx⟩ := okWide_struct Tryd.underlying27 hval
  obtain ⟨fuel, hf⟩ := hd
  obtain ⟨ys, n, -, he, hl, hy, hall⟩ := DataW.trod_struct Tryd.underlying27 hf
  match ys, hy with
  | [y0, y1, y2, y3], _ =>
    have c1 : Tryd.prog.cellsOf 3 = 1 := by kernel_rfl
    have c2 : Tryd.prog.cellsOf 9 = 1 := by kernel_rfl
    have h0 : DataW.trod enc Tryd.prog W base sp held n 9 (((Value.agg xs).cells.toList.drop 0).take (Tryd.prog.cellsOf 9)) = some y0 := hall 0 _ rfl
    have h1 : DataW.trod enc Tryd.prog W base sp held n 9 (((Value.agg xs).cells.toList.drop 1).take (Tryd.prog.cellsOf 9)) = some y1 := hall 1 _ rfl
    have h2 : DataW.trod enc Tryd.prog W base sp held n 3 (((Value.agg xs).cells.toList.drop 2).take (Tryd.prog.cellsOf 3)) = some y2 := hall 2 _ rfl
    have h3 : DataW.trod enc Tryd.prog W base sp held n 3 (((Value.agg xs).cells.toList.drop 3).take (Tryd.prog.cellsOf 3)) = some y3 := hall 3 _ rfl
    rw [c2] at h0 h1
    rw [c1] at h2 h3
    obtain ⟨nm, e0, -⟩ := DataW.trod_string Tryd.underlying9 h0
    obtain ⟨em, e1, -⟩ := DataW.trod_string Tryd.underlying9 h1
    obtain ⟨tm, e2, -⟩ := DataW.trod_int Tryd.underlying3 h2
    obtain ⟨zn, e3, -⟩ := DataW.trod_int Tryd.underlying3 h3
    have hc : Tryd.prog.cellsOf 27 = 4 := by kernel_rfl
    rw [hc] at hx
    have k0 := take_one e0
    have k1 := take_one e1
    have k2 := take_one e2
    have k3 := take_one e3
    simp only [Value.cells, Array.getElem?_toList] at k0 k1 k2 k3
    refine ⟨⟨nm, em, tm, zn⟩, ?_⟩
    unfold Idt.v
    congr 1
    apply Array.ext_getElem?
    intro i
    match i with
    | 0 => rw [k0]; rfl
    | 1 => rw [k1]; rfl
    | 2 => rw [k2]; rfl
    | 3 => rw [k3]; rfl
    | i + 4 =>
      rw [Array.getElem?_eq_none (by omega), Array.getElem?_eq_none (by simp)]
theorem bulk_0 {H : Type} {d : DataW H} {s : ByteArray} (h : Rows.uptoBulkAll [.lit (.string s.data.toList), d] ≤ 1048576) : s.size < 4294967281 := by
  simp only [Rows.uptoBulkAll, Rows.uptoBulk] at h
  rw [Lib.size_eq]
  omega
theorem bulk_str {H : Type} {d : DataW H} {s : ByteArray} (h : Rows.uptoBulkAll [d, .lit (.string s.data.toList)] ≤ 1048576) : s.size < 4294967281 := by
  simp only [Rows.uptoBulkAll, Rows.uptoBulk] at h
  rw [Lib.size_eq]
  omega
end Go.Proofs.YtbagkmhhgngbcaaDoor
