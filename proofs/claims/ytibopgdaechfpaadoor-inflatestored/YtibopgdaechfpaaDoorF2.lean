/-
  What the rows' frames share: an argument that is a slice of slices of bytes, opened.
-/
import Derived.Test.YtibopgdaechfpaaDoorF
import Derived.Test.YtibopgdaechfpaaDoorX2
import Derived.Deep.Matrix
namespace Go.Proofs.YtibopgdaechfpaaDoor
open Go.ChangeShapes Go.WideShapes Go.ChangeAt Go.RowKit Go.Deep

theorem cells_bytes : Tryd.prog.cellsOf 22 = 1 := by kernel_rfl
theorem cell_lt {w : World} {b off : Nat} {v : Value} (h : w.cell? ⟨b, off, none⟩ = some v) : b < w.heap.size := by
  rcases Nat.lt_or_ge b w.heap.size with h' | h'
  · exact h'
  · simp [World.cell?, Array.getElem?_eq_none h'] at h

theorem arg_rows {H : Type} {enc : TypeId × Value → H} {W : World} {held : Bool} {a : Option Addr} {len cap : Nat} {d : DataW H} {p : List MemPlace}
    (h : ∃ fuel, DataW.trod enc Tryd.prog W 0 (fun _ => true) held fuel 31 (Value.slice a len cap).cells.toList = some (d, p)) : ∃ rows, RdRows W (.slice a len cap) rows := by
  obtain ⟨fuel, hf⟩ := h
  rcases open_int_rows Tryd.underlying31 Tryd.underlying22 Tryd.underlying5 cells_bytes cells_u8 hf with ⟨hcs, -⟩ | ⟨x, l, c, A, L, C, Z, hcs, -, hl, hm, -, hr⟩
  · simp [Value.cells] at hcs
    obtain ⟨rfl, rfl, rfl⟩ := hcs
    exact ⟨[], none, 0, rfl, fun h => by simp at h⟩
  · simp [Value.cells] at hcs
    obtain ⟨rfl, rfl, rfl⟩ := hcs
    have hlen : ((List.range len).map fun r => (Z r).take (L r)).length = len := by simp
    refine ⟨(List.range len).map fun r => (Z r).take (L r), some x, cap, by rw [hlen], fun h0 => ?_⟩
    rw [hlen] at h0 ⊢
    obtain ⟨b, off, spot⟩ := x
    have hc0 := (hr 0 (by omega)).1
    have hspot : spot = none := by simpa [Addr.add] using World.cell?_spot hc0
    subst hspot
    refine ⟨b, off, rfl, ?_, fun r hlt => ?_⟩
    · rw [add_plain] at hc0
      exact cell_lt hc0
    · obtain ⟨h1, h2, h3, h4, h5, h6, h7⟩ := hr r (by omega)
      rw [add_plain] at h1
      have hg : ((List.range len).map fun r => (Z r).take (L r)).getD r [] = (Z r).take (L r) := by simp [List.getD, hlt]
      rw [hg]
      cases hA : A r with
      | none =>
        have hC := h6 hA
        have hL : L r = 0 := by omega
        refine ⟨_, h1, ?_, ?_⟩
        · rw [hA, hL, hC]
          exact Rd.nil _ _ W
        · rw [hL]
          exact AllIn.nil
      | some a' =>
        obtain ⟨-, hcell⟩ := h7 a' hA
        rw [hA] at h1
        obtain ⟨k1, k2⟩ := rd_of_row (x := a') (zs := Z r) h2 h3 h4 (fun i hi => hcell i (by omega)) h5
        exact ⟨_, h1, k1, k2⟩
end Go.Proofs.YtibopgdaechfpaaDoor
