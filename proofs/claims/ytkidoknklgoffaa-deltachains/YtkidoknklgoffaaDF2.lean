/-
  What the rows' frames share: an argument that is a slice of slices of bytes, opened.
-/
import Derived.Test.YtkidoknklgoffaaDF
import Derived.Test.YtkidoknklgoffaaDL4
import Derived.Deep.Matrix
namespace Go.Proofs.Ytkidoknklgoffaa
open Go.ChangeShapes Go.WideShapes Go.ChangeAt Go.RowKit Go.Deep

theorem cells_bytes : Try.prog.cellsOf 22 = 1 := by kernel_rfl
theorem cell_lt {w : World} {b off : Nat} {v : Value} (h : w.cell? ⟨b, off, none⟩ = some v) : b < w.heap.size := by
  rcases Nat.lt_or_ge b w.heap.size with h' | h'
  · exact h'
  · simp [World.cell?, Array.getElem?_eq_none h'] at h

theorem weightsAll_mem {H : Type} {P : Program} {e : TypeId} {d : DataW H} {n : Nat} : ∀ {l : List (DataW H)}, d ∈ l → n ∈ d.weights P e → n ∈ DataW.weightsAll P e l
  | [], h, _ => by cases h
  | x :: l, h, hn => by
    simp only [DataW.weightsAll, List.mem_append]
    rcases List.mem_cons.1 h with rfl | h
    · exact Or.inl hn
    · exact Or.inr (weightsAll_mem h hn)

theorem arg_rows {H : Type} {enc : TypeId × Value → H} {W : World} {held : Bool} {a : Option Addr} {len cap : Nat} {d : DataW H} {p : List MemPlace} {ts : List TypeId} {ds : List (DataW H)} {j : Nat}
    (h : ∃ fuel, DataW.trod enc Try.prog W 0 (fun _ => true) held fuel 34 (Value.slice a len cap).cells.toList = some (d, p))
    (hsz : (DataW.weightsEach Try.prog ts ds).all (· ≤ reachBytes) = true) (ht : ts[j]? = some 34) (hd : ds[j]? = some d) : ∃ rows, RdRows W (.slice a len cap) rows ∧ ∀ r, r < rows.length → (rows.getD r []).length + 4096 ≤ 140737488355328 := by
  obtain ⟨fuel, hf⟩ := h
  rcases open_int_rows Try.underlying34 Try.underlying22 Try.underlying5 cells_bytes cells_u8 hf with ⟨hcs, -⟩ | ⟨x, l, c, A, L, C, Z, hcs, -, hl, hm, hx, hr⟩
  · simp [Value.cells] at hcs
    obtain ⟨rfl, rfl, rfl⟩ := hcs
    exact ⟨[], ⟨none, 0, rfl, fun h => by simp at h⟩, fun r h => by simp at h⟩
  · simp [Value.cells] at hcs
    obtain ⟨rfl, rfl, rfl⟩ := hcs
    have hlen : ((List.range len).map fun r => (Z r).take (L r)).length = len := by simp
    have hd' : d = .slice ((List.range len).map fun r => intRow .u8 (A r) (L r) (Z r)) ((List.range (cap - len)).map fun j => intRow .u8 (A (len + j)) (L (len + j)) (Z (len + j))) := congrArg Prod.fst hx
    refine ⟨(List.range len).map fun r => (Z r).take (L r), ⟨some x, cap, by rw [hlen], fun h0 => ?_⟩, fun r hlt => ?_⟩
    rotate_left
    · rw [hlen] at hlt
      have hg : ((List.range len).map fun r => (Z r).take (L r)).getD r [] = (Z r).take (L r) := by simp [List.getD, hlt]
      rw [hg]
      obtain ⟨-, h2, -, h4, -, h6, -⟩ := hr r (by omega)
      cases hA : A r with
      | none =>
        have := h6 hA
        simp
        omega
      | some a' =>
        have hmem : (Z r).length ∈ DataW.weightsEach Try.prog ts ds := by
          refine DataW.weights_mem_each ht hd _ ?_
          rw [hd']
          simp only [DataW.weights, Try.underlying34]
          refine List.mem_cons_of_mem _ (List.mem_append.2 (Or.inl (weightsAll_mem (d := intRow .u8 (A r) (L r) (Z r)) (List.mem_map.2 ⟨r, by simpa using hlt, rfl⟩) ?_)))
          rw [hA]
          simp only [intRow, DataW.weights, Try.underlying22, bytes_u8]
          refine List.mem_cons.2 (Or.inl ?_)
          simp [lits]
          omega
        have hle : (Z r).length ≤ reachBytes := by simpa using List.all_eq_true.1 hsz _ hmem
        unfold reachBytes at hle
        rw [List.length_take]
        omega
    rw [hlen] at h0 ⊢
    obtain ⟨b, off, spot⟩ := x
    have hc0 := (hr 0 (by omega)).1
    have hspot : spot = none := by simpa [Addr.add] using World.cell?_spot hc0
    subst hspot
    refine ⟨b, off, rfl, ?_, fun r hlt => ?_⟩
    · rw [add_plain] at hc0
      exact cell_lt hc0
    · obtain ⟨h1, h2, h3, h4, h5, h6, h7⟩ := hr r (by omega)
      rw [add_plain] at h1
      have hg : ((List.range len).map fun r => (Z r).take (L r)).getD r [] = (Z r).take (L r) := by simp [List.getD, hlt]
      rw [hg]
      cases hA : A r with
      | none =>
        have hC := h6 hA
        have hL : L r = 0 := by omega
        refine ⟨_, h1, ?_, ?_⟩
        · rw [hA, hL, hC]
          exact Rd.nil _ _ W
        · rw [hL]
          exact AllIn.nil
      | some a' =>
        obtain ⟨-, hcell⟩ := h7 a' hA
        rw [hA] at h1
        obtain ⟨k1, k2⟩ := rd_of_row (x := a') (zs := Z r) h2 h3 h4 (fun i hi => hcell i (by omega)) h5
        exact ⟨_, h1, k1, k2⟩
end Go.Proofs.Ytkidoknklgoffaa
