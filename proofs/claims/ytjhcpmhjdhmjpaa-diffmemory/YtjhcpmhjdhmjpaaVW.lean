/-
  What the rows' frames share: an argument that is a slice of texts, opened, each text within the form's reach.
-/
import Derived.Test.YtjhcpmhjdhmjpaaVF
namespace Go.Proofs.Ytjhcpmhjdhmjpaa
open Go.ChangeShapes Go.WideShapes Go.ChangeAt Go.RowKit

theorem weightsAll_mem {H : Type} {P : Program} {e : TypeId} {d : DataW H} {n : Nat} (hn : n ∈ d.weights P e) : ∀ {L : List (DataW H)}, d ∈ L → n ∈ DataW.weightsAll P e L
  | x :: L, h => by
    rw [DataW.weightsAll]
    rcases List.mem_cons.1 h with rfl | h
    · exact List.mem_append_left _ hn
    · exact List.mem_append_right _ (weightsAll_mem hn h)
theorem arg_strsW {H : Type} {enc : TypeId × Value → H} {W : World} {held : Bool} {a : Option Addr} {len cap : Nat} {d : DataW H} {p : List MemPlace} {ts : List TypeId} {ds : List (DataW H)} {j : Nat}
    (h : ∃ fuel, DataW.trod enc Try.prog W 0 (fun _ => true) held fuel 22 (Value.slice a len cap).cells.toList = some (d, p))
    (hsz : (DataW.weightsEach Try.prog ts ds).all (· ≤ reachBytes) = true) (hst : ts[j]? = some 22) (hdj : ds[j]? = some d) :
    ∃ L, RdS W (.slice a len cap) L ∧ ∀ s ∈ L, s.size ≤ 140737488355328 := by
  obtain ⟨fuel, hf⟩ := h
  have hw : ∀ n ∈ d.weights Try.prog 22, n ≤ reachBytes := fun n hn => by
    have := List.all_eq_true.1 hsz _ (DataW.weights_mem_each hst hdj n hn)
    simpa using this
  clear hsz hst hdj
  rcases open_strings Try.underlying22 Try.underlying9 cells_str hf with ⟨hcs, -⟩ | ⟨x, l, c, ss, hcs, -, hl, hm, hlen, hx, hcell, hss⟩
  · simp [Value.cells] at hcs
    obtain ⟨rfl, rfl, rfl⟩ := hcs
    exact ⟨[], RdV.nil W, fun s h => by cases h⟩
  · simp [Value.cells] at hcs
    obtain ⟨rfl, rfl, rfl⟩ := hcs
    simp only [if_true] at hlen
    have hd' : d = .slice (strs (ss.take len)) (strs (ss.drop len)) := congrArg Prod.fst hx
    subst hd'
    have hrb := reachBytes_lt
    have hsm : ∀ s ∈ ss.take len, s.size ≤ 140737488355328 := fun s hs => by
      have h1 : (DataW.lit (.string s.data.toList) : DataW H) ∈ strs (ss.take len) := List.mem_map.2 ⟨s, hs, rfl⟩
      have h2 : s.data.toList.length ∈ (DataW.lit (.string s.data.toList) : DataW H).weights Try.prog 9 := by simp [DataW.weights]
      have h3 : s.data.toList.length ∈ (DataW.slice (strs (ss.take len)) (strs (ss.drop len)) : DataW H).weights Try.prog 22 := by
        simp only [DataW.weights, Try.underlying22]
        exact List.mem_cons_of_mem _ (List.mem_append_left _ (weightsAll_mem h2 h1))
      have h4 := hw _ h3
      have h5 : s.data.toList.length = s.size := by rw [Array.length_toList]; rfl
      omega
    have ht : (ss.take len).length = len := by rw [List.length_take]; omega
    refine ⟨ss.take len, ⟨some x, cap, by rw [List.length_map, ht], by rw [List.length_map, ht]; omega, fun h0 => ?_⟩, hsm⟩
    rw [List.length_map, ht] at h0
    obtain ⟨b, off, spot⟩ := x
    have hc0 := hcell 0 (by omega)
    have hspot : spot = none := by simpa [Addr.add] using World.cell?_spot hc0
    subst hspot
    refine ⟨b, off, rfl, ?_, fun i u hu => ?_⟩
    · rw [add_plain] at hc0
      rcases Nat.lt_or_ge b W.heap.size with h' | h'
      · exact h'
      · simp [World.cell?, Array.getElem?_eq_none h'] at hc0
    · have hi : i < len := by
        rcases Nat.lt_or_ge i len with h' | h'
        · exact h'
        · rw [List.getElem?_eq_none (by rw [List.length_map, ht]; exact h')] at hu; cases hu
      have := hcell i (by omega)
      rw [add_plain] at this
      rw [this]
      rw [List.getElem?_map, List.getElem?_take_of_lt hi] at hu
      rw [← hu, List.getElem?_eq_getElem (by omega)]
      simp [List.getD, List.getElem?_eq_getElem (show i < ss.length by omega)]
end Go.Proofs.Ytjhcpmhjdhmjpaa
