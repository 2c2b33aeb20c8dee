/-
  What the rows' frames share: an argument that is a slice of texts, opened.
-/
import Derived.Test.YtidpdhnbnecddaaV3
import Derived.ProofKit
import Derived.OpenShut
import Derived.ShutString
import Derived.ChangeOld
import Derived.Below
import Derived.SizedLaws
import Derived.SliceStrings
import Derived.JoinedCond
namespace Go.Proofs.Ytidpdhnbnecddaa
open Go.ChangeShapes Go.WideShapes Go.ChangeAt Go.RowKit

theorem own : ownKnob Try.prog.godebug = none := by kernel_rfl
theorem laidOut : laidOutB Try.prog = true := by kernel_rfl
theorem cells_str : Try.prog.cellsOf 9 = 1 := by kernel_rfl
theorem arg_strs {H : Type} {enc : TypeId × Value → H} {W : World} {held : Bool} {a : Option Addr} {len cap : Nat} {d : DataW H} {p : List MemPlace}
    (h : ∃ fuel, DataW.trod enc Try.prog W 0 (fun _ => true) held fuel 33 (Value.slice a len cap).cells.toList = some (d, p)) :
    ∃ L, RdS W (.slice a len cap) L ∧ ∀ s ∈ L, s.size ≤ maxLen := by
  obtain ⟨fuel, hf⟩ := h
  rcases open_strings Try.underlying33 Try.underlying9 cells_str hf with ⟨hcs, -⟩ | ⟨x, l, c, ss, hcs, -, hl, hm, hlen, -, hcell, hss⟩
  · simp [Value.cells] at hcs
    obtain ⟨rfl, rfl, rfl⟩ := hcs
    exact ⟨[], RdV.nil W, fun s h => by cases h⟩
  · simp [Value.cells] at hcs
    obtain ⟨rfl, rfl, rfl⟩ := hcs
    simp only [if_true] at hlen
    have ht : (ss.take len).length = len := by rw [List.length_take]; omega
    refine ⟨ss.take len, ⟨some x, cap, by rw [List.length_map, ht], by rw [List.length_map, ht]; omega, fun h0 => ?_⟩, fun s hs => hss s (List.mem_of_mem_take hs)⟩
    rw [List.length_map, ht] at h0
    obtain ⟨b, off, spot⟩ := x
    have hc0 := hcell 0 (by omega)
    have hspot : spot = none := by simpa [Addr.add] using World.cell?_spot hc0
    subst hspot
    refine ⟨b, off, rfl, ?_, fun i u hu => ?_⟩
    · rw [add_plain] at hc0
      rcases Nat.lt_or_ge b W.heap.size with h' | h'
      · exact h'
      · simp [World.cell?, Array.getElem?_eq_none h'] at hc0
    · have hi : i < len := by
        rcases Nat.lt_or_ge i len with h' | h'
        · exact h'
        · rw [List.getElem?_eq_none (by rw [List.length_map, ht]; exact h')] at hu; cases hu
      have := hcell i (by omega)
      rw [add_plain] at this
      rw [this]
      rw [List.getElem?_map, List.getElem?_take_of_lt hi] at hu
      rw [← hu, List.getElem?_eq_getElem (by omega)]
      simp [List.getD, List.getElem?_eq_getElem (show i < ss.length by omega)]

open Go.ChangeShapes Go.WideShapes Go.ChangeAt Go.RowKit

theorem cells_u8 : Try.prog.cellsOf 5 = 1 := by kernel_rfl
theorem bytes_u8 : Try.prog.bytesOf 5 = 1 := by kernel_rfl
theorem rd_of_row {w : World} {x : Addr} {len cap : Nat} {zs : List Int} (hl : len ≤ cap) (hm : cap ≤ maxLen) (hz : zs.length = cap)
    (hcell : ∀ i, i < zs.length → w.cell? (x.add i) = some (.int .u8 (zs.getD i 0))) (hwz : ∀ n ∈ zs, (Lit.int .u8 n).wf = true) : Rd .u8 anyB w (.slice (some x) len cap) (zs.take len) ∧ AllB (zs.take len) := by
  have hlen : (zs.take len).length = len := by simp; omega
  refine ⟨⟨some x, cap, by rw [hlen], by omega, hm, (fun h => by cases h), fun h0 => ?_⟩, fun z hz => ?_⟩
  · obtain ⟨b, off, spot⟩ := x
    have hc := hcell 0 (by omega)
    have hspot : spot = none := by simpa [Addr.add] using World.cell?_spot hc
    subst hspot
    refine ⟨b, off, rfl, ?_, trivial, fun i hi => ?_⟩
    · have hc0 : w.cell? ⟨b, off, none⟩ = some (.int .u8 (zs.getD 0 0)) := by simpa [Addr.add] using hc
      rcases Nat.lt_or_ge b w.heap.size with h | h
      · exact h
      · simp [World.cell?, Array.getElem?_eq_none h] at hc0
    · have := hcell i (by omega)
      rw [add_plain] at this
      rw [this]
      have hi' : i < len := by omega
      simp [List.getD, hi']
  · have := bounds_u8 (hwz z (List.mem_of_mem_take hz))
    omega
/-- A slice of bytes that came in: what it reads as, and its datum. -/
theorem arg_bytesD {H : Type} {enc : TypeId × Value → H} {W : World} {held : Bool} {a : Option Addr} {len cap : Nat} {d : DataW H} {p : List MemPlace}
    (h : ∃ fuel, DataW.trod enc Try.prog W 0 (fun _ => true) held fuel 22 (Value.slice a len cap).cells.toList = some (d, p)) :
    ∃ xs, Rd .u8 anyB W (.slice a len cap) xs ∧ AllB xs ∧ ((xs = [] ∧ d = .nil) ∨ ∃ sp, d = .slice (lits .u8 xs) sp) := by
  obtain ⟨fuel, hf⟩ := h
  rcases open_ints Try.underlying22 Try.underlying5 cells_u8 hf with ⟨hcs, hx⟩ | ⟨x, l, c, zs, hcs, _, hl, hm, hz, hx, hcell, hwz⟩
  · simp [Value.cells] at hcs
    obtain ⟨rfl, rfl, rfl⟩ := hcs
    exact ⟨[], Rd.nil _ _ W, AllIn.nil, Or.inl ⟨rfl, congrArg Prod.fst hx⟩⟩
  · simp [Value.cells] at hcs
    obtain ⟨rfl, rfl, rfl⟩ := hcs
    have hd' : d = .slice (lits .u8 (zs.take len)) (lits .u8 (zs.drop len)) := congrArg Prod.fst hx
    obtain ⟨h1, h2⟩ := rd_of_row hl hm (by simpa using hz) hcell hwz
    exact ⟨zs.take len, h1, h2, Or.inr ⟨_, hd'⟩⟩
theorem arg_bytes {H : Type} {enc : TypeId × Value → H} {W : World} {held : Bool} {a : Option Addr} {len cap : Nat} {d : DataW H} {p : List MemPlace} {ts : List TypeId} {ds : List (DataW H)} {j : Nat}
    (h : ∃ fuel, DataW.trod enc Try.prog W 0 (fun _ => true) held fuel 22 (Value.slice a len cap).cells.toList = some (d, p))
    (hsz : (DataW.weightsEach Try.prog ts ds).all (· ≤ reachBytes) = true) (ht : ts[j]? = some 22) (hd : ds[j]? = some d) :
    ∃ xs, Rd .u8 anyB W (.slice a len cap) xs ∧ AllB xs ∧ xs.length + 4096 ≤ 140737488355328 := by
  obtain ⟨xs, h1, h2, h3⟩ := arg_bytesD h
  refine ⟨xs, h1, h2, ?_⟩
  rcases h3 with ⟨rfl, -⟩ | ⟨sp, rfl⟩
  · simp
  · have hr := sized_slice hsz (j := j) (t := 22) (e := 5) ht hd Try.underlying22
    rw [bytes_u8] at hr
    simp [lits, reachBytes] at hr
    omega
theorem bulk_pos {H : Type} (d : DataW H) : 1 ≤ Rows.uptoBulk d := by
  cases d with
  | lit l => cases l <;> simp [Rows.uptoBulk]
  | _ => simp [Rows.uptoBulk]
theorem bulk_length {H : Type} (l : List (DataW H)) : l.length ≤ Rows.uptoBulkAll l := by
  induction l with
  | nil => simp [Rows.uptoBulkAll]
  | cons x r ih =>
    have := bulk_pos x
    simp only [Rows.uptoBulkAll, List.length_cons]
    omega
theorem arg_bytes_bulk {H : Type} {enc : TypeId × Value → H} {W : World} {held : Bool} {a : Option Addr} {len cap : Nat} {d : DataW H} {p : List MemPlace}
    (h : ∃ fuel, DataW.trod enc Try.prog W 0 (fun _ => true) held fuel 22 (Value.slice a len cap).cells.toList = some (d, p)) :
    ∃ xs, Rd .u8 anyB W (.slice a len cap) xs ∧ AllB xs ∧ xs.length ≤ Rows.uptoBulk d := by
  obtain ⟨xs, h1, h2, h3⟩ := arg_bytesD h
  refine ⟨xs, h1, h2, ?_⟩
  rcases h3 with ⟨rfl, -⟩ | ⟨sp, rfl⟩
  · simp
  · have := bulk_length (lits (H := H) .u8 xs)
    simp only [Rows.uptoBulk]
    simp [lits] at this ⊢
    omega
theorem bulk_str {H : Type} (L : List ByteArray) : ∀ s ∈ L, s.size ≤ Rows.uptoBulkAll (strs (H := H) L) := by
  induction L with
  | nil => intro s h; cases h
  | cons x r ih =>
    intro s hs
    have e : strs (H := H) (x :: r) = .lit (.string x.data.toList) :: strs r := rfl
    rw [e]
    simp only [Rows.uptoBulkAll]
    have hx : x.size ≤ Rows.uptoBulk (DataW.lit (H := H) (.string x.data.toList)) := by
      simp only [Rows.uptoBulk]
      rw [Array.length_toList]
      show x.data.size ≤ _
      omega
    rcases List.mem_cons.1 hs with rfl | h
    · omega
    · have := ih s h
      omega
/-- A slice of texts that came in: what it reads as, each no longer than its bulk. -/
theorem arg_strs_bulk {H : Type} {enc : TypeId × Value → H} {W : World} {held : Bool} {a : Option Addr} {len cap : Nat} {d : DataW H} {p : List MemPlace}
    (h : ∃ fuel, DataW.trod enc Try.prog W 0 (fun _ => true) held fuel 33 (Value.slice a len cap).cells.toList = some (d, p)) :
    ∃ L, RdS W (.slice a len cap) L ∧ (∀ s ∈ L, s.size ≤ maxLen) ∧ ∀ s ∈ L, s.size ≤ Rows.uptoBulk d := by
  obtain ⟨L, rd, sz⟩ := arg_strs h
  refine ⟨L, rd, sz, ?_⟩
  obtain ⟨fuel, hf⟩ := h
  rcases open_strings Try.underlying33 Try.underlying9 cells_str hf with ⟨hcs, hx⟩ | ⟨x, l, c, ss, hcs, -, hl, hm, hlen, hx, hcell, hss⟩
  · simp [Value.cells] at hcs
    obtain ⟨rfl, rfl, rfl⟩ := hcs
    obtain ⟨_, _, hv, _⟩ := rd
    simp at hv
    intro s hs
    have : L.length = 0 := by omega
    rw [List.length_eq_zero_iff.1 this] at hs
    cases hs
  · simp [Value.cells] at hcs
    obtain ⟨rfl, rfl, rfl⟩ := hcs
    simp only [if_true] at hlen
    have hd : d = .slice (strs (ss.take len)) (strs (ss.drop len)) := congrArg Prod.fst hx
    have hlk : L.length = len := by
      obtain ⟨_, _, hv, _⟩ := rd
      simp at hv
      omega
    have hL : L = ss.take len := by
      apply List.ext_getElem
      · rw [List.length_take]; omega
      · intro i h1 h2
        obtain ⟨_, _, hv, _, hb⟩ := rd
        obtain ⟨b, off, e, _, hr⟩ := hb (by rw [List.length_map]; omega)
        simp at hv
        obtain ⟨rfl, -, -⟩ := hv
        injection e with e
        subst e
        have := hcell i (by omega)
        rw [add_plain, hr i (.string L[i]) (by rw [List.getElem?_map, List.getElem?_eq_getElem h1]; rfl)] at this
        simp [List.getD, List.getElem?_eq_getElem (show i < ss.length by omega)] at this
        rw [this, List.getElem_take]
    intro s hs
    rw [hL] at hs
    have := bulk_str (H := H) (ss.take len) s hs
    rw [hd]
    simp only [Rows.uptoBulk]
    omega
end Go.Proofs.Ytidpdhnbnecddaa
