/-
  What the rows' frames share: an argument that is a slice of bytes, opened.
-/
import Derived.Test.YtgoegmaepafopaaDoorShA
import Derived.Test.YtgoegmaepafopaaDoorCards
import Derived.Test.YtgoegmaepafopaaDoorTie
import Derived.Deep.DeepHandedRow
import Derived.Lib.LaidTab
import Derived.ProofKit
import Derived.OpenShut
import Derived.ShutString
import Derived.ChangeOld
import Derived.Below
import Derived.SizedLaws
namespace Go.Proofs.YtgoegmaepafopaaDoor.Sh
open Go.ChangeShapes Go.WideShapes Go.ChangeAt Go.RowKit

theorem own : ownKnob Tryd.prog.godebug = none := by kernel_rfl
theorem laidOut : laidOutB Tryd.prog = true := by kernel_rfl
theorem cells5 : Tryd.prog.cellsOf 5 = 1 := by kernel_rfl
theorem bytes5 : Tryd.prog.bytesOf 5 = 1 := by kernel_rfl

theorem rd_of_row {w : World} {x : Addr} {len cap : Nat} {zs : List Int} (hl : len ≤ cap) (hm : cap ≤ maxLen) (hz : zs.length = cap)
    (hcell : ∀ i, i < zs.length → w.cell? (x.add i) = some (.int .u8 (zs.getD i 0))) (hwz : ∀ n ∈ zs, (Lit.int .u8 n).wf = true) : Rd w (.slice (some x) len cap) (zs.take len) := by
  have hlen : (zs.take len).length = len := by simp; omega
  refine ⟨some x, cap, by rw [hlen], by omega, hm, fun z hz => ?_, (fun h => by cases h), fun h0 => ?_⟩
  · have := bounds_u8 (hwz z (List.mem_of_mem_take hz))
    omega
  · obtain ⟨b, off, spot⟩ := x
    have hc := hcell 0 (by omega)
    have hspot : spot = none := by simpa [Addr.add] using World.cell?_spot hc
    subst hspot
    refine ⟨b, off, rfl, ?_, fun i hi => ?_⟩
    · have hc0 : w.cell? ⟨b, off, none⟩ = some (.int .u8 (zs.getD 0 0)) := by simpa [Addr.add] using hc
      rcases Nat.lt_or_ge b w.heap.size with h | h
      · exact h
      · simp [World.cell?, Array.getElem?_eq_none h] at hc0
    · have := hcell i (by omega)
      rw [add_plain] at this
      rw [this]
      have hi' : i < len := by omega
      simp [List.getD, hi']

/-- A slice of bytes that came in: what it reads as, its datum, and that it lies within the form's reach. -/
theorem arg_bytes {H : Type} {enc : TypeId × Value → H} {W : World} {held : Bool} {a : Option Addr} {len cap : Nat} {d : DataW H} {p : List MemPlace} {ts : List TypeId} {ds : List (DataW H)} {j : Nat}
    (h : ∃ fuel, DataW.trod enc Tryd.prog W 0 (fun _ => true) held fuel 22 (Value.slice a len cap).cells.toList = some (d, p))
    (hsz : (DataW.weightsEach Tryd.prog ts ds).all (· ≤ reachBytes) = true) (ht : ts[j]? = some 22) (hd : ds[j]? = some d) :
    ∃ xs, Rd W (.slice a len cap) xs ∧ xs.length + 4096 ≤ 140737488355328 ∧ (d = .nil ∨ ∃ sp, d = .slice (lits .u8 xs) sp) := by
  obtain ⟨fuel, hf⟩ := h
  rcases open_ints Tryd.underlying22 Tryd.underlying5 cells5 hf with ⟨hcs, hx⟩ | ⟨x, l, c, zs, hcs, _, hl, hm, hz, hx, hcell, hwz⟩
  · simp [Value.cells] at hcs
    obtain ⟨rfl, rfl, rfl⟩ := hcs
    exact ⟨[], Rd.nil W, by simp, Or.inl (congrArg Prod.fst hx)⟩
  · simp [Value.cells] at hcs
    obtain ⟨rfl, rfl, rfl⟩ := hcs
    have hd' : d = .slice (lits .u8 (zs.take len)) (lits .u8 (zs.drop len)) := congrArg Prod.fst hx
    subst hd'
    have hr := sized_slice hsz (j := j) (t := 22) (e := 5) ht hd Tryd.underlying22
    rw [bytes5] at hr
    refine ⟨zs.take len, rd_of_row hl hm (by simpa using hz) hcell hwz, ?_, Or.inr ⟨_, rfl⟩⟩
    simp [lits, reachBytes] at hr
    simp
    omega

theorem gTab : Tryd.prog.globalNamed "codicil/sha.roundWords" = some 1 := by kernel_rfl
theorem gTabType : (Tryd.prog.globals[1]?).map (·.type) = some 95 := by kernel_rfl
theorem cells44 : Tryd.prog.cellsOf 95 = 64 := by kernel_rfl
theorem cells22 : Tryd.prog.cellsOf 36 = 1 := by kernel_rfl
/-- What the rows' list gives. -/
theorem table {W : World} (h : laidMetH Tryd.prog [("codicil/sha.roundWords", Rows.laid_codicil_sha_roundWords)] W) : Tab W ksK := by
  have ht : Lib.TabIs Tryd.prog W "codicil/sha.roundWords" .u32 ksK := Lib.tabIs_of_head (rest := []) gTab gTabType Tryd.underlying95 Tryd.underlying36 cells22 cells44 h
  have hc : ∀ i, i < ksK.length → W.cell? ⟨1, i, none⟩ = some (.int .u32 (ksK.getD i 0)) := fun i hi => ht.cell gTab i hi
  refine ⟨?_, hc⟩
  have h0 := hc 0 (by decide)
  rcases Nat.lt_or_ge 1 W.heap.size with h' | h'
  · exact h'
  · simp [World.cell?, Array.getElem?_eq_none h'] at h0
end Go.Proofs.YtgoegmaepafopaaDoor.Sh
