/-
  What the frames share: two labels that came in, opened.
-/
import Derived.Test.YtidpdhnbnecddaaVB8
namespace Go.Proofs.Ytidpdhnbnecddaa
open Go.ChangeShapes Go.WideShapes Go.ChangeAt Go.RowKit

theorem cells_lab : Try.prog.cellsOf 23 = 2 := by kernel_rfl
set_option maxRecDepth 100000 in
theorem arg_lab2 {H : Type} {enc : TypeId × Value → H} {W : World} {base : Nat} {sp : Nat → Bool} {held : Bool} {r : Reach} {b0 : Nat} {v : Value} {d : DataW H} {ps : List MemPlace} (hval : Value.okWide Try.prog W r b0 23 v) (hd : DataW.Trod enc Try.prog W base sp held 23 v d ps) :
    ∃ l0 l1 : ByteArray, v = .agg #[.string l0, .string l1] := by
  have hu := Try.underlying23
  simp only [Value.okWide, hu] at hval
  obtain ⟨xs, rfl, -, -⟩ := hval
  obtain ⟨fuel, hf⟩ := hd
  obtain ⟨ys, m, -, -, hlen, hyl, hall⟩ := DataW.trod_array hu hf
  rw [cells_lab] at hlen
  have hat : ∀ i, i < 2 → ∃ s, xs.toList[i]? = some (.string s) := fun i hi => by
    have h1 := hall i hi
    rw [cells_str, Nat.mul_one, List.getElem?_eq_getElem (by omega)] at h1
    obtain ⟨s, hs, -, -⟩ := DataW.trod_string Try.underlying9 h1
    refine ⟨s, ?_⟩
    have := congrArg (fun l => l[0]?) hs
    simpa [Value.cells] using this
  obtain ⟨s0, h0⟩ := hat 0 (by omega)
  obtain ⟨s1, h1⟩ := hat 1 (by omega)
  refine ⟨s0, s1, ?_⟩
  have hl : xs.toList.length = 2 := hlen
  have e : xs.toList = [.string s0, .string s1] := by
    apply List.ext_getElem?
    intro i
    match i with
    | 0 => rw [h0]; rfl
    | 1 => rw [h1]; rfl
    | i + 2 => rw [List.getElem?_eq_none (by omega), List.getElem?_eq_none (by simp)]
  have e2 : xs = #[.string s0, .string s1] := Array.ext' e
  rw [e2]
end Go.Proofs.Ytidpdhnbnecddaa
