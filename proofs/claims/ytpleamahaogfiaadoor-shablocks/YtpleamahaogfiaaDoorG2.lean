/-
  An argument that is eight words, opened.
-/
import Derived.Test.YtpleamahaogfiaaDoorG
namespace Go.Proofs.YtpleamahaogfiaaDoor
open Go.ChangeShapes Go.WideShapes Go.ChangeAt Go.RowKit

theorem wf_u32 {x : Int} (h : (Lit.int .u32 x).wf = true) : 0 ≤ x ∧ x < 4294967296 := by
  have := bounds_u32 h
  omega
theorem arg_words {H : Type} {enc : TypeId × Value → H} {W : World} {base : Nat} {sp : Nat → Bool} {held : Bool} {r : Reach} {b0 : Nat} {v : Value} {d : DataW H} {ps : List MemPlace} (hval : Value.okWide Tryd.prog W r b0 23 v) (hd : DataW.Trod enc Tryd.prog W base sp held 23 v d ps) :
    ∃ s : St, v = .agg (cellsU32 s.list).toArray ∧ s.ok ∧ True := by
  obtain ⟨l, hv, hl, hw⟩ := arg_ints Tryd.underlying23 Tryd.underlying22 (by kernel_rfl) (by kernel_rfl) hval hd
  match l, hl, hv, hw with
  | [a, b, c, d, e, f, g, h], _, hv, hw =>
    refine ⟨⟨a, b, c, d, e, f, g, h⟩, hv, ⟨wf_u32 (hw a (by simp)), wf_u32 (hw b (by simp)), wf_u32 (hw c (by simp)), wf_u32 (hw d (by simp)), wf_u32 (hw e (by simp)), wf_u32 (hw f (by simp)), wf_u32 (hw g (by simp)), wf_u32 (hw h (by simp))⟩, trivial⟩
end Go.Proofs.YtpleamahaogfiaaDoor
