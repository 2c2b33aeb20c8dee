/-
  What the rows' frames share: an argument that is an entry, an ident, opened.
-/
import Derived.Test.YtbagkmhhgngbcaaDoorN11
import Derived.Test.YtbagkmhhgngbcaaDoorN12
import Derived.Test.YtbagkmhhgngbcaaDoorCards
import Derived.ProofKit
import Derived.OpenShut
import Derived.ShutString
import Derived.ChangeOld
import Derived.Below
import Derived.SizedLaws
namespace Go.Proofs.YtbagkmhhgngbcaaDoor
open Go.ChangeShapes Go.WideShapes Go.ChangeAt Go.RowKit

theorem own : ownKnob Tryd.prog.godebug = none := by kernel_rfl
theorem laidOut : laidOutB Tryd.prog = true := by kernel_rfl
/-- An entry of zeros, for the witness. -/
def zeroE : Value := .agg ([Value.int .i64 0, Value.string { data := #[] }] ++ List.replicate 32 (Value.int .u8 0)).toArray
def zeroD {H : Type} : DataW H := .agg [.lit (.int .i64 0), .lit (.string []), .agg (List.replicate 32 (.lit (.int .u8 0)))]
theorem take_one {l : List Value} {k : Nat} {v : Value} (h : (l.drop k).take 1 = [v]) : l[k]? = some v := by
  have := congrArg (fun q => q[0]?) h
  simpa using this
set_option maxRecDepth 100000 in
theorem arg_entry {H : Type} {enc : TypeId × Value → H} {W : World} {base b0 : Nat} {sp : Nat → Bool} {held : Bool} {r : Reach} {v : Value} {d : DataW H} {ps : List MemPlace} {ts : List TypeId} {ds : List (DataW H)} {j : Nat}
    (hval : Value.okWide Tryd.prog W r b0 38 v) (hd : DataW.Trod enc Tryd.prog W base sp held 38 v d ps)
    (hsz : (DataW.weightsEach Tryd.prog ts ds).all (· ≤ reachBytes) = true) (ht : ts[j]? = some 38) (hj : ds[j]? = some d) :
    ∃ xs m nm, v = .agg xs ∧ Ent xs m nm ∧ nm.size ≤ 140737488351232 := by
  obtain ⟨xs, rfl, hx⟩ := okWide_struct Tryd.underlying38 hval
  obtain ⟨fuel, hf⟩ := hd
  obtain ⟨ys, n, -, he, hl, hy, hall⟩ := DataW.trod_struct Tryd.underlying38 hf
  match ys, hy with
  | [y0, y1, y2], _ =>
    have c1 : Tryd.prog.cellsOf 3 = 1 := by kernel_rfl
    have c2 : Tryd.prog.cellsOf 9 = 1 := by kernel_rfl
    have h0 : DataW.trod enc Tryd.prog W base sp held n 3 (((Value.agg xs).cells.toList.drop 0).take (Tryd.prog.cellsOf 3)) = some y0 := hall 0 _ rfl
    have h1 : DataW.trod enc Tryd.prog W base sp held n 9 (((Value.agg xs).cells.toList.drop 1).take (Tryd.prog.cellsOf 9)) = some y1 := hall 1 _ rfl
    rw [c1] at h0
    rw [c2] at h1
    obtain ⟨m, e0, -⟩ := DataW.trod_int Tryd.underlying3 h0
    obtain ⟨nm, e1, e1d, -⟩ := DataW.trod_string Tryd.underlying9 h1
    have hc : Tryd.prog.cellsOf 38 = 34 := by kernel_rfl
    have hd : d = .agg [y0.1, .lit (.string nm.data.toList), y2.1] := by
      have := congrArg Prod.fst he
      rw [show y1 = (.lit (.string nm.data.toList), []) from e1d] at this
      exact this
    refine ⟨xs, m, nm, rfl, ⟨hx.trans hc, ?_, ?_⟩, ?_⟩
    · have := take_one e0
      simpa [Value.cells] using this
    · have := take_one e1
      simpa [Value.cells] using this
    · have hm : nm.data.toList.length ∈ d.weights Tryd.prog 38 := by
        rw [hd]
        unfold DataW.weights
        rw [Tryd.underlying38]
        simp [DataW.weightsEach, DataW.weights]
      have := List.all_eq_true.1 hsz _ (DataW.weights_mem_each ht hj _ hm)
      have h2 : nm.data.toList.length ≤ reachBytes := by simpa using this
      simpa [reachBytes] using h2
end Go.Proofs.YtbagkmhhgngbcaaDoor
