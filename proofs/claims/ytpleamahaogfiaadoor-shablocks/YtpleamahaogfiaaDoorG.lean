/-
  An argument that is an array of integers, opened.
-/
import Derived.Test.YtpleamahaogfiaaDoorF
import Derived.WideKeyArr2
namespace Go.Proofs.YtpleamahaogfiaaDoor
open Go.ChangeShapes Go.WideShapes Go.ChangeAt Go.RowKit

theorem arg_ints {H : Type} {enc : TypeId × Value → H} {P : Program} {W : World} {base : Nat} {sp : Nat → Bool} {held : Bool} {k e : TypeId} {n : Nat} {q : IntKind} (hu : P.underlying k = some (.array n e)) (he : P.underlying e = some (.int q)) (hce : P.cellsOf e = 1) (hck : P.cellsOf k = n)
    {r : Reach} {b0 : Nat} {v : Value} {d : DataW H} {ps : List MemPlace} (hval : Value.okWide P W r b0 k v) (hd : DataW.Trod enc P W base sp held k v d ps) :
    ∃ l : List Int, v = .agg (l.map (Value.int q)).toArray ∧ l.length = n ∧ ∀ x ∈ l, (Lit.int q x).wf = true := by
  simp only [Value.okWide, hu] at hval
  obtain ⟨xs, rfl, hxs, _⟩ := hval
  rw [hck] at hxs
  obtain ⟨fuel, hf⟩ := hd
  cases fuel with
  | zero => simp [DataW.trod] at hf
  | succ m =>
    rw [DataW.trod_step] at hf
    unfold DataW.trodStep at hf
    simp only [hu, Value.cells, hce, hck, Nat.mul_one] at hf
    rw [if_pos (by simpa using hxs)] at hf
    simp only [Option.map_eq_some_iff] at hf
    obtain ⟨ys, hy, _⟩ := hf
    have hat : ∀ i, i < n → ∃ a, xs.toList[i]? = some (.int q a) ∧ (Lit.int q a).wf = true := fun i hi => by
      obtain ⟨y, _, hb⟩ := Lib.mapM_at hy i i (List.getElem?_range hi)
      obtain ⟨a, ea, _, wa⟩ := DataW.trod_int he hb
      refine ⟨a, ?_, wa⟩
      have := congrArg (fun l => l[0]?) ea
      simpa using this
    have hlen : xs.toList.length = n := by simpa using hxs
    refine ⟨xs.toList.map intOf, ?_, by simpa using hxs, fun x hx => ?_⟩
    · congr 1
      apply Array.toList_inj.1
      rw [List.map_map]
      apply List.ext_getElem?
      intro i
      rcases Nat.lt_or_ge i n with h | h
      · obtain ⟨a, ha, _⟩ := hat i h
        simp only [List.getElem?_map, ha, Option.map_some]
        rfl
      · simp [List.getElem?_eq_none (show xs.toList.length ≤ i by omega)]
    · obtain ⟨y, hy, rfl⟩ := List.mem_map.1 hx
      obtain ⟨i, hi, rfl⟩ := List.getElem_of_mem hy
      obtain ⟨a, ha, wa⟩ := hat i (by omega)
      rw [List.getElem?_eq_getElem hi] at ha
      have e := Option.some.inj ha
      rw [e]
      exact wa

theorem arg_id {H : Type} {enc : TypeId × Value → H} {W : World} {base : Nat} {sp : Nat → Bool} {held : Bool} {r : Reach} {b0 : Nat} {v : Value} {d : DataW H} {ps : List MemPlace} (hval : Value.okWide Tryd.prog W r b0 32 v) (hd : DataW.Trod enc Tryd.prog W base sp held 32 v d ps) :
    ∃ l : List Int, v = .agg (cellsU8 l).toArray ∧ l.length = 32 ∧ AllB l := by
  obtain ⟨l, hv, hl, hw⟩ := arg_ints Tryd.underlying32 Tryd.underlying5 (by kernel_rfl) (by kernel_rfl) hval hd
  exact ⟨l, hv, hl, fun x hx => by have := bounds_u8 (hw x hx); omega⟩
theorem arg_block {H : Type} {enc : TypeId × Value → H} {W : World} {base : Nat} {sp : Nat → Bool} {held : Bool} {r : Reach} {b0 : Nat} {v : Value} {d : DataW H} {ps : List MemPlace} (hval : Value.okWide Tryd.prog W r b0 24 v) (hd : DataW.Trod enc Tryd.prog W base sp held 24 v d ps) :
    ∃ l : List Int, v = .agg (cellsU8 l).toArray ∧ l.length = 64 ∧ AllB l := by
  obtain ⟨l, hv, hl, hw⟩ := arg_ints Tryd.underlying24 Tryd.underlying5 (by kernel_rfl) (by kernel_rfl) hval hd
  exact ⟨l, hv, hl, fun x hx => by have := bounds_u8 (hw x hx); omega⟩
end Go.Proofs.YtpleamahaogfiaaDoor
