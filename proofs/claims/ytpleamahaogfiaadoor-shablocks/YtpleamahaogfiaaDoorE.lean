/-
  Rows of numbers, held against themselves.
-/
import Derived.Test.YtpleamahaogfiaaDoorR
import Derived.DeepKeys
namespace Go.Proofs.YtpleamahaogfiaaDoor
open Go.RowKit

theorem run_eqItems_same {P : Program} (w : World) (d : Nat) (e : TypeId) (q : IntKind) (hu : P.underlying e = some (.int q)) (hpk : P.plainKey e = true) (xs : Array Value) :
    ∀ (is : List Nat), (∀ i ∈ is, ∃ n, xs[i * 1]? = some (.int q n)) → (Op.eqItems (d + 1) e 1 xs xs is).run P w = .ok true w
  | [], _ => by simp [Op.eqItems]
  | i :: is, h => by
    obtain ⟨n, hn⟩ := h i (by simp)
    have hp := run_part_plain (P := P) (w := w) hpk hn
    have he := run_equalIn_int (P := P) w d e q q n n hu
    simp only [Op.eqItems, Sem.run_bind, hp, he, Result.andThen_ok, BEq.rfl, Bool.not_true, Bool.false_eq_true, if_false]
    exact run_eqItems_same w d e q hu hpk xs is (fun j hj => h j (by simp [hj]))
theorem run_same_row {P : Program} (w : World) (t e : TypeId) (n : Nat) (q : IntKind) (i : TypeInfo) (ht : P.underlying t = some (.array n e)) (hu : P.underlying e = some (.int q)) (hpk : P.plainKey e = true) (hi : P.info? e = some i) (hce : P.cellsOf e = 1) (l : List Int) (hl : l.length = n) :
    (Op.equalIn 10000 t (.agg (l.map (Value.int q)).toArray) (.agg (l.map (Value.int q)).toArray)).run P w = .ok true w := by
  have h := run_eqItems_same (P := P) w 9998 e q hu hpk (l.map (Value.int q)).toArray (List.range n) (fun i hi => by
    have := List.mem_range.1 hi
    exact ⟨l.getD i 0, by simp [List.getD, List.getElem?_eq_getElem (show i < l.length by omega)]⟩)
  rw [show (10000 : Nat) = 9999 + 1 from rfl, run_equalIn_array (P := P) w 9999 _ _ ht hi, hce]
  exact h
theorem same_ids (w : World) (l : List Int) (hl : l.length = 32) : (Op.equalIn 10000 32 (.agg (cellsU8 l).toArray) (.agg (cellsU8 l).toArray)).run Tryd.prog w = .ok true w := by
  obtain ⟨i, _, hi, _⟩ := info5
  exact run_same_row w 32 5 32 .u8 i Tryd.underlying32 Tryd.underlying5 (by kernel_rfl) hi (by kernel_rfl) l hl
theorem same_words (w : World) (l : List Int) (hl : l.length = 8) : (Op.equalIn 10000 23 (.agg (cellsU32 l).toArray) (.agg (cellsU32 l).toArray)).run Tryd.prog w = .ok true w := by
  obtain ⟨i, hi⟩ : ∃ i, Tryd.prog.info? 22 = some i := ⟨_, rfl⟩
  exact run_same_row w 23 22 8 .u32 i Tryd.underlying23 Tryd.underlying22 (by kernel_rfl) hi (by kernel_rfl) l hl

set_option maxHeartbeats 2000000 in
set_option maxRecDepth 100000 in
theorem shaSums_walk (v : Value) (xs : List Int) (w : World) (hp : Rd w v xs) (hl : xs.length + 4096 ≤ 140737488355328) (hB : Tab w ksK) :
    Calls Tryd.prog 4 #[v] w fun e w' => e = .returned (.bool true) ∧ Below w.heap.size w w' := by
  have HB := Kept.mk hB
  have hn : 0 < w.heap.size := hB.1
  have HP := Kept.mk hp
  have hAx := hp.allB
  clear hB hp
  go_enter Tryd.func4, Tryd.ntmps4
  go_wp2_with fail
  refine Calls.mono (awake_any w HB.out) (fun e w1 hp => ?_)
  obtain ⟨rfl, BB1⟩ := hp
  have s1 := BB1.size
  go_wp2_with fail
  refine Calls.mono (twin_any v xs w1 (HP.out.later BB1 (Nat.le_refl _)) (by omega)) (fun e w2 hp => ?_)
  obtain ⟨v2, rfl, ho2, hb2⟩ := hp
  have s2 := hb2.size
  have BB2 : Below w.heap.size w w2 := BB1.trans (hb2.mono s1)
  have HR2 := Kept.mk (Rd.own ho2 hAx)
  clear hb2 ho2 BB1
  go_wp2_with fail
  refine Calls.mono (sum_any v2 xs ksK w2 HR2.out ksK_length (HB.out.far BB2 hn)) (fun e w3 hp => ?_)
  obtain ⟨rfl, hb3⟩ := hp
  have s3 := hb3.size
  have BB3 : Below w.heap.size w w3 := BB2.trans (hb3.mono (by omega))
  clear hb3 BB2 HR2
  go_wp2_with fail
  refine Calls.mono (rsum_any v xs w3 (HP.out.later BB3 (Nat.le_refl _))) (fun e w4 hp => ?_)
  obtain ⟨rfl, hb4⟩ := hp
  have BB4 : Below w.heap.size w w4 := BB3.trans (hb4.mono (by omega))
  clear hb4 BB3
  have hl32 := digF_length (sumS ksK xs).list
  generalize digF (sumS ksK xs).list = dl at *
  have hsame := same_ids w4 dl hl32
  go_wp2
  go_ret
  exact ⟨rfl, BB4⟩
end Go.Proofs.YtpleamahaogfiaaDoor
