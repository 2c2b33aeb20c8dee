/-
  append of noughts (append(e, make([]byte, n)...)), append of a text.
-/
import Derived.Test.YthkaohkondkhgaaDoorI8
import Derived.Laws.CopyRow
namespace Go.Proofs.YthkaohkondkhgaaDoor
open Go.RowKit

set_option maxRecDepth 100000 in
theorem info8w : ∃ i, Tryd.prog.info? 5 = some i ∧ i.zero = some (.int .u8 0) ∧ i.size = 1 ∧ i.bytes = 1 := ⟨_, rfl, rfl, rfl, rfl⟩
theorem zeroCells_rz (n : Nat) : Builtin.zeroCells (Value.int .u8 0).cells n = (cellsK .u8 (rz n)).toArray := by
  apply Array.ext'
  unfold Builtin.zeroCells cellsK rz
  simp only [Value.cells, Array.toList_map, Array.toList_range]
  apply List.ext_getElem
  · simp
  · intro j h1 h2
    simp [Nat.mod_one]
set_option maxHeartbeats 1000000 in
set_option maxRecDepth 100000 in
theorem run_append_rz (w : World) (base : Nat) (ty : TypeId) (v : Value) (xs : List Int) (hown : Own .u8 5 w base v xs) (h0 : 0 < xs.length) (n : Nat) (hn : 0 < n) (hb : xs.length + n ≤ 1000000) (hbase : base ≤ w.heap.size) :
    ∃ v' w', (Builtin.append_ #[25, 3] ty #[v, .int .i64 n]).run Tryd.prog w = .ok v' w' ∧ Own .u8 5 w' base v' (xs ++ rz n) ∧ w.grownBy w' v.ownBlock := by
  obtain ⟨i, hi, hz, hs, hby⟩ := info8w
  have hwr : IntKind.i64.wrap (n : Int) = (n : Int) := wr64 (by omega) (by omega)
  have hai : ∀ W : World, (asInt (.int .i64 (n : Int))).run Tryd.prog W = .ok (n : Int) W := fun W => rfl
  have hneg : ¬ ((n : Int) < 0) := by omega
  have hbig : ¬ ((281474976710656 : Int) < (n : Int)) := by omega
  have hn0 : ¬ n = 0 := by omega
  have hrl : (rz n).length = n := List.length_replicate
  rcases hown.2 with ⟨_, hl⟩ | ⟨g, cap, cur, rfl, hbg, hg, hnc, hcm, hcs, htake⟩
  · omega
  · by_cases hroom : xs.length + n ≤ cap
    · have hst := run_storeCells_at (P := Tryd.prog) g xs.length 5 (cellsK .u8 (rz n)) 0 cur w hg (by rw [cellsK_length, hrl, hcs]; omega) (cellsK_one _ _)
      rw [Nat.add_zero, cellsK_length, hrl] at hst
      refine ⟨.slice (some ⟨g, 0, none⟩) (xs.length + n) cap, w.setRow g (cur.toList.take xs.length ++ cellsK .u8 (rz n) ++ cur.toList.drop (xs.length + n)).toArray, ?_, ?_, ?_⟩
      · simp [Builtin.append_, run_underlying Tryd.underlying25, run_underlying Tryd.underlying3, sizeOf, typeInfo, zeroValue, hi, hz, hs, hby, hai, hwr, hneg, hbig, hn0, hroom, zeroCells_rz, add_plain, hst]
      · have hl2 : (cellsK .u8 (xs ++ rz n)).length = xs.length + n := by rw [cellsK_length, List.length_append, hrl]
        have htk : cur.toList.take xs.length = cellsK .u8 xs := by simpa using htake
        refine ⟨by rw [hl2, List.length_append, hrl, Nat.mul_one], .inr ⟨g, cap, _, by rw [List.length_append, hrl], hbg, setRow_heap w g _ _ _ _ hg, by rw [List.length_append, hrl]; exact hroom, hcm, ?_, ?_⟩⟩
        · simp [cellsK_length, hrl, hcs]
          omega
        · rw [htk]
          simp only [Nat.mul_one, List.length_append, hrl]
          rw [← cellsK_append, List.take_append_of_le_length (by rw [hl2]; omega), List.take_of_length_le (by rw [hl2]; omega)]
      · exact ⟨rfl, rfl, rfl, by simp [World.setRow], fun k hk hne => setRow_other w g k _ (fun e => hne (by simp [Value.ownBlock, e]))⟩
    · have holds : ∀ j u, (cellsK .u8 xs)[j]? = some u → w.drew.cell? ((⟨g, 0, none⟩ : Addr).add j) = some u := fun j u hj => by
        have := World.ownsRow.cells hown (g := g) rfl j u hj
        simpa using this
      have hfo := run_firstCells_some (P := Tryd.prog) w.drew 1 xs.length ⟨g, 0, none⟩ xs.length cap (cellsK .u8 xs) (by rw [cellsK_length, Nat.mul_one]) holds
      have h63 : ¬ (9223372036854775807 < ((xs.length : Int) + (n : Int))) := by omega
      have h48 : ¬ (281474976710656 < Builtin.nextslicecap (xs.length + n) cap) := by
        have := growslice_fits (need := xs.length + n) (old := cap) (bytes := 1) (by omega) (by omega)
        omega
      have hge := grownCap_ge w (xs.length + n) cap 5
      have hcm2 : grownCap w (xs.length + n) cap 5 ≤ maxLen := grownCap_le_maxLen w (xs.length + n) cap 5 (by unfold maxLen; omega)
      refine ⟨.slice (some ⟨w.heap.size, 0, none⟩) (xs.length + n) (grownCap w (xs.length + n) cap 5), w.drew.alloc (.cells ((cellsK .u8 xs).toArray ++ (cellsK .u8 (rz n)).toArray ++ (cellsK .u8 (rz (grownCap w (xs.length + n) cap 5 - (xs.length + n)))).toArray) 5), ?_, ?_, ?_⟩
      · simp [Builtin.append_, run_underlying Tryd.underlying25, run_underlying Tryd.underlying3, sizeOf, typeInfo, zeroValue, hi, hz, hs, hby, hai, hwr, hneg, hbig, hn0, hroom, h63, h48, Question.forced, hfo, newRow, grownCap, zeroCells_rz]
      · have hl2 : (cellsK .u8 (xs ++ rz n)).length = xs.length + n := by rw [cellsK_length, List.length_append, hrl]
        refine ⟨by rw [hl2, List.length_append, hrl, Nat.mul_one], .inr ⟨w.heap.size, _, _, by rw [List.length_append, hrl], hbase, heap_alloc_new w.drew _, by rw [List.length_append, hrl]; exact hge, hcm2, ?_, ?_⟩⟩
        · simp [cellsK_length, rz]
          omega
        · simp only [Array.toList_append, Nat.mul_one, List.length_append, hrl]
          rw [← cellsK_append, List.take_append_of_le_length (by rw [hl2]; omega), List.take_of_length_le (by rw [hl2]; omega)]
      · exact ⟨rfl, rfl, rfl, by simp, fun k hk _ => heap_alloc_old w.drew _ hk⟩
theorem wpList_append_rz (w : World) {ops : Array Oper} {rest : List Oper} {o : Oper} {a : Act} {Q : Exit → Act → World → Prop} (hgd : o.guard = none) (sl x : Operand)
    (ho : o.op = .call { callee := .builtin .append, args := #[sl, x], argTypes := #[25, 3] })
    (base : Nat) (v : Value) (xs : List Int) (hs : a.eval sl = v) (hown : Own .u8 5 w base v xs) (h0 : 0 < xs.length) (n : Nat) (hx : a.eval x = .int .i64 n) (hn : 0 < n)
    (hb : xs.length + n ≤ 1000000) (hbase : base ≤ w.heap.size)
    (h : ∀ v' w', Own .u8 5 w' base v' (xs ++ rz n) → w.grownBy w' v.ownBlock → wpList Tryd.prog ops Q rest (a.put o.dst v') w') : wpList Tryd.prog ops Q (o :: rest) a w := by
  refine wpList_plain hgd fun K hK => ?_
  obtain ⟨v', w', hr, h2, h3⟩ := run_append_rz w base o.type v xs hown h0 n hn hb hbase
  unfold Oper.wp execOp
  simp only [ho, resolve, invoke, builtin, Sem.run_bind, Sem.run_pure, Result.andThen_ok, List.map_toArray, List.map_cons, List.map_nil, hs, hx, hr]
  exact hK _ _ (h v' w' h2 h3)
theorem cells_ptB (s : ByteArray) : cellsK .u8 (ptB s) = Lib.strCells s := by
  unfold cellsK ptB Lib.strCells
  rw [List.map_map]
  rfl
theorem wpList_append_s (w : World) {ops : Array Oper} {rest : List Oper} {o : Oper} {a : Act} {Q : Exit → Act → World → Prop} (hgd : o.guard = none) (sl x : Operand)
    (ho : o.op = .call { callee := .builtin .append, args := #[sl, x], argTypes := #[25, 9] })
    (base : Nat) (v : Value) (xs : List Int) (hs : a.eval sl = v) (hown : Own .u8 5 w base v xs) (s : ByteArray) (hx : a.eval x = .string s)
    (hbytes : xs.length + s.size ≤ 140737488355328) (hbase : base ≤ w.heap.size)
    (h : ∀ v' w', Own .u8 5 w' base v' (xs ++ ptB s) → w.grownBy w' v.ownBlock → wpList Tryd.prog ops Q rest (a.put o.dst v') w') : wpList Tryd.prog ops Q (o :: rest) a w := by
  obtain ⟨i, hi, hz, hsz, hb⟩ := info8w
  refine Lib.wpList_append_own_string w hgd sl x 25 9 ho base 5 i Tryd.underlying25 Tryd.underlying9 hi hz hsz hb v xs.length (cellsK .u8 xs) hs hown s hx (by unfold maxLen; omega) hbytes hbase (fun v' w' h1 h2 _ => h v' w' ?_ h2)
  unfold Own
  rw [List.length_append, ptB_length, cellsK_append, cells_ptB]
  exact h1
end Go.Proofs.YthkaohkondkhgaaDoor
