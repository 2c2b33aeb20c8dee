/-
  Slots held against themselves; the document's Same.
-/
import Derived.Test.YthkaohkondkhgaaDoorI11
namespace Go.Proofs.YthkaohkondkhgaaDoor
open Go.RowKit

theorem oeqF_cons {P : Program} {w : World} {d : Nat} {X Y : Array Value} {f : Field} {fs : List Field} {x y : Value} {b : Bool} {R : Bool} (hn : (f.name == "_") = false) (hx : (part f.type X f.offset).run P w = .ok x w) (hy : (part f.type Y f.offset).run P w = .ok y w) (he : (Op.equalIn d f.type x y).run P w = .ok b w) (h : (Op.eqFields d X Y fs).run P w = .ok R w) :
    (Op.eqFields d X Y (f :: fs)).run P w = .ok (b && R) w := by
  have m : f.name ≠ "_" := by simpa using hn
  rw [Op.eqFields, if_pos m, Sem.run_bind, hx, Result.andThen_ok, Sem.run_bind, hy, Result.andThen_ok, Sem.run_bind, he, Result.andThen_ok]
  cases b
  · simp
  · simpa using h
theorem run_eqItems_sameE {P : Program} (w : World) (d : Nat) (e : TypeId) (q : IntKind) (hu : P.underlying e = some (.int q)) (hpk : P.plainKey e = true) (xs : List Int) :
    ∀ (is : List Nat), (∀ i ∈ is, i < xs.length) → (Op.eqItems (d + 1) e 1 (cellsK q xs).toArray (cellsK q xs).toArray is).run P w = .ok true w
  | [], _ => by simp [Op.eqItems]
  | i :: is, h => by
    have h1 := h i (by simp)
    have hp := run_part_plain (P := P) (w := w) hpk (show (cellsK q xs).toArray[i * 1]? = _ by rw [Nat.mul_one]; exact cellsK_at q xs i h1)
    have he := run_equalIn_int (P := P) w d e q q (xs.getD i 0) (xs.getD i 0) hu
    have ih := run_eqItems_sameE w d e q hu hpk xs is (fun j hj => h j (by simp [hj]))
    simp only [Op.eqItems, Sem.run_bind, hp, he, Result.andThen_ok]
    simp only [BEq.rfl, Bool.not_true, Bool.false_eq_true, if_false]
    exact ih
theorem eq_idE (w : World) (d : Nat) {xs : List Int} (hx : xs.length = 32) : (Op.equalIn (d + 2) 39 (.agg (cellsK .u8 xs).toArray) (.agg (cellsK .u8 xs).toArray)).run Tryd.prog w = .ok true w := by
  obtain ⟨i, _, hi, _⟩ := info8
  have hce : Tryd.prog.cellsOf 5 = 1 := by kernel_rfl
  have h := run_eqItems_sameE (P := Tryd.prog) w d 5 .u8 Tryd.underlying5 (by kernel_rfl) xs (List.range 32) (fun i hi => by have := List.mem_range.1 hi; omega)
  rw [show d + 2 = (d + 1) + 1 from rfl, run_equalIn_array (P := Tryd.prog) w (d + 1) _ _ Tryd.underlying39 hi, hce, h]
set_option maxRecDepth 100000 in
theorem agg_idE (w : World) : (isAgg 39).run Tryd.prog w = .ok true w := by kernel_rfl
set_option maxRecDepth 100000 in
theorem size_idE (w : World) : (Go.sizeOf 39).run Tryd.prog w = .ok 32 w := by kernel_rfl
set_option maxRecDepth 100000 in
theorem pk_int : Tryd.prog.plainKey 3 = true := by kernel_rfl
set_option maxRecDepth 100000 in
theorem pk_str : Tryd.prog.plainKey 9 = true := by kernel_rfl
theorem oeqF_same {P : Program} {w : World} {d : Nat} {X : Array Value} : ∀ (fs : List Field) (L : List (Bool × Nat × Nat)), fs.map (fun f => (f.name == "_", f.type, f.offset)) = L →
    (∀ q ∈ L, q.1 = false ∧ ∃ x, (part q.2.1 X q.2.2).run P w = .ok x w ∧ (Op.equalIn d q.2.1 x x).run P w = .ok true w) → (Op.eqFields d X X fs).run P w = .ok true w
  | [], _, _, _ => by simp [Op.eqFields]
  | f :: fs, L, hm, h => by
    subst hm
    obtain ⟨h1, x, h2, h3⟩ := h _ (List.mem_cons_self)
    exact oeqF_cons h1 h2 h2 h3 (oeqF_same fs _ rfl fun q hq => h q (List.mem_cons_of_mem _ hq))
theorem exec_eqlE {P : Program} (t : TypeId) (hg : P.eqGuardType P.depth t = false) {a : Act} {o : Oper} {x y : Operand} {t' : TypeId} (ho : o.op = .binOp .eql t x y t') {X Y : Array Value} (hx : a.eval x = .agg X) (hy : a.eval y = .agg Y) {q : Bool} {W : World} (hE : (Op.equalIn 10000 t (.agg X) (.agg Y)).run P W = .ok q W) : (execOp a.eval o).run P W = .ok (.value (.bool q)) W := by
  unfold execOp
  rw [ho]
  simp only [hx, hy, Sem.run_bind, run_eqGuard_agg W .eql t x y X Y hg, Result.andThen_ok, run_eql_struct W t X Y, hE, Sem.run_pure]
theorem wp_exec {P : Program} {op : Oper} {a : Act} {w : World} {K : Act → World → Prop} {Q : Exit → Act → World → Prop} {v : Value} (h : (execOp a.eval op).run P w = .ok (.value v) w) (hk : K (a.put op.dst v) w) : op.wp P a w K Q := by
  unfold Oper.wp
  rw [h]
  exact hk
theorem exec_neqE {P : Program} (t : TypeId) (hg : P.eqGuardType P.depth t = false) {a : Act} {o : Oper} {x y : Operand} {t' : TypeId} (ho : o.op = .binOp .neq t x y t') {X Y : Array Value} (hx : a.eval x = .agg X) (hy : a.eval y = .agg Y) {q : Bool} {W : World} (hE : (Op.equalIn 10000 t (.agg X) (.agg Y)).run P W = .ok q W) : (execOp a.eval o).run P W = .ok (.value (.bool (!q))) W := by
  unfold execOp
  rw [ho]
  simp only [hx, hy, Sem.run_bind, run_eqGuard_agg W .neq t x y X Y hg, Result.andThen_ok, run_neq_struct W t X Y, hE, Sem.run_pure]
theorem part_idZ (w : World) {r : SlC} (hr : r.ok) : (part 39 r.l.toArray 3).run Tryd.prog w = .ok (.agg (cellsK .u8 r.ids).toArray) w := by
  unfold part
  simp only [Sem.run_bind, agg_idE, Result.andThen_ok, if_true, size_idE, Sem.run_pure]
  congr 2
  rw [List.extract_toArray, List.extract_eq_take_drop]
  unfold SlC.l
  rw [show List.drop 3 (Value.string r.pt :: Value.int .i64 r.st :: Value.int .i64 r.md :: (cellsK .u8 r.ids ++ [Value.int .i64 r.sz, Value.int .i64 r.tm])) = cellsK .u8 r.ids ++ [Value.int .i64 r.sz, Value.int .i64 r.tm] from rfl, List.take_append_of_le_length (by rw [cellsK_length, hr.1]; omega), List.take_of_length_le (by rw [cellsK_length, hr.1]; omega)]
set_option maxRecDepth 100000 in
theorem fsZ : Tryd.prog.underlying 41 = some (.struct (Tryd.prog.fieldsOf 41)) ∧ Tryd.prog.stoodInHeld 41 = false ∧ (Tryd.prog.fieldsOf 41).toList.map (fun f => (f.name == "_", f.type, f.offset)) = [(false, 9, 0), (false, 3, 1), (false, 3, 2), (false, 39, 3), (false, 3, 35), (false, 3, 36)] := ⟨by kernel_rfl, by kernel_rfl, by kernel_rfl⟩
theorem same_int (w : World) (d : Nat) (x : Int) : (Op.equalIn (d + 1) 3 (.int .i64 x) (.int .i64 x)).run Tryd.prog w = .ok true w := by
  have := run_equalIn_int (P := Tryd.prog) w d 3 .i64 .i64 x x Tryd.underlying3
  simpa using this
theorem same_str (w : World) (d : Nat) (x : ByteArray) : (Op.equalIn (d + 1) 9 (.string x) (.string x)).run Tryd.prog w = .ok true w := by
  have := run_equalIn_string (P := Tryd.prog) w d 9 x x Tryd.underlying9
  simpa using this
theorem eq_slot (w : World) (d : Nat) {r : SlC} (hr : r.ok) : (Op.equalIn (d + 3) 41 (.agg r.l.toArray) (.agg r.l.toArray)).run Tryd.prog w = .ok true w := by
  obtain ⟨h1, h2, h3⟩ := fsZ
  have h := run_equalIn_struct (P := Tryd.prog) w (d + 2) 41 r.l.toArray r.l.toArray h1 h2
  rw [h]
  refine oeqF_same _ _ h3 fun q hq => ?_
  simp only [List.mem_cons, List.not_mem_nil, or_false] at hq
  rcases hq with rfl | rfl | rfl | rfl | rfl | rfl
  · exact ⟨rfl, _, run_part_plain (P := Tryd.prog) (w := w) pk_str (by rw [List.getElem?_toArray]; exact r.c0), same_str w (d + 1) r.pt⟩
  · exact ⟨rfl, _, run_part_plain (P := Tryd.prog) (w := w) pk_int (by rw [List.getElem?_toArray]; exact r.c1), same_int w (d + 1) r.st⟩
  · exact ⟨rfl, _, run_part_plain (P := Tryd.prog) (w := w) pk_int (by rw [List.getElem?_toArray]; exact r.c2), same_int w (d + 1) r.md⟩
  · exact ⟨rfl, _, part_idZ w hr, eq_idE w d hr.1⟩
  · exact ⟨rfl, _, run_part_plain (P := Tryd.prog) (w := w) pk_int (by rw [List.getElem?_toArray]; exact SlC.c35 hr), same_int w (d + 1) r.sz⟩
  · exact ⟨rfl, _, run_part_plain (P := Tryd.prog) (w := w) pk_int (by rw [List.getElem?_toArray]; exact SlC.c36 hr), same_int w (d + 1) r.tm⟩
set_option maxHeartbeats 2000000 in
set_option maxRecDepth 100000 in
theorem sameZ_any (v u : Value) (es : List SlC) (w : World) (hr : RdZ w v es) (hs : RdZ w u es) (hl : es.length ≤ 1048576) :
    Calls Tryd.prog 17 #[v, u] w fun e w' => e = .returned (.bool true) ∧ Below w.heap.size w w' := by
  obtain ⟨a, c, rfl, hlc, hok, hrd⟩ := hr
  obtain ⟨a2, c2, rfl, hlc2, hok2, hrd2⟩ := hs
  have KR := Kept.mk hrd
  have KK := Kept.mk hok
  have KR2 := Kept.mk hrd2
  clear hrd hok hrd2 hok2
  go_enter Tryd.func17, Tryd.ntmps17
  go_wp2
  go_loopw [13] (fun iv wr => ∃ k : Nat, k ≤ es.length ∧ iv = .int .i64 k ∧ Below w.heap.size w wr) (fun iv _ => es.length - (intOf iv).toNat)
  case atStart => exact ⟨0, Nat.zero_le _, rfl, Below.refl _ _⟩
  case round =>
    obtain ⟨k, hk, rfl, hbel⟩ := hrel
    have KBr := Kept.mk hbel
    by_cases hlt : k < es.length
    · have hki : (k : Int) < (es.length : Int) := by omega
      obtain ⟨b, off, rfl, hbl, hrg⟩ := KR.out (by omega)
      obtain ⟨b2, off2, rfl, hbl2, hrg2⟩ := KR2.out (by omega)
      have hbr : b < wr.heap.size := Nat.lt_of_lt_of_le hbl hbel.size
      have hbr2 : b2 < wr.heap.size := Nat.lt_of_lt_of_le hbl2 hbel.size
      have hR1 : Kept (∀ W, CC wr W → W.rangeAt b (off + k * 37) (es[k]'hlt).l) := ⟨fun W hW j u hu => by
        rw [hW.cell (p := ⟨b, off + k * 37 + j, none⟩) hbr, hbel.cell (p := ⟨b, off + k * 37 + j, none⟩) hbl]
        exact hrg k hlt j u hu⟩
      have hR2 : Kept (∀ W, CC wr W → W.rangeAt b2 (off2 + k * 37) (es[k]'hlt).l) := ⟨fun W hW j u hu => by
        rw [hW.cell (p := ⟨b2, off2 + k * 37 + j, none⟩) hbr2, hbel.cell (p := ⟨b2, off2 + k * 37 + j, none⟩) hbl2]
        exact hrg2 k hlt j u hu⟩
      have hoA := KK.out _ (List.getElem_mem hlt)
      have KEq : Kept (∀ W, (Op.equalIn 10000 41 (.agg (es[k]'hlt).l.toArray) (.agg (es[k]'hlt).l.toArray)).run Tryd.prog W = .ok true W) := ⟨fun W => eq_slot W 9997 hoA⟩
      have KI1 : Kept ((Tryd.prog.info? 41).map (·.size) = some (es[k]'hlt).l.length) := ⟨SlC.info hoA⟩
      clear hbel hrg hrg2 hoA
      have e3 : IntKind.i64.wrap ((k : Int) + 1) = (k : Int) + 1 := wr64 (by omega) (by omega)
      generalize (es[k]'hlt).l = LA at *
      clear hbr hbl hbr2 hbl2
      go_upto_region 6 with fail
      refine wp_region_quietC (C := CC wr) (by kernel_rfl) (by kernel_rfl) (Below.refl _ _).drew ?_
      go_big_quiet_step ((intro _; rfl))
      go_big_quiet_step ((intro _; rfl))
      refine BigFrame.wpQuiet_want rfl (fun K hK => quiet_run (v := .pointer (some ⟨b, off + k * 37, none⟩)) (fun W hW => by go_simp; all_goals first | rfl | (intro hneg; exfalso; omega)) (hK _ ?_))
      clear hK K
      simp only [Act.put, List.setIfInBounds_toArray, List.set_cons_zero, List.set_cons_succ]
      refine BigFrame.wpQuiet_want rfl (fun K hK => quiet_load_mid 41 _ rfl b (off + k * 37) rfl LA _ hR1.out Tryd.underlying41 rfl KI1.out (hK _ ?_))
      clear hK K
      simp only [Act.put, List.setIfInBounds_toArray, List.set_cons_zero, List.set_cons_succ]
      go_big_quiet_step ((intro _; rfl))
      go_big_quiet_step ((intro _; rfl))
      refine BigFrame.wpQuiet_want rfl (fun K hK => quiet_run (v := .pointer (some ⟨b2, off2 + k * 37, none⟩)) (fun W hW => by go_simp; all_goals first | rfl | (intro hneg; exfalso; omega)) (hK _ ?_))
      clear hK K
      simp only [Act.put, List.setIfInBounds_toArray, List.set_cons_zero, List.set_cons_succ]
      refine BigFrame.wpQuiet_want rfl (fun K hK => quiet_load_mid 41 _ rfl b2 (off2 + k * 37) rfl LA _ hR2.out Tryd.underlying41 rfl KI1.out (hK _ ?_))
      clear hK K
      simp only [Act.put, List.setIfInBounds_toArray, List.set_cons_zero, List.set_cons_succ]
      refine BigFrame.wpQuiet_want rfl (fun K hK => quiet_run (v := .bool false) (fun W hW => exec_neqE 41 Tryd.eqGuardType41 rfl rfl rfl (KEq.out W)) (hK _ ?_))
      clear hK K
      simp only [Act.put, List.setIfInBounds_toArray, List.set_cons_zero, List.set_cons_succ]
      refine wpQuiet_nil ?_
      intro w3 hw3
      have KB3 := Kept.mk (KBr.out.trans (Below.mono hw3 KBr.out.size))
      clear hw3
      go_wp2
      go_roundw
      case rel => exact ⟨k + 1, by omega, by go_num, KB3.out⟩
      case measure => simp [intOf]; omega
    · have hki : ¬ (k : Int) < (es.length : Int) := by omega
      clear hbel
      go_wp2
      go_ret
      exact ⟨rfl, KBr.out⟩
end Go.Proofs.YthkaohkondkhgaaDoor
