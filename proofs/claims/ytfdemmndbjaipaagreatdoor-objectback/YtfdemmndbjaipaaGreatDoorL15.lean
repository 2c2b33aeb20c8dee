/-
  A label built of three fields; what the document's reader of tags guesses. (Pure.)
-/
import Derived.Test.YtfdemmndbjaipaaGreatDoorL11
import Derived.Test.YtfdemmndbjaipaaGreatDoorL13
import Derived.Test.YtfdemmndbjaipaaGreatDoorShD3
import Derived.Test.YtfdemmndbjaipaaGreatDoorO10C
import Derived.Test.YtfdemmndbjaipaaGreatDoorO14
namespace Go.Proofs.YtfdemmndbjaipaaGreatDoor
open Go.RowKit

set_option maxRecDepth 100000 in
theorem builtL (X Y Z : Value) : Tryz.prog.built 32 [(1, X), (2, Y), (4, Z)] = Instr.fill ((#[(0, 32), (32, 1), (33, 1), (34, 4), (38, 1)] : Array (Nat × Nat))[·]?) lb0.l.toArray [(1, X), (2, Y), (4, Z)] := by kernel_rfl
theorem z32N_len : (cellsK .u8 z32N).length = 32 := by rw [cellsK_length]; simp [z32N]
theorem fillL_three (k : Int) (nm ms : ByteArray) : Instr.fill ((#[(0, 32), (32, 1), (33, 1), (34, 4), (38, 1)] : Array (Nat × Nat))[·]?) lb0.l.toArray [(1, .int .i64 k), (2, .string nm), (4, .string ms)] = some (LbC.l ⟨z32N, k, nm, idt0, ms⟩).toArray := by
  have e0 : lb0.l = cellsK .u8 z32N ++ [Value.int .i64 0] ++ [.string ⟨#[]⟩, .string ⟨#[]⟩, .string ⟨#[]⟩, .int .i64 0, .int .i64 0, .string ⟨#[]⟩] := by
    unfold LbC.l LbC.tl lb0 idt0
    simp
  rw [e0, fillE_cons _ 1 _ _ (cellsK .u8 z32N) [Value.int .i64 0] _ [Value.int .i64 k] (by rw [z32N_len]; rfl) rfl rfl]
  have e1 : cellsK .u8 z32N ++ [Value.int .i64 k] ++ [.string ⟨#[]⟩, .string ⟨#[]⟩, .string ⟨#[]⟩, .int .i64 0, .int .i64 0, .string ⟨#[]⟩] = (cellsK .u8 z32N ++ [Value.int .i64 k]) ++ [.string ⟨#[]⟩] ++ [.string ⟨#[]⟩, .string ⟨#[]⟩, .int .i64 0, .int .i64 0, .string ⟨#[]⟩] := by simp
  rw [e1, fillE_cons _ 2 _ _ (cellsK .u8 z32N ++ [Value.int .i64 k]) [.string ⟨#[]⟩] _ [Value.string nm] (by rw [List.length_append, z32N_len]; rfl) rfl rfl]
  have e2 : cellsK .u8 z32N ++ [Value.int .i64 k] ++ [.string nm] ++ [.string ⟨#[]⟩, .string ⟨#[]⟩, .int .i64 0, .int .i64 0, .string ⟨#[]⟩] = (cellsK .u8 z32N ++ [Value.int .i64 k, .string nm, .string ⟨#[]⟩, .string ⟨#[]⟩, .int .i64 0, .int .i64 0]) ++ [.string ⟨#[]⟩] ++ [] := by simp
  rw [e2, fillE_cons _ 4 _ _ (cellsK .u8 z32N ++ [Value.int .i64 k, .string nm, .string ⟨#[]⟩, .string ⟨#[]⟩, .int .i64 0, .int .i64 0]) [.string ⟨#[]⟩] [] [Value.string ms] (by rw [List.length_append, z32N_len]; rfl) rfl rfl]
  unfold Instr.fill LbC.l LbC.tl idt0
  simp
theorem yieldsIf_buildL {ops : Array Oper} {S : World → Prop} {op : Oper} {a : Act} (hw : Region.wanted op (yielded ops a.tmps) = true) (o1 o2 o3 : Operand) (ho : op.op = .build 32 #[(1, o1), (2, o2), (4, o3)])
    (k : Int) (nm ms : ByteArray) (h1 : a.eval o1 = .int .i64 k) (h2 : a.eval o2 = .string nm) (h3 : a.eval o3 = .string ms) : YieldsIf Tryz.prog ops S op (.agg (LbC.l ⟨z32N, k, nm, idt0, ms⟩).toArray) a :=
  .inl ⟨hw, fun w _ => by
    have hb : Tryz.prog.built 32 [(1, Value.int .i64 k), (2, Value.string nm), (4, Value.string ms)] = some (LbC.l ⟨z32N, k, nm, idt0, ms⟩).toArray := by
      rw [builtL]
      exact fillL_three k nm ms
    have hr := run_build (P := Tryz.prog) w 32 #[(1, Value.int .i64 k), (2, Value.string nm), (4, Value.string ms)] _ hb
    unfold execOp
    simp only [ho, Sem.run_bind, List.map_toArray, List.map_cons, List.map_nil, h1, h2, h3, hr, Result.andThen_ok, Sem.run_pure]⟩
/-- A line, or none. -/
def LnR (t word a b : List UInt8) (ok : Bool) : Prop := (ok = true ∧ LnAt t word a b) ∨ (ok = false ∧ LnNo t word)
theorem ln_force {t word a b a' b' : List UInt8} {ok : Bool} (h : LnAt t word a' b') (g : LnR t word a b ok) : ok = true ∧ a = a' ∧ b = b' := by
  rcases g with ⟨rfl, g⟩ | ⟨rfl, g⟩
  · have := ln_one g h
    exact ⟨rfl, this.1, this.2⟩
  · exact absurd h (g _ _)
theorem ln_at_size {t word a b : ByteArray} (h : LnAt t.data.toList word.data.toList a.data.toList b.data.toList) : a.size ≤ t.size ∧ b.size ≤ t.size := by
  have := congrArg List.length h.1
  simp only [List.length_append, List.length_cons, ← Lib.size_eq] at this
  omega
/-- How line ends, in one form. -/
def LnG (t word : ByteArray) (w : World) (e : Ending) (w' : World) : Prop := ∃ (a b : ByteArray) (ok : Bool), e = .returned (.tuple #[.string a, .string b, .bool ok]) ∧ LnR t.data.toList word.data.toList a.data.toList b.data.toList ok ∧ a.size ≤ t.size ∧ b.size ≤ t.size ∧ Below w.heap.size w w'
theorem tg_force {t a1 t1 a2 t2 a3 t3 a4 t4 : List UInt8} {k1 k2 k3 k4 : Bool} (h1 : LnR t wO a1 t1 k1) (h2 : LnR t1 wT a2 t2 k2) (h3 : LnR t2 wG a3 t3 k3) (h4 : LnR t3 wR a4 t4 k4)
    {c : LbC} (hc : c.ok) (h0 : teF c = 0) (he : tgU c = t) : k1 = true ∧ k2 = true ∧ k3 = true ∧ k4 = true ∧ t4 ≠ [] ∧ pcF a1 a2 a3 a4 (t4.drop 1) = c := by
  obtain ⟨g1, g2, g3, g4⟩ := tg_lines hc h0
  rw [he] at g1
  obtain ⟨e1, f1, rfl⟩ := ln_force g1 h1
  obtain ⟨e2, f2, rfl⟩ := ln_force g2 h2
  obtain ⟨e3, f3, rfl⟩ := ln_force g3 h3
  obtain ⟨e4, f4, rfl⟩ := ln_force g4 h4
  refine ⟨e1, e2, e3, e4, by simp, ?_⟩
  rw [f1, f2, f3, f4, List.drop_one, List.tail_cons]
  exact pc_back hc h0
theorem dg_none {xs : List Int} (hl : xs.length ≤ 1048576) {a1 t1 a2 t2 a3 t3 a4 t4 : List UInt8} {k1 k2 k3 k4 : Bool} (h1 : LnR (strOfNums xs).data.toList wO a1 t1 k1) (h2 : LnR t1 wT a2 t2 k2) (h3 : LnR t2 wG a3 t3 k3) (h4 : LnR t3 wR a4 t4 k4)
    (h : ¬ (k1 = true ∧ k2 = true ∧ k3 = true ∧ k4 = true ∧ t4 ≠ [])) : DgEnd xs lb0 4 :=
  .inr ⟨hl, .inr ⟨fun c hc h0 he => by
    obtain ⟨e1, e2, e3, e4, e5, -⟩ := tg_force h1 h2 h3 h4 hc h0 he
    exact h ⟨e1, e2, e3, e4, e5⟩, rfl, rfl⟩⟩
theorem dg_bad {xs : List Int} (hl : xs.length ≤ 1048576) {a1 t1 a2 t2 a3 t3 a4 t4 : List UInt8} {k1 k2 k3 k4 : Bool} (h1 : LnR (strOfNums xs).data.toList wO a1 t1 k1) (h2 : LnR t1 wT a2 t2 k2) (h3 : LnR t2 wG a3 t3 k3) (h4 : LnR t3 wR a4 t4 k4)
    (h : ¬ (teF (pcF a1 a2 a3 a4 (t4.drop 1)) = 0 ∧ tgU (pcF a1 a2 a3 a4 (t4.drop 1)) = (strOfNums xs).data.toList)) : DgEnd xs lb0 4 :=
  .inr ⟨hl, .inr ⟨fun c hc h0 he => by
    obtain ⟨-, -, -, -, -, e⟩ := tg_force h1 h2 h3 h4 hc h0 he
    rw [e] at h
    exact h ⟨h0, he⟩, rfl, rfl⟩⟩
theorem pc_ok (a b : List UInt8) {n d m : List UInt8} (hn : n.length ≤ 1048576) (hm : m.length ≤ 1048576) : (pcF a b n d m).ok :=
  mk_ok _ (parF_ok _) (parF_all _) (koF_range _) (by rw [sz_mk]; exact hn) (by rw [sz_mk]; exact hm)
theorem tgL_bytes {c : LbC} (hok : c.ok) : Sh.AllB (tgL c) := by
  rw [← tg_str c hok]
  exact strL_allB _
theorem tgL_eq {c : LbC} (hok : c.ok) {xs : List Int} (hA : Sh.AllB xs) : tgL c = xs ↔ tgU c = (strOfNums xs).data.toList := by
  constructor
  · rintro rfl
    exact (tgL_U c).symm
  · intro h
    rw [← tgL_U] at h
    have := strs_eq (tgL_bytes hok) hA
    have e : strOfNums (tgL c) = strOfNums xs := by
      apply ByteArray.ext
      apply Array.ext'
      exact h
    rw [e] at this
    simp at this
    exact this


set_option maxRecDepth 100000 in
theorem fsLb : Tryz.prog.underlying 32 = some (.struct (Tryz.prog.fieldsOf 32)) ∧ Tryz.prog.stoodInHeld 32 = false ∧ (Tryz.prog.fieldsOf 32).toList.map (fun f => (f.name == "_", f.type, f.offset)) = [(false, 24, 0), (false, 30, 32), (false, 9, 33), (false, 27, 34), (false, 9, 38)] := ⟨by kernel_rfl, by kernel_rfl, by kernel_rfl⟩
set_option maxRecDepth 100000 in
theorem pk_kind : Tryz.prog.plainKey 30 = true := by kernel_rfl
theorem same_kind (w : World) (d : Nat) (x : Int) : (Op.equalIn (d + 1) 30 (.int .i64 x) (.int .i64 x)).run Tryz.prog w = .ok true w := by
  have := run_equalIn_int (P := Tryz.prog) w d 30 .i64 .i64 x x Tryz.underlying30
  simpa using this
set_option maxRecDepth 100000 in
theorem agg_idt (w : World) : (isAgg 27).run Tryz.prog w = .ok true w := by kernel_rfl
set_option maxRecDepth 100000 in
theorem size_idt (w : World) : (Go.sizeOf 27).run Tryz.prog w = .ok 4 w := by kernel_rfl
theorem part_idL (w : World) {c : LbC} (hc : c.ok) : (part 24 c.l.toArray 0).run Tryz.prog w = .ok (.agg (cellsK .u8 c.tg).toArray) w := by
  unfold part
  simp only [Sem.run_bind, agg_idE, Result.andThen_ok, if_true, size_idE, Sem.run_pure]
  congr 2
  rw [List.extract_toArray, List.extract_eq_take_drop]
  unfold LbC.l
  rw [List.drop_zero, List.take_append_of_le_length (by rw [cellsK_length, hc.1]; omega), List.take_of_length_le (by rw [cellsK_length, hc.1]; omega)]
theorem part_igL (w : World) {c : LbC} (hc : c.ok) : (part 27 c.l.toArray 34).run Tryz.prog w = .ok (.agg (igL c.ig).toArray) w := by
  unfold part
  simp only [Sem.run_bind, agg_idt, Result.andThen_ok, if_true, size_idt, Sem.run_pure]
  congr 2
  rw [List.extract_toArray, List.extract_eq_take_drop]
  have e : c.l = (cellsK .u8 c.tg ++ [.int .i64 c.k, .string c.nm]) ++ (igL c.ig ++ [.string c.ms]) := by
    unfold LbC.l LbC.tl igL
    simp
  have hl : (cellsK .u8 c.tg ++ [Value.int .i64 c.k, .string c.nm]).length = 34 := by rw [List.length_append, cellsK_length, hc.1]; rfl
  rw [e, List.drop_append_of_le_length (by omega), List.drop_of_length_le (by omega), List.nil_append]
  rfl
theorem at_L {c : LbC} (hc : c.ok) (j : Nat) (v : Value) (hv : c.tl[j]? = some v) : c.l.toArray[32 + j]? = some v := by
  rw [List.getElem?_toArray, LbC.at' hc]
  exact hv
theorem eq_lab (w : World) (d : Nat) {c : LbC} (hc : c.ok) : (Op.equalIn (d + 3) 32 (.agg c.l.toArray) (.agg c.l.toArray)).run Tryz.prog w = .ok true w := by
  obtain ⟨h1, h2, h3⟩ := fsLb
  have h := run_equalIn_struct (P := Tryz.prog) w (d + 2) 32 c.l.toArray c.l.toArray h1 h2
  rw [h]
  refine oeqF_same _ _ h3 fun q hq => ?_
  simp only [List.mem_cons, List.not_mem_nil, or_false] at hq
  rcases hq with rfl | rfl | rfl | rfl | rfl
  · exact ⟨rfl, _, part_idL w hc, eq_idE w d hc.1⟩
  · exact ⟨rfl, _, run_part_plain (P := Tryz.prog) (w := w) pk_kind (at_L hc 0 _ rfl), same_kind w (d + 1) c.k⟩
  · exact ⟨rfl, _, run_part_plain (P := Tryz.prog) (w := w) pk_str (at_L hc 1 _ rfl), same_str w (d + 1) c.nm⟩
  · exact ⟨rfl, _, part_igL w hc, eq_idt w d c.ig⟩
  · exact ⟨rfl, _, run_part_plain (P := Tryz.prog) (w := w) pk_str (at_L hc 6 _ rfl), same_str w (d + 1) c.ms⟩
end Go.Proofs.YtfdemmndbjaipaaGreatDoor
