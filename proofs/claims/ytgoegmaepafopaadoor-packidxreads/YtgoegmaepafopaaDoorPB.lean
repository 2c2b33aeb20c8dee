/-
  The vocabulary of packidx: rows in memory, a block that grows, classes of worlds.
-/
import Derived.Test.YtgoegmaepafopaaDoorPN
import Derived.Test.YtgoegmaepafopaaDoorQ2
import Derived.Deep.MidRow
import Derived.Deep.WholeRow
import Derived.Sort.Grow
namespace Go.Proofs.YtgoegmaepafopaaDoor
open Go.RowKit

/-- The worlds in which all that lay in W lies as it lay. -/
def CC (W w' : World) : Prop := Below W.heap.size W w'
theorem CC.refl (W : World) : CC W W := Below.refl _ _
theorem CC.on {W w' w'' : World} (h : CC W w') (hb : Below w'.heap.size w' w'') : CC W w'' := Below.trans h (hb.mono (Below.size h))
theorem CC.cell {W w' : World} (h : CC W w') {p : Addr} (hp : p.block < W.heap.size) : w'.cell? p = W.cell? p := Below.cell h hp
theorem quiet_run {P : Program} {C : World → Prop} {K : Act → Prop} {o : Oper} {a : Act} {v : Value} (h : ∀ w, C w → (execOp a.eval o).run P w = .ok (.value v) w) (hk : K (a.put o.dst v)) : o.quiet P a C K :=
  ⟨v, fun w hw => by
    unfold Oper.quietAt
    rw [h w hw]
    exact ⟨rfl, rfl⟩, hk⟩
theorem wp_region_quietC {P : Program} {C : World → Prop} {id : Nat} {Q : Exit → Act → World → Prop} {a : Act} {w : World} {l : List Oper} (hm : P.follows .mixedOrders = true) (hB : Region.lexB .any l.toArray = true) (hC : C { w with drawn := w.drawn + 1 })
    (h : wpQuiet P l.toArray C (fun a' => ∀ w', C w' → Q .normal a' w') l a) : (Code.region id l.toArray true).wp P Q a w :=
  wp_region_quiet hm hB hC (by simpa using h)

/-- Only one block may have turned, and what is owned lies there or in a new one. -/
structure Gb (ob : Option Nat) (w w' : World) (v' : Value) : Prop where
  os : w'.os = w.os
  tape : w'.tape = w.tape
  output : w'.output = w.output
  size : w.heap.size ≤ w'.heap.size
  block : ∀ k, k < w.heap.size → some k ≠ ob → w'.heap[k]? = w.heap[k]?
  at_ : v'.ownBlock = ob ∨ ∃ k, v'.ownBlock = some k ∧ w.heap.size ≤ k
section
variable {ob : Option Nat} {w w1 w2 : World} {v1 v2 : Value}
theorem Gb.refl (v : Value) (w : World) : Gb v.ownBlock w w v := ⟨rfl, rfl, rfl, Nat.le_refl _, fun _ _ _ => rfl, Or.inl rfl⟩
theorem Gb.alloc (h : Gb ob w w1 v1) (o : Obj) : Gb ob w (w1.alloc o) v1 :=
  ⟨h.os, h.tape, h.output, by have := h.size; simp; omega, fun k hk hne => (Below.heap_alloc w1 o k (by have := h.size; omega)).trans (h.block k hk hne), h.at_⟩
theorem Gb.drewN (h : Gb ob w w1 v1) (n : Nat) : Gb ob w (w1.drewN n) v1 := ⟨h.os, h.tape, h.output, h.size, h.block, h.at_⟩
theorem Gb.set (h : Gb ob w w1 v1) {g : Nat} (hg : v1.ownBlock = some g) (i : Nat) (u : Value) : Gb ob w (w1.setCell ⟨g, i, none⟩ u) v1 := by
  refine ⟨h.os, h.tape, h.output, by simpa using h.size, fun k hk hne => ?_, h.at_⟩
  rw [Below.heap_setCell _ _ _ _ ?_]
  · exact h.block k hk hne
  · intro e
    simp only [] at e
    subst e
    rcases h.at_ with e | ⟨q, e, hq⟩
    · exact hne (by rw [← hg, e])
    · rw [hg] at e
      injection e with e
      omega
theorem Gb.grow (h : Gb ob w w1 v1) (hg : w1.grownBy w2 v1.ownBlock) (ha : v2.ownBlock = v1.ownBlock ∨ v2.ownBlock = some w1.heap.size) : Gb ob w w2 v2 := by
  have hs := h.size
  refine ⟨hg.os.trans h.os, hg.tape.trans h.tape, hg.output.trans h.output, Nat.le_trans h.size hg.size, fun k hk hne => ?_, ?_⟩
  · rw [hg.block k (by omega) ?_]
    · exact h.block k hk hne
    · intro e
      rcases h.at_ with e2 | ⟨q, e2, hq⟩
      · exact hne (by rw [e, e2])
      · rw [e2] at e
        injection e with e
        omega
  · rcases ha with e | e
    · rw [e]
      exact h.at_
    · exact Or.inr ⟨_, e, hs⟩
theorem Gb.below {B : Nat} (h : Gb ob w w1 v1) (hB : B ≤ w.heap.size) (ho : ∀ k, ob = some k → B ≤ k) : Below B w w1 :=
  ⟨h.os, h.tape, h.output, h.size, fun k hk => h.block k (by omega) (fun e => by have := ho k e.symm; omega)⟩
theorem Gb.trans (h : Gb ob w w1 v1) (k : Gb v1.ownBlock w1 w2 v2) : Gb ob w w2 v2 := by
  have hs := h.size
  refine ⟨k.os.trans h.os, k.tape.trans h.tape, k.output.trans h.output, Nat.le_trans h.size k.size, fun i hi hne => ?_, ?_⟩
  · rw [k.block i (by omega) ?_]
    · exact h.block i hi hne
    · intro e
      rcases h.at_ with e2 | ⟨q, e2, hq⟩
      · exact hne (by rw [e, e2])
      · rw [e2] at e
        injection e with e
        omega
  · rcases k.at_ with e | ⟨q, e, hq⟩
    · rw [e]; exact h.at_
    · exact Or.inr ⟨q, e, by omega⟩
end
theorem quiet_load_mid {P : Program} {C : World → Prop} {K : Act → Prop} {o : Oper} {a : Act} (ty : TypeId) (x : Operand) (ho : o.op = .load ty x)
    (b off : Nat) (hx : a.eval x = .pointer (some ⟨b, off, none⟩)) (cs : List Value) (d : TypeDesc) (hc : ∀ w, C w → w.rangeAt b off cs)
    (hu : P.underlying ty = some d) (hd : d.isRow = true) (hi : (P.info? ty).map (·.size) = some cs.length) (hk : K (a.put o.dst (.agg cs.toArray))) : o.quiet P a C K :=
  quiet_run (fun w hw => by
    unfold execOp
    simp only [ho, hx, Instr.loadAt, Instr.sureAddr, Sem.run_bind, Sem.run_pure, Result.andThen_ok, run_loadVar_mid w b off ty cs d (hc w hw) hu hd hi]) hk


theorem Gb.of_below {v : Value} {w w1 : World} (h : Below w.heap.size w w1) : Gb v.ownBlock w w1 v := ⟨h.os, h.tape, h.output, h.size, fun k hk _ => h.block k hk, Or.inl rfl⟩
theorem Gb.on {ob : Option Nat} {w w1 w2 : World} {v1 : Value} (h : Gb ob w w1 v1) (k : Below w1.heap.size w1 w2) : Gb ob w w2 v1 := h.trans (Gb.of_below k)
theorem wr64 {x : Int} (h0 : -9223372036854775808 ≤ x) (h1 : x ≤ 9223372036854775807) : IntKind.i64.wrap x = x := by
  rw [IntKind.wrap_i64]; omega
theorem wru64 {x : Int} (h0 : 0 ≤ x) (h1 : x < 18446744073709551616) : IntKind.u64.wrap x = x := by
  simp [IntKind.wrap, IntKind.bits, IntKind.signed]; omega
theorem nuRd {S : Nat → Prop} {w : World} {v : Value} {xs : List Int} (h : Rd .u8 S w v xs) (hb : AllB xs) : Nu.Rd w v xs := by
  obtain ⟨a, c, hv, h1, h2, h3, h4⟩ := h
  exact ⟨a, c, hv, h1, h2, hb, h3, fun h0 => by
    obtain ⟨b, off, ha, hlt, -, hc⟩ := h4 h0
    exact ⟨b, off, ha, hlt, hc⟩⟩
theorem shRd {S : Nat → Prop} {w : World} {v : Value} {xs : List Int} (h : Rd .u8 S w v xs) (hA : Sh.AllB xs) : Sh.Rd w v xs := by
  obtain ⟨a, c, h1, h2, h3, h4, h5⟩ := h
  exact ⟨a, c, h1, h2, h3, hA, h4, fun h0 => by
    obtain ⟨b, off, h6, h7, _, h8⟩ := h5 h0
    exact ⟨b, off, h6, h7, h8⟩⟩

/-- A slice of rows that reads as rs. -/
def RdR (w : World) (v : Value) (rs : List RowC) : Prop :=
  ∃ a c, v = .slice a rs.length c ∧ rs.length ≤ c ∧ c ≤ maxLen ∧ (a = none → c = 0) ∧ (∀ r ∈ rs, r.ok) ∧ (0 < rs.length → ∃ b off, a = some ⟨b, off, none⟩ ∧ b < w.heap.size ∧ ∀ i, i < rs.length → w.rangeAt b (off + i * 34) (rowI rs i).l)
theorem RdR.later {w w' : World} {v : Value} {rs : List RowC} (h : RdR w v rs) {B : Nat} (hb : Below B w w') (hB : w.heap.size ≤ B) : RdR w' v rs := by
  obtain ⟨a, c, h1, h2, h2', h3, h4, h5⟩ := h
  refine ⟨a, c, h1, h2, h2', h3, h4, fun h0 => ?_⟩
  obtain ⟨b, off, h6, h7, h8⟩ := h5 h0
  refine ⟨b, off, h6, Nat.lt_of_lt_of_le h7 hb.size, fun i hi j u hu => ?_⟩
  rw [hb.cell (p := ⟨b, off + i * 34 + j, none⟩) (Nat.lt_of_lt_of_le h7 hB)]
  exact h8 i hi j u hu
theorem RdR.nil (w : World) : RdR w (.slice none 0 0) [] := ⟨none, 0, rfl, Nat.le_refl _, Nat.zero_le _, fun _ => rfl, (fun _ h => by cases h), (fun h => by simp at h)⟩
theorem RdR.ok {w : World} {v : Value} {rs : List RowC} (h : RdR w v rs) : ∀ r ∈ rs, r.ok := by
  obtain ⟨a, c, h1, h2, h2', h3, h4, h5⟩ := h
  exact h4
theorem row_range32 {w : World} {b o : Nat} {r : RowC} (h : w.rangeAt b o r.l) : w.rangeAt b o (cellsK .u8 r.ids) := fun j u hu => by
  refine h j u ?_
  unfold RowC.l
  rw [List.getElem?_append_left ?_]
  · exact hu
  · rcases Nat.lt_or_ge j (cellsK .u8 r.ids).length with h' | h'
    · exact h'
    · rw [List.getElem?_eq_none h'] at hu; cases hu
theorem cells_ids (xs : List Int) : cellsK .u8 xs = Sh.cellsU8 xs := rfl
set_option maxRecDepth 100000 in
theorem info_row1 : (Tryd.prog.info? 39).map (·.size) = some 34 := by kernel_rfl
set_option maxRecDepth 100000 in
theorem info_row2 : (Tryd.prog.info? 42).map (·.size) = some 34 := by kernel_rfl
set_option maxRecDepth 100000 in
theorem info_id : (Tryd.prog.info? 24).map (·.size) = some 32 := by kernel_rfl

theorem alloc_cell (w : World) (cs : Array Value) (t : TypeId) (k : Nat) (v : Value) (h : cs[k]? = some v) : (w.alloc (.cells cs t)).cell? ⟨w.heap.size, k, none⟩ = some v := by
  have hh := heap_alloc_new w (.cells cs t)
  unfold World.cell?
  simp only [hh]
  exact h
/-- A row in a block of its own. -/
theorem box_row (w : World) (t : TypeId) {r : RowC} (hr : r.ok) : ∃ w1, w.alloc (.cells r.l.toArray t) = w1 ∧ Below w.heap.size w w1 ∧ w.heap.size < w1.heap.size ∧ w1.heap[w.heap.size]? = some (.cells r.l.toArray t) ∧
    (∀ j, j < 32 → w1.cell? ⟨w.heap.size, j, none⟩ = some (.int .u8 (r.ids.getD j 0))) ∧ w1.cell? ⟨w.heap.size, 32, none⟩ = some (.int .u32 r.crc) ∧ w1.cell? ⟨w.heap.size, 33, none⟩ = some (.int .u64 r.pl) ∧ Rd .u8 anyB w1 (.slice (some ⟨w.heap.size, 0, none⟩) 32 32) r.ids := by
  have hlt : w.heap.size < (w.alloc (.cells r.l.toArray t)).heap.size := by simp
  have hc : ∀ j, j < 32 → (w.alloc (.cells r.l.toArray t)).cell? ⟨w.heap.size, j, none⟩ = some (.int .u8 (r.ids.getD j 0)) := fun j hj => alloc_cell _ _ _ _ _ (by simpa using RowC.cId hr hj)
  refine ⟨_, rfl, (Below.refl _ _).alloc (Nat.le_refl _) _, hlt, heap_alloc_new w _, hc, alloc_cell _ _ _ _ _ (by simpa using RowC.cCrc hr), alloc_cell _ _ _ _ _ (by simpa using RowC.cPl hr), ?_⟩
  refine ⟨some ⟨w.heap.size, 0, none⟩, 32, by rw [hr.1], by rw [hr.1]; omega, by unfold maxLen; omega, (fun h => by cases h), fun _ => ⟨w.heap.size, 0, rfl, hlt, trivial, fun i hi => ?_⟩⟩
  rw [Nat.zero_add]
  exact hc i (by rw [hr.1] at hi; exact hi)


set_option maxHeartbeats 1000000 in
set_option maxRecDepth 100000 in
theorem numberAt_any {S : Nat → Prop} (v : Value) (xs : List Int) (t n : Nat) (w : World) (h : Rd .u8 S w v xs) (hA : AllB xs) (hn : 1 ≤ n) (hn8 : n ≤ 8) (ht : t + n ≤ xs.length) (hl : xs.length + 20 ≤ 140737488355328) :
    Calls Tryd.prog 45 #[v, .int .i64 t, .int .i64 n] w fun e w' => e = .returned (.int .u64 (Nu.bigT xs t n)) ∧ w' = w := by
  obtain ⟨b, off, c, rfl, hlt, hlc, hcm, -, hc⟩ := h.open (by omega)
  have KC := Kept.mk (Nu.big_ok b off c xs t n w hn hn8 ht hl hA hc)
  clear h hc
  generalize Nu.bigT xs t n = T at *
  go_enter Tryd.func45, Tryd.ntmps45
  go_wp2_with fail
  refine Calls.mono KC.out (fun e w1 hp => ?_)
  obtain ⟨rfl, rfl⟩ := hp
  go_wp2
  go_ret
  exact ⟨rfl, rfl⟩

set_option maxHeartbeats 1000000 in
set_option maxRecDepth 100000 in
theorem shortPlace_any {S : Nat → Prop} (v : Value) (xs : List Int) (n i : Nat) (w : World) (h : Rd .u8 S w v xs) (hA : AllB xs) (ht : 1032 + n * 36 + i * 4 + 4 ≤ xs.length) (hl : xs.length + 20 ≤ 140737488355328) :
    Calls Tryd.prog 40 #[v, .int .i64 n, .int .i64 i] w fun e w' => e = .returned (.int .u64 (shortR xs n i)) ∧ w' = w := by
  have KC := Kept.mk (numberAt_any v xs (1032 + n * 36 + i * 4) 4 w h hA (by omega) (by omega) (by omega) hl)
  have e1 : IntKind.i64.wrap ((n : Int) * 36) = (n : Int) * 36 := wr64 (by omega) (by omega)
  have e2 : IntKind.i64.wrap (1032 + (n : Int) * 36) = 1032 + (n : Int) * 36 := wr64 (by omega) (by omega)
  have e3 : IntKind.i64.wrap ((i : Int) * 4) = (i : Int) * 4 := wr64 (by omega) (by omega)
  have e4 : IntKind.i64.wrap (1032 + (n : Int) * 36 + (i : Int) * 4) = 1032 + (n : Int) * 36 + (i : Int) * 4 := wr64 (by omega) (by omega)
  have e5 : Kept (((1032 + n * 36 + i * 4 : Nat) : Int) = 1032 + (n : Int) * 36 + (i : Int) * 4) := ⟨by omega⟩
  rw [e5.out] at KC
  obtain ⟨T, hT⟩ : ∃ T, shortR xs n i = T := ⟨_, rfl⟩
  have hT2 : Nu.bigT xs (1032 + n * 36 + i * 4) 4 = T := hT
  rw [hT2] at KC
  rw [hT]
  clear hT hT2 h
  go_enter Tryd.func40, Tryd.ntmps40
  go_wp2_with fail
  refine Calls.mono KC.out (fun e w1 hp => ?_)
  obtain ⟨rfl, rfl⟩ := hp
  go_wp2
  go_ret
  exact ⟨rfl, rfl⟩

/-- Bytes onto which can be appended: memory of the call's own, or a row with no spare room. -/
def Apd (w : World) (base : Nat) (v : Value) (xs : List Int) : Prop := Own .u8 5 w base v xs ∨ (Rd .u8 anyB w v xs ∧ 0 < xs.length ∧ ∃ b, v = .slice (some ⟨b, 0, none⟩) xs.length xs.length ∧ base ≤ b ∧ b < w.heap.size)
theorem Apd.later {w w' : World} {base B : Nat} {v : Value} {xs : List Int} (h : Apd w base v xs) (hb : Below B w w') (hB : w.heap.size ≤ B) : Apd w' base v xs := by
  rcases h with h | ⟨h, h0, b, hv, h1, h2⟩
  · exact .inl (h.later hb hB)
  · exact .inr ⟨h.later hb hB, h0, b, hv, h1, Nat.lt_of_lt_of_le h2 hb.size⟩
theorem Apd.form {w : World} {base : Nat} {v : Value} {xs : List Int} (h : Apd w base v xs) : ∃ a c, v = .slice a xs.length c := by
  rcases h with h | ⟨h, h0, b, hv, h1⟩
  · obtain ⟨a, c, hv, -, -, -⟩ := h.rd.form
    exact ⟨a, c, hv⟩
  · exact ⟨_, _, hv⟩
theorem Apd.lt {w : World} {base : Nat} {v : Value} {xs : List Int} (h : Apd w base v xs) : ∀ g, v.ownBlock = some g → base ≤ g ∧ g < w.heap.size := by
  rcases h with h | ⟨h, h0, b, rfl, h1, h2⟩
  · exact h.lt
  · intro g hg
    simp only [Value.ownBlock] at hg
    injection hg with hg
    subst hg
    exact ⟨h1, h2⟩
theorem run_append_apd {P : Program} (w : World) (S : Nat → Prop) (base : Nat) (t ty : TypeId) (i : TypeInfo) (z : Value) (ht : P.underlying t = some (.slice 5)) (hi : P.info? 5 = some i) (hz : i.zero = some z)
    (hsize : i.size = 1) (hby : i.bytes = 1) (hzs : z.cells.size = 1)
    (v : Value) (xs : List Int) (hown : Apd w base v xs) (x : Value) (ys : List Int) (hs : Rd .u8 S w x ys) (h0 : 0 < ys.length)
    (hbytes : xs.length + ys.length ≤ 140737488355328) (hbase : base ≤ w.heap.size) :
    ∃ v' w', (Builtin.append_ #[t, t] ty #[v, x]).run P w = .ok v' w' ∧ Own .u8 5 w' base v' (xs ++ ys) ∧ w.grownBy w' v.ownBlock ∧ (v'.ownBlock = v.ownBlock ∨ v'.ownBlock = some w.heap.size) := by
  rcases hown with hown | ⟨hr, hx0, g, rfl, hbg, hgl⟩
  · exact run_append_rd w .u8 S 1 base t ty 5 i z ht hi hz hsize hby hzs (by omega) v xs hown x ys hs (by omega) hbase
  · obtain ⟨b1, off1, c1, hv1, -, -, -, -, hc1⟩ := hr.open hx0
    simp at hv1
    obtain ⟨⟨rfl, rfl⟩, rfl⟩ := hv1
    obtain ⟨b, off, c, rfl, -, -, -, -, hc⟩ := hs.open h0
    have hnews : ∀ j u, (cellsK .u8 ys)[j]? = some u → w.cell? ((⟨b, off, none⟩ : Addr).add j) = some u := fun j u hj => by
      obtain ⟨hj', rfl⟩ := cellsK_get hj
      rw [add_plain]
      exact hc j hj'
    have holds : ∀ j u, (cellsK .u8 xs)[j]? = some u → w.cell? ((⟨g, 0, none⟩ : Addr).add j) = some u := fun j u hj => by
      obtain ⟨hj', rfl⟩ := cellsK_get hj
      rw [add_plain]
      exact hc1 j hj'
    have hr2 := run_append_grow (P := P) w t ty 5 i z ht hi hz ⟨g, 0, none⟩ xs.length xs.length (cellsK .u8 xs) (by rw [cellsK_length, hsize, Nat.mul_one]) holds ⟨b, off, none⟩ ys.length c (cellsK .u8 ys) (by rw [cellsK_length, hsize, Nat.mul_one]) hnews (by omega) (by omega) (by rw [hby]; exact growslice_fits (by omega) (by omega))
    have hge := grownCap_ge w (xs.length + ys.length) xs.length 5
    have hcm : grownCap w (xs.length + ys.length) xs.length 5 ≤ maxLen := grownCap_le_maxLen w (xs.length + ys.length) xs.length 5 (by unfold maxLen; omega)
    refine ⟨_, _, hr2, ⟨by rw [cellsK_length, Nat.mul_one], .inr ⟨w.heap.size, _, _, by rw [List.length_append], hbase, heap_alloc_new w.drew _, by rw [List.length_append]; exact hge, hcm, ?_, ?_⟩⟩, ⟨rfl, rfl, rfl, by simp, fun k hk _ => heap_alloc_old w.drew _ hk⟩, Or.inr rfl⟩
    · simp only [Array.size_append, List.size_toArray, size_zeroCells, hzs, cellsK_length]
      omega
    · simp only [Array.toList_append, Nat.mul_one]
      rw [← cellsK_append, List.take_append_of_le_length (by rw [cellsK_length]; omega), List.take_of_length_le (by rw [cellsK_length]; omega)]
theorem wpList_append_apd {P : Program} (w : World) {ops : Array Oper} {rest : List Oper} {o : Oper} {a : Act} {Q : Exit → Act → World → Prop} (hgd : o.guard = none) (s x : Operand) (t : TypeId)
    (ho : o.op = .call { callee := .builtin .append, args := #[s, x], argTypes := #[t, t] })
    (S : Nat → Prop) (base : Nat) (i : TypeInfo) (z : Value) (ht : P.underlying t = some (.slice 5)) (hi : P.info? 5 = some i) (hz : i.zero = some z)
    (hsize : i.size = 1) (hby : i.bytes = 1) (hzs : z.cells.size = 1)
    (v : Value) (xs : List Int) (hsv : a.eval s = v) (hown : Apd w base v xs)
    (xv : Value) (ys : List Int) (hx : a.eval x = xv) (hs : Rd .u8 S w xv ys) (h0 : 0 < ys.length)
    (hbytes : xs.length + ys.length ≤ 140737488355328) (hbase : base ≤ w.heap.size)
    (h : ∀ v' w', Own .u8 5 w' base v' (xs ++ ys) → w.grownBy w' v.ownBlock → (v'.ownBlock = v.ownBlock ∨ v'.ownBlock = some w.heap.size) → wpList P ops Q rest (a.put o.dst v') w') :
    wpList P ops Q (o :: rest) a w := by
  refine wpList_plain hgd fun K hK => ?_
  obtain ⟨v', w', hr, h2, h3, h4⟩ := run_append_apd (P := P) w S base t o.type i z ht hi hz hsize hby hzs v xs hown xv ys hs h0 hbytes hbase
  unfold Oper.wp execOp
  simp only [ho, resolve, invoke, builtin, Sem.run_bind, Sem.run_pure, Result.andThen_ok, List.map_toArray, List.map_cons, List.map_nil, hsv, hx, hr]
  exact hK _ _ (h v' w' h2 h3 h4)

set_option maxHeartbeats 1000000 in
set_option maxRecDepth 100000 in
theorem appendNumber_apd (v : Value) (xs : List Int) (x : Int) (n : Nat) (w : World) (base : Nat) (ho : Apd w base v xs) (hbw : base ≤ w.heap.size) (hx0 : 0 ≤ x) (hx : x < 2 ^ (8 * n)) (hx1 : x < 18446744073709551616) (hn : 1 ≤ n) (hn8 : n ≤ 8) (hl : xs.length + 20 ≤ 140737488355328) :
    Calls Tryd.prog 53 #[v, .int .u64 x, .int .i64 n] w fun e w' => ∃ v', e = .returned v' ∧ Own .u8 5 w' base v' (xs ++ Nu.bigF n x) ∧ Gb v.ownBlock w w' v' := by
  obtain ⟨i0, z0, hi, hz, hs, hb0, hc⟩ := info8
  have KC := Kept.mk (Nu.putBig_ok (.slice none 0 0) [] x n w (Nu.Rd.nil w) hx0 hx1 hn hn8 hx (by simp))
  have KO := Kept.mk ho
  have KL : Kept ((Nu.bigF n x).length = n) := ⟨Nu.bigF_length n x⟩
  obtain ⟨va, vc, rfl⟩ := ho.form
  clear ho
  generalize Nu.bigF n x = B at *
  go_enter Tryd.func53, Tryd.ntmps53
  go_wp2_with fail
  refine Calls.mono KC.out (fun e w1 hp => ?_)
  obtain ⟨v1, rfl, hown1, hb1⟩ := hp
  have hO1 : Own .u8 5 w1 w.heap.size v1 B := hown1
  have hr1 := Kept.mk hO1.rd
  obtain ⟨a1, c1, rfl, -, -, -⟩ := hO1.rd.form
  have ho1 := Kept.mk (KO.out.later hb1 (Nat.le_refl _))
  have hG := Kept.mk (Gb.of_below (v := .slice va xs.length vc) hb1)
  have hbw1 : base ≤ w1.heap.size := Nat.le_trans hbw hb1.size
  have KlB : Kept (xs.length + B.length ≤ 140737488355328 ∧ 0 < B.length) := ⟨by rw [KL.out]; omega⟩
  clear hown1 hO1 hb1
  go_wp2_with (at_builtin; refine wpList_append_apd _ rfl _ _ 22 rfl _ base i0 z0 Tryd.underlying22 hi hz hs hb0 hc (.slice va xs.length vc) xs rfl ho1.out _ B rfl hr1.out KlB.out.2 KlB.out.1 hbw1 ?_; intro v2 w2 hown hgrow hat2; have KO2 := Kept.mk hown; have KG2 := Kept.mk hgrow; have KA2 := Kept.mk hat2; clear hown hgrow hat2)
  go_ret
  exact ⟨_, rfl, KO2.out, hG.out.grow KG2.out KA2.out⟩
theorem appendNumber_any (v : Value) (xs : List Int) (x : Int) (n : Nat) (w : World) (base : Nat) (ho : Own .u8 5 w base v xs) (hbw : base ≤ w.heap.size) (hx0 : 0 ≤ x) (hx : x < 2 ^ (8 * n)) (hx1 : x < 18446744073709551616) (hn : 1 ≤ n) (hn8 : n ≤ 8) (hl : xs.length + 20 ≤ 140737488355328) :
    Calls Tryd.prog 53 #[v, .int .u64 x, .int .i64 n] w fun e w' => ∃ v', e = .returned v' ∧ Own .u8 5 w' base v' (xs ++ Nu.bigF n x) ∧ Gb v.ownBlock w w' v' :=
  appendNumber_apd v xs x n w base (.inl ho) hbw hx0 hx hx1 hn hn8 hl


/-- Block b holds the numbers xs. -/
def BlkK (k : IntKind) (w : World) (b : Nat) (t : TypeId) (xs : List Int) : Prop := w.heap[b]? = some (.cells (cellsK k xs).toArray t)
section
variable {k : IntKind} {w w' : World} {b : Nat} {t : TypeId} {xs : List Int}
theorem BlkK.lt (h : BlkK k w b t xs) : b < w.heap.size := by
  unfold BlkK at h
  rcases Nat.lt_or_ge b w.heap.size with h' | h'
  · exact h'
  · rw [Array.getElem?_eq_none h'] at h
    cases h
theorem BlkK.cell (h : BlkK k w b t xs) (i : Nat) (hi : i < xs.length) : w.cell? ⟨b, i, none⟩ = some (.int k (xs.getD i 0)) := by
  unfold BlkK at h
  simp [World.cell?, h, cellsK, List.getD, List.getElem?_eq_getElem hi]
theorem BlkK.frozen (h : BlkK k w b t xs) (i : Nat) : w.frozen? ⟨b, i, none⟩ = false := by
  unfold BlkK at h
  simp [World.frozen?, h]
theorem BlkK.set (h : BlkK k w b t xs) (i : Nat) (y : Int) : BlkK k (w.setCell ⟨b, i, none⟩ (.int k y)) b t (xs.set i y) := by
  unfold BlkK at h ⊢
  simp only [World.setCell, Array.getElem?_modify, h]
  simp [cellsK, List.map_set]
theorem BlkK.other {b' i : Nat} (h : BlkK k w b t xs) (hne : b ≠ b') (u : Value) : BlkK k (w.setCell ⟨b', i, none⟩ u) b t xs := by
  unfold BlkK at h ⊢
  rw [Below.heap_setCell _ _ _ _ hne]
  exact h
theorem BlkK.drewN (h : BlkK k w b t xs) (n : Nat) : BlkK k (w.drewN n) b t xs := h
theorem BlkK.far {B : Nat} (h : BlkK k w b t xs) (hb : Below B w w') (hlt : b < B) : BlkK k w' b t xs := by
  unfold BlkK at h ⊢
  rw [hb.block b hlt]
  exact h
theorem BlkK.range (h : BlkK k w b t xs) : w.rangeAt b 0 (cellsK k xs) := by
  intro j v hv
  rw [Nat.zero_add, cell_of_row w b j _ t (0, 0) h]
  simpa using hv
theorem BlkK.there (h : BlkK k w b t xs) (n : Nat) (hn : n = xs.length) : w.there b 0 n := by
  intro j hj
  rw [Nat.zero_add]
  exact ⟨by rw [h.cell j (by omega)]; rfl, h.frozen j⟩
theorem BlkK.over {ws : List Int} (h : BlkK k w b t xs) (hl : xs.length = ws.length) : BlkK k (w.setCells b 0 (cellsK k ws)) b t ws := by
  have := Sh.heap_setCells b t (cellsK k ws) 0 w _ h
  have e := Sh.setL_all (cellsK k ws) [] (cellsK k xs) (by simp [cellsK, hl])
  simp only [List.nil_append, List.length_nil] at e
  rw [e] at this
  exact this
end
theorem alloc_blkK (k : IntKind) (w : World) (xs : List Int) (t : TypeId) : BlkK k (w.alloc (.cells (cellsK k xs).toArray t)) w.heap.size t xs := heap_alloc_new w _
theorem cellsK_all (k : IntKind) (xs : List Int) : (cellsK k xs).toArray.all (·.oneCell') = true := all_oneCell_toArray (cellsK_one k xs)

def z256 : List Int := List.replicate 256 0
theorem z256_length : z256.length = 256 := List.length_replicate
set_option maxRecDepth 100000 in
theorem zero_fan : Tryd.zeroCells61 = (cellsK .u64 z256).toArray := by kernel_rfl
set_option maxRecDepth 100000 in
theorem info_fan : (Tryd.prog.info? 61).map (·.size) = some 256 := by kernel_rfl
/-- Two fans of noughts. -/
theorem two_fans (w : World) : ∃ w0, (w.alloc (.cells Tryd.zeroCells61 61)).alloc (.cells Tryd.zeroCells61 61) = w0 ∧ BlkK .u64 w0 w.heap.size 61 z256 ∧ BlkK .u64 w0 (w.heap.size + 1) 61 z256 ∧ w0.heap.size = w.heap.size + 2 ∧ Below w.heap.size w w0 := by
  rw [zero_fan]
  have hB : Below w.heap.size w ((w.alloc (.cells (cellsK .u64 z256).toArray 61)).alloc (.cells (cellsK .u64 z256).toArray 61)) := ((Below.refl _ _).alloc (Nat.le_refl _) _).alloc (by simp) _
  refine ⟨_, rfl, ?_, ?_, by simp, hB⟩
  · exact (alloc_blkK .u64 w z256 _).far ((Below.refl (w.heap.size + 1) _).alloc (by simp) _) (by omega)
  · have := alloc_blkK .u64 (w.alloc (.cells (cellsK .u64 z256).toArray 61)) z256 61
    rwa [show (w.alloc (.cells (cellsK .u64 z256).toArray 61)).heap.size = w.heap.size + 1 by simp] at this
end Go.Proofs.YtgoegmaepafopaaDoor
