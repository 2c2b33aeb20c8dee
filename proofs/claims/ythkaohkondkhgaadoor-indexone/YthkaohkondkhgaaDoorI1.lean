/-
  Slots in memory: that came in, and of the call's own.
-/
import Derived.Test.YthkaohkondkhgaaDoorN3
import Derived.Test.YthkaohkondkhgaaDoorN25
import Derived.Deep.MidRow
import Derived.Deep.WholeRow
import Derived.Great.BuildSlice
import Derived.Maps.AppendAt
namespace Go.Proofs.YthkaohkondkhgaaDoor
open Go.RowKit

theorem quiet_load_mid {P : Program} {C : World → Prop} {K : Act → Prop} {o : Oper} {a : Act} (ty : TypeId) (x : Operand) (ho : o.op = .load ty x)
    (b off : Nat) (hx : a.eval x = .pointer (some ⟨b, off, none⟩)) (cs : List Value) (d : TypeDesc) (hc : ∀ w, C w → w.rangeAt b off cs)
    (hu : P.underlying ty = some d) (hd : d.isRow = true) (hi : (P.info? ty).map (·.size) = some cs.length) (hk : K (a.put o.dst (.agg cs.toArray))) : o.quiet P a C K :=
  quiet_run (fun w hw => by
    unfold execOp
    simp only [ho, hx, Instr.loadAt, Instr.sureAddr, Sem.run_bind, Sem.run_pure, Result.andThen_ok, run_loadVar_mid w b off ty cs d (hc w hw) hu hd hi]) hk

/-- A slot. -/
structure SlC where
  pt : ByteArray
  st : Int
  md : Int
  ids : List Int
  sz : Int
  tm : Int
def SlC.l (e : SlC) : List Value := Value.string e.pt :: Value.int .i64 e.st :: Value.int .i64 e.md :: (cellsK .u8 e.ids ++ [Value.int .i64 e.sz, Value.int .i64 e.tm])
def i64B (x : Int) : Prop := -9223372036854775808 ≤ x ∧ x < 9223372036854775808
def SlC.ok (e : SlC) : Prop := e.ids.length = 32 ∧ AllIn 0 256 e.ids ∧ i64B e.st ∧ i64B e.md ∧ i64B e.sz ∧ i64B e.tm ∧ e.pt.size ≤ 140737488355328
theorem SlC.len {e : SlC} (h : e.ok) : e.l.length = 37 := by
  unfold SlC.l
  simp [cellsK, h.1]
theorem SlC.ones (e : SlC) : ∀ u ∈ e.l, u.oneCell' = true := by
  intro u hu
  unfold SlC.l at hu
  rcases List.mem_cons.1 hu with rfl | hu
  · rfl
  · rcases List.mem_cons.1 hu with rfl | hu
    · rfl
    · rcases List.mem_cons.1 hu with rfl | hu
      · rfl
      · rcases List.mem_append.1 hu with hu | hu
        · exact cellsK_one .u8 _ u hu
        · simp at hu
          rcases hu with rfl | rfl <;> rfl
theorem SlC.c0 (e : SlC) : e.l[0]? = some (.string e.pt) := rfl
theorem SlC.c1 (e : SlC) : e.l[1]? = some (.int .i64 e.st) := rfl
theorem SlC.c2 (e : SlC) : e.l[2]? = some (.int .i64 e.md) := rfl
theorem SlC.cI {e : SlC} (h : e.ok) {j : Nat} (hj : j < 32) : e.l[3 + j]? = some (.int .u8 (e.ids.getD j 0)) := by
  unfold SlC.l
  rw [show 3 + j = j + 1 + 1 + 1 by omega, List.getElem?_cons_succ, List.getElem?_cons_succ, List.getElem?_cons_succ, List.getElem?_append_left (by rw [cellsK_length, h.1]; exact hj)]
  unfold cellsK
  rw [List.getElem?_map, List.getD_eq_getElem?_getD, List.getElem?_eq_getElem (by rw [h.1]; exact hj)]
  rfl
theorem SlC.c35 {e : SlC} (h : e.ok) : e.l[35]? = some (.int .i64 e.sz) := by
  unfold SlC.l
  rw [show 35 = 32 + 1 + 1 + 1 by rfl, List.getElem?_cons_succ, List.getElem?_cons_succ, List.getElem?_cons_succ, List.getElem?_append_right (by rw [cellsK_length, h.1]; exact Nat.le_refl _), cellsK_length, h.1]
  rfl
theorem SlC.c36 {e : SlC} (h : e.ok) : e.l[36]? = some (.int .i64 e.tm) := by
  unfold SlC.l
  rw [show 36 = 33 + 1 + 1 + 1 by rfl, List.getElem?_cons_succ, List.getElem?_cons_succ, List.getElem?_cons_succ, List.getElem?_append_right (by rw [cellsK_length, h.1]; omega), cellsK_length, h.1]
  rfl
/-- A slice of slots. -/
def RdZ (w : World) (v : Value) (es : List SlC) : Prop :=
  ∃ a c, v = .slice a es.length c ∧ es.length ≤ c ∧ (∀ e ∈ es, e.ok) ∧ (0 < es.length → ∃ b off, a = some ⟨b, off, none⟩ ∧ b < w.heap.size ∧ ∀ i (hi : i < es.length), w.rangeAt b (off + i * 37) (es[i]'hi).l)
theorem RdZ.later {w w' : World} {v : Value} {es : List SlC} (h : RdZ w v es) (hb : Below w.heap.size w w') : RdZ w' v es := by
  obtain ⟨a, c, h1, h2, h3, h4⟩ := h
  refine ⟨a, c, h1, h2, h3, fun h0 => ?_⟩
  obtain ⟨b, off, h5, h6, h7⟩ := h4 h0
  refine ⟨b, off, h5, Nat.lt_of_lt_of_le h6 hb.size, fun i hi j u hu => ?_⟩
  rw [hb.cell (p := ⟨b, off + i * 37 + j, none⟩) h6]
  exact h7 i hi j u hu
theorem RdZ.ok {w : World} {v : Value} {es : List SlC} (h : RdZ w v es) : ∀ e ∈ es, e.ok := by
  obtain ⟨_, _, _, _, h3, _⟩ := h
  exact h3
theorem RdZ.nil (w : World) : RdZ w (.slice none 0 0) [] := ⟨none, 0, rfl, Nat.le_refl _, (fun _ h => by cases h), fun h => by simp at h⟩
def zI (es : List SlC) (i : Nat) : SlC := es.getD i ⟨⟨#[]⟩, 0, 0, [], 0, 0⟩
theorem zI_get {es : List SlC} {i : Nat} (h : i < es.length) : zI es i = es[i]'h := by
  unfold zI
  rw [List.getD_eq_getElem?_getD, List.getElem?_eq_getElem h]
  rfl
/-- Slots in memory of the call's own. -/
def OwnZ (w : World) (base : Nat) (v : Value) (es : List SlC) : Prop := w.ownsRow base 41 37 v es.length (es.flatMap SlC.l) ∧ ∀ e ∈ es, e.ok
theorem zflat_get : ∀ {es : List SlC}, (∀ e ∈ es, e.ok) → ∀ {i j : Nat}, i < es.length → j < 37 → (es.flatMap SlC.l)[i * 37 + j]? = (zI es i).l[j]?
  | [], _, _, _, hi, _ => by simp at hi
  | r :: rs, h, 0, j, _, hj => by
    rw [Nat.zero_mul, Nat.zero_add, List.flatMap_cons, List.getElem?_append_left (by rw [SlC.len (h r List.mem_cons_self)]; exact hj)]
    rfl
  | r :: rs, h, i + 1, j, hi, hj => by
    have hl := SlC.len (h r List.mem_cons_self)
    rw [List.flatMap_cons, List.getElem?_append_right (by rw [hl]; omega), hl, show (i + 1) * 37 + j - 37 = i * 37 + j by omega]
    rw [zflat_get (fun r hr => h r (List.mem_cons_of_mem _ hr)) (by simpa using hi) hj]
    simp [zI]
theorem zflat_len : ∀ {es : List SlC}, (∀ e ∈ es, e.ok) → (es.flatMap SlC.l).length = es.length * 37
  | [], _ => rfl
  | r :: rs, h => by rw [List.flatMap_cons, List.length_append, SlC.len (h r List.mem_cons_self), zflat_len (fun r hr => h r (List.mem_cons_of_mem _ hr)), List.length_cons]; omega
theorem zflat_ones (es : List SlC) : ∀ u ∈ es.flatMap SlC.l, u.oneCell' = true := by
  intro u hu
  obtain ⟨r, _, hr⟩ := List.mem_flatMap.1 hu
  exact SlC.ones r u hr
theorem OwnZ.nil (w : World) (base : Nat) : OwnZ w base (.slice none 0 0) [] := ⟨World.ownsRow_nil w base 41 37, fun _ h => by cases h⟩
section
variable {w w' : World} {base : Nat} {v : Value} {es : List SlC}
theorem OwnZ.lt (h : OwnZ w base v es) : ∀ g, v.ownBlock = some g → base ≤ g ∧ g < w.heap.size := by
  intro g hg
  rcases h.1.2 with ⟨rfl, _⟩ | ⟨g', cap, cur, rfl, hbg, hh, _⟩
  · simp [Value.ownBlock] at hg
  · simp [Value.ownBlock] at hg
    subst hg
    refine ⟨hbg, ?_⟩
    rcases Nat.lt_or_ge g' w.heap.size with h' | h'
    · exact h'
    · rw [Array.getElem?_eq_none h'] at hh
      cases hh
theorem OwnZ.far (h : OwnZ w base v es) (hb : ∀ g, v.ownBlock = some g → w'.heap[g]? = w.heap[g]?) : OwnZ w' base v es := by
  obtain ⟨⟨h1, h2⟩, h3⟩ := h
  refine ⟨⟨h1, ?_⟩, h3⟩
  rcases h2 with h2 | ⟨g, cap, cur, rfl, hg, hh, r⟩
  · exact Or.inl h2
  · exact Or.inr ⟨g, cap, cur, rfl, hg, by rw [hb g rfl]; exact hh, r⟩
theorem OwnZ.later {B : Nat} (h : OwnZ w base v es) (hb : Below B w w') (hB : w.heap.size ≤ B) : OwnZ w' base v es :=
  h.far fun g hg => hb.block g (Nat.lt_of_lt_of_le (h.lt g hg).2 hB)
theorem OwnZ.mono {base' : Nat} (h : OwnZ w base v es) (hb : base' ≤ base) : OwnZ w base' v es := by
  obtain ⟨⟨h1, h2⟩, h3⟩ := h
  refine ⟨⟨h1, ?_⟩, h3⟩
  rcases h2 with h2 | ⟨g, cap, cur, hv, hg, r⟩
  · exact Or.inl h2
  · exact Or.inr ⟨g, cap, cur, hv, Nat.le_trans hb hg, r⟩
theorem OwnZ.rd (h : OwnZ w base v es) : RdZ w v es := by
  have hlt := h.lt
  have h' := h
  rcases h.1.2 with ⟨rfl, hn⟩ | ⟨g, cap, cur, rfl, hbg, hg, hnc, hcm, hcs, htake⟩
  · have hx : es = [] := List.eq_nil_of_length_eq_zero hn
    subst hx
    exact ⟨none, 0, rfl, Nat.le_refl _, (fun e he => by cases he), fun h0 => by simp at h0⟩
  · refine ⟨some ⟨g, 0, none⟩, cap, rfl, hnc, h'.2, fun _ => ⟨g, 0, rfl, (hlt g rfl).2, fun i hi j u hu => ?_⟩⟩
    have hj : j < 37 := by
      have hl := SlC.len (h'.2 _ (List.getElem_mem hi))
      rcases Nat.lt_or_ge j (es[i]'hi).l.length with h2 | h2
      · omega
      · rw [List.getElem?_eq_none h2] at hu; cases hu
    have := World.ownsRow.cells h'.1 (g := g) rfl (i * 37 + j) u (by rw [zflat_get h'.2 hi hj, zI_get hi]; exact hu)
    rw [add_plain, Nat.zero_add] at this
    rw [Nat.zero_add]
    exact this
theorem OwnZ.form (h : OwnZ w base v es) : ∃ a c, v = .slice a es.length c ∧ (a = none → c = 0) ∧ es.length ≤ c := by
  rcases h.1.2 with ⟨rfl, hn⟩ | ⟨g, cap, cur, rfl, hbg, hg, hnc, hcm, hcs, htake⟩
  · exact ⟨none, 0, by rw [hn], fun _ => rfl, by omega⟩
  · exact ⟨_, cap, rfl, (fun h => by cases h), hnc⟩
end
set_option maxRecDepth 100000 in
theorem infoZ : ∃ i z, Tryd.prog.info? 41 = some i ∧ i.zero = some z ∧ i.size = 37 ∧ i.bytes = 80 ∧ z.cells.size = 37 := ⟨_, _, rfl, rfl, rfl, rfl, rfl⟩
set_option maxRecDepth 100000 in
theorem infoZ37 : (Tryd.prog.info? 41).map (·.size) = some 37 := by kernel_rfl
theorem SlC.info {e : SlC} (h : e.ok) : (Tryd.prog.info? 41).map (·.size) = some e.l.length := by rw [SlC.len h]; exact infoZ37
/-- append of one slot that lies in a block of its own. -/
theorem wpList_append_Z (w : World) {ops : Array Oper} {rest : List Oper} {o : Oper} {a : Act} {Q : Exit → Act → World → Prop} (hgd : o.guard = none) (s x : Operand)
    (ho : o.op = .call { callee := .builtin .append, args := #[s, x], argTypes := #[22, 22] })
    (base : Nat) (v : Value) (es : List SlC) (hsv : a.eval s = v) (hown : OwnZ w base v es) (e : SlC) (he : e.ok) (g c : Nat) (hx : a.eval x = .slice (some ⟨g, 0, none⟩) 1 c) (hblk : w.rangeAt g 0 e.l)
    (hbytes : (es.length + 1) * 80 ≤ 140737488355328) (hbase : base ≤ w.heap.size)
    (h : ∀ v' w', OwnZ w' base v' (es ++ [e]) → w.grownBy w' v.ownBlock → wpList Tryd.prog ops Q rest (a.put o.dst v') w') :
    wpList Tryd.prog ops Q (o :: rest) a w := by
  obtain ⟨i, z, hi, hz, hs, hb0, hc⟩ := infoZ
  refine wpList_plain hgd fun K hK => ?_
  have hcell : ∀ j u, e.l[j]? = some u → w.cell? ((⟨g, 0, none⟩ : Addr).add j) = some u := fun j u hu => by
    rw [add_plain]
    exact hblk j u hu
  obtain ⟨v', w', hr, h2, h3, -, -⟩ := run_append_own_at (P := Tryd.prog) w base 22 o.type 41 i z 37 80 Tryd.underlying22 hi hz hs hb0 hc (by decide) v _ _ hown.1 ⟨g, 0, none⟩ 1 c e.l (by rw [SlC.len he]) hcell (SlC.ones e) (by unfold maxLen; omega) hbytes hbase
  unfold Oper.wp execOp
  simp only [ho, resolve, invoke, builtin, Sem.run_bind, Sem.run_pure, Result.andThen_ok, List.map_toArray, List.map_cons, List.map_nil, hsv, hx, hr]
  refine hK _ _ (h v' w' ⟨?_, fun x hx => ?_⟩ h3)
  · rw [List.flatMap_append, List.length_append]
    simpa using h2
  · rcases List.mem_append.1 hx with hx | hx
    · exact hown.2 x hx
    · simp at hx; rw [hx]; exact he
/-- The block of a slot that was handed in. -/
theorem SlC.box (w : World) {e : SlC} (he : e.ok) : ∃ w1, w.alloc (.cells e.l.toArray 41) = w1 ∧ Below w.heap.size w w1 ∧ w1.heap.size = w.heap.size + 1 ∧ w1.heap[w.heap.size]? = some (.cells e.l.toArray 41) ∧
    ∀ w', CC w1 w' → (w'.cell? ⟨w.heap.size, 0, none⟩ = some (.string e.pt) ∧ w'.cell? ⟨w.heap.size, 1, none⟩ = some (.int .i64 e.st) ∧ w'.cell? ⟨w.heap.size, 2, none⟩ = some (.int .i64 e.md) ∧ w'.cell? ⟨w.heap.size, 35, none⟩ = some (.int .i64 e.sz) ∧ w'.cell? ⟨w.heap.size, 36, none⟩ = some (.int .i64 e.tm)) := by
  have hz : (w.alloc (.cells e.l.toArray 41)).heap.size = w.heap.size + 1 := by simp
  refine ⟨_, rfl, (Below.refl _ _).alloc (Nat.le_refl _) _, hz, heap_alloc_new w _, fun w' hw => ?_⟩
  have key : ∀ (k : Nat) (u : Value), e.l[k]? = some u → w'.cell? ⟨w.heap.size, k, none⟩ = some u := fun k u hu => by
    rw [hw.cell (p := ⟨w.heap.size, k, none⟩) (by rw [hz]; simp only; omega)]
    exact alloc_cell _ _ _ _ _ (by rw [List.getElem?_toArray]; exact hu)
  exact ⟨key 0 _ e.c0, key 1 _ e.c1, key 2 _ e.c2, key 35 _ (SlC.c35 he), key 36 _ (SlC.c36 he)⟩
end Go.Proofs.YthkaohkondkhgaaDoor
