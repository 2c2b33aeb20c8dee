/-
  Lists of ids in memory: read, and of the call's own; appended.
-/
import Derived.Test.YtkbalngddlhlpaaGreatDoorL8
import Derived.Test.YtkbalngddlhlpaaGreatDoorO10B
import Derived.Great.BuildSlice
import Derived.Sort.Grow
import Derived.Test.YtkbalngddlhlpaaGreatDoorL10
namespace Go.Proofs.YtkbalngddlhlpaaGreatDoor
open Go.RowKit

def IdOk (p : List Int) : Prop := p.length = 32 ∧ AllIn 0 256 p
theorem idP_len {p : List Int} (h : IdOk p) : (cellsK .u8 p).length = 32 := by rw [cellsK_length]; exact h.1
theorem idP_ones (p : List Int) : ∀ u ∈ cellsK .u8 p, u.oneCell' = true := cellsK_one _ _
def RdP (w : World) (v : Value) (es : List (List Int)) : Prop :=
  ∃ (a : Option Addr) (c : Nat), v = .slice a es.length c ∧ es.length ≤ c ∧ (∀ e ∈ es, IdOk e) ∧ (0 < es.length → ∃ b off, a = some ⟨b, off, none⟩ ∧ b < w.heap.size ∧ ∀ i (hi : i < es.length), w.rangeAt b (off + i * 32) (cellsK .u8 (es[i]'hi)))
theorem RdP.later {B : Nat} {w w' : World} {v : Value} {es : List (List Int)} (h : RdP w v es) (hb : Below B w w') (hB : w.heap.size ≤ B) : RdP w' v es := by
  obtain ⟨a, c, rfl, h1, h2, h3⟩ := h
  refine ⟨a, c, rfl, h1, h2, fun h0 => ?_⟩
  obtain ⟨b, off, rfl, hlt, hr⟩ := h3 h0
  refine ⟨b, off, rfl, Nat.lt_of_lt_of_le hlt (by have := hb.size; omega), fun i hi j u hu => ?_⟩
  rw [hb.cell (p := ⟨b, off + i * 32 + j, none⟩) (Nat.lt_of_lt_of_le hlt hB)]
  exact hr i hi j u hu
theorem RdP.nil (w : World) : RdP w (.slice none 0 0) [] := ⟨none, 0, rfl, Nat.le_refl _, (fun _ h => by cases h), fun h => by simp at h⟩
def OwnP (w : World) (base : Nat) (v : Value) (es : List (List Int)) : Prop := w.ownsRow base 31 32 v es.length (es.flatMap (cellsK .u8)) ∧ ∀ e ∈ es, IdOk e
theorem pflat_get : ∀ {es : List (List Int)}, (∀ e ∈ es, IdOk e) → ∀ {i j : Nat}, i < es.length → j < 32 → (es.flatMap (cellsK .u8))[i * 32 + j]? = (cellsK .u8 (es.getD i []))[j]?
  | [], _, _, _, hi, _ => by simp at hi
  | r :: rs, h, 0, j, _, hj => by
    rw [Nat.zero_mul, Nat.zero_add, List.flatMap_cons, List.getElem?_append_left (by rw [idP_len (h r List.mem_cons_self)]; exact hj)]
    rfl
  | r :: rs, h, i + 1, j, hi, hj => by
    have hl := idP_len (h r List.mem_cons_self)
    rw [List.flatMap_cons, List.getElem?_append_right (by rw [hl]; omega), hl, show (i + 1) * 32 + j - 32 = i * 32 + j by omega]
    rw [pflat_get (fun r hr => h r (List.mem_cons_of_mem _ hr)) (by simpa using hi) hj]
    simp [List.getD]
theorem pflat_len : ∀ {es : List (List Int)}, (∀ e ∈ es, IdOk e) → (es.flatMap (cellsK .u8)).length = es.length * 32
  | [], _ => rfl
  | r :: rs, h => by rw [List.flatMap_cons, List.length_append, idP_len (h r List.mem_cons_self), pflat_len (fun r hr => h r (List.mem_cons_of_mem _ hr)), List.length_cons]; omega
theorem pflat_ones (es : List (List Int)) : ∀ u ∈ es.flatMap (cellsK .u8), u.oneCell' = true := by
  intro u hu
  obtain ⟨r, _, hr⟩ := List.mem_flatMap.1 hu
  exact idP_ones r u hr
theorem OwnP.nil (w : World) (base : Nat) : OwnP w base (.slice none 0 0) [] := ⟨World.ownsRow_nil w base 31 32, fun _ h => by cases h⟩
section
variable {w w' : World} {base : Nat} {v : Value} {es : List (List Int)}
theorem OwnP.lt (h : OwnP w base v es) : ∀ g, v.ownBlock = some g → base ≤ g ∧ g < w.heap.size := by
  intro g hg
  rcases h.1.2 with ⟨rfl, _⟩ | ⟨g', cap, cur, rfl, hbg, hh, _⟩
  · simp [Value.ownBlock] at hg
  · simp [Value.ownBlock] at hg
    subst hg
    refine ⟨hbg, ?_⟩
    rcases Nat.lt_or_ge g' w.heap.size with h' | h'
    · exact h'
    · rw [Array.getElem?_eq_none h'] at hh
      cases hh
theorem OwnP.far (h : OwnP w base v es) (hb : ∀ g, v.ownBlock = some g → w'.heap[g]? = w.heap[g]?) : OwnP w' base v es := by
  obtain ⟨⟨h1, h2⟩, h3⟩ := h
  refine ⟨⟨h1, ?_⟩, h3⟩
  rcases h2 with h2 | ⟨g, cap, cur, rfl, hg, hh, r⟩
  · exact Or.inl h2
  · exact Or.inr ⟨g, cap, cur, rfl, hg, by rw [hb g rfl]; exact hh, r⟩
theorem OwnP.later {B : Nat} (h : OwnP w base v es) (hb : Below B w w') (hB : w.heap.size ≤ B) : OwnP w' base v es :=
  h.far fun g hg => hb.block g (Nat.lt_of_lt_of_le (h.lt g hg).2 hB)
theorem OwnP.mono {base' : Nat} (h : OwnP w base v es) (hb : base' ≤ base) : OwnP w base' v es := by
  obtain ⟨⟨h1, h2⟩, h3⟩ := h
  refine ⟨⟨h1, ?_⟩, h3⟩
  rcases h2 with h2 | ⟨g, cap, cur, hv, hg, r⟩
  · exact Or.inl h2
  · exact Or.inr ⟨g, cap, cur, hv, Nat.le_trans hb hg, r⟩
theorem OwnP.rdP (h : OwnP w base v es) : RdP w v es := by
  have hlt := h.lt
  have h' := h
  rcases h.1.2 with ⟨rfl, hn⟩ | ⟨g, cap, cur, rfl, hbg, hg, hnc, hcm, hcs, htake⟩
  · have hx : es = [] := List.eq_nil_of_length_eq_zero hn
    subst hx
    exact ⟨none, 0, rfl, Nat.le_refl _, (fun e he => by cases he), fun h0 => by simp at h0⟩
  · refine ⟨some ⟨g, 0, none⟩, cap, rfl, hnc, h'.2, fun _ => ⟨g, 0, rfl, (hlt g rfl).2, fun i hi j u hu => ?_⟩⟩
    have hj : j < 32 := by
      have hl := idP_len (h'.2 _ (List.getElem_mem hi))
      rcases Nat.lt_or_ge j (cellsK .u8 (es[i]'hi)).length with h2 | h2
      · omega
      · rw [List.getElem?_eq_none h2] at hu; cases hu
    have := World.ownsRow.cells h'.1 (g := g) rfl (i * 32 + j) u (by rw [pflat_get h'.2 hi hj, show es.getD i [] = es[i]'hi by simp [List.getD, List.getElem?_eq_getElem hi]]; exact hu)
    rw [add_plain, Nat.zero_add] at this
    rw [Nat.zero_add]
    exact this
end
set_option maxRecDepth 100000 in
theorem infoP : ∃ i z, Tryz.prog.info? 31 = some i ∧ i.zero = some z ∧ i.size = 32 ∧ i.bytes = 32 ∧ z.cells.size = 32 := ⟨_, _, rfl, rfl, rfl, rfl, rfl⟩
theorem wpList_append_P (w : World) {ops : Array Oper} {rest : List Oper} {o : Oper} {a : Act} {Q : Exit → Act → World → Prop} (hgd : o.guard = none) (s x : Operand)
    (ho : o.op = .call { callee := .builtin .append, args := #[s, x], argTypes := #[36, 36] })
    (base : Nat) (v : Value) (es : List (List Int)) (hsv : a.eval s = v) (hown : OwnP w base v es) (e : (List Int)) (he : IdOk e) (g c : Nat) (hx : a.eval x = .slice (some ⟨g, 0, none⟩) 1 c) (hblk : w.rangeAt g 0 (cellsK .u8 e))
    (hbytes : (es.length + 1) * 32 ≤ 140737488355328) (hbase : base ≤ w.heap.size)
    (h : ∀ v' w', OwnP w' base v' (es ++ [e]) → w.grownBy w' v.ownBlock → wpList Tryz.prog ops Q rest (a.put o.dst v') w') :
    wpList Tryz.prog ops Q (o :: rest) a w := by
  obtain ⟨i, z, hi, hz, hs, hb0, hc⟩ := infoP
  refine wpList_plain hgd fun K hK => ?_
  have hcell : ∀ j u, (cellsK .u8 e)[j]? = some u → w.cell? ((⟨g, 0, none⟩ : Addr).add j) = some u := fun j u hu => by
    rw [add_plain]
    exact hblk j u hu
  obtain ⟨v', w', hr, h2, h3, -, -⟩ := run_append_own_at (P := Tryz.prog) w base 36 o.type 31 i z 32 32 Tryz.underlying36 hi hz hs hb0 hc (by decide) v _ _ hown.1 ⟨g, 0, none⟩ 1 c (cellsK .u8 e) (by rw [idP_len he]) hcell (idP_ones e) (by unfold maxLen; omega) hbytes hbase
  unfold Oper.wp execOp
  simp only [ho, resolve, invoke, builtin, Sem.run_bind, Sem.run_pure, Result.andThen_ok, List.map_toArray, List.map_cons, List.map_nil, hsv, hx, hr]
  refine hK _ _ (h v' w' ⟨?_, fun x hx => ?_⟩ h3)
  · rw [List.flatMap_append, List.length_append]
    simpa using h2
  · rcases List.mem_append.1 hx with hx | hx
    · exact hown.2 x hx
    · simp at hx; rw [hx]; exact he
def z32P : List Value := cellsK .u8 (List.replicate 32 0)
theorem z32P_len : z32P.length = 32 := by unfold z32P cellsK; simp
set_option maxRecDepth 100000 in
theorem zeroP1 : ∃ i z, Tryz.prog.info? 31 = some i ∧ i.zero = some z ∧ i.size = 32 ∧ (Array.range (1 * 32)).map (z.cells[· % z.cells.size]!) = z32P.toArray := ⟨_, _, rfl, rfl, rfl, by kernel_rfl⟩
theorem wpList_sliceP {ops : Array Oper} {rest : List Oper} {o : Oper} {a : Act} {w : World} {Q : Exit → Act → World → Prop} (hg : o.guard = none) (o1 : Operand) (ho : o.op = .buildSlice 36 1 #[(0, o1)])
    (IL : List Value) (hl : IL.length = 32) (h1 : a.eval o1 = .agg IL.toArray)
    (h : wpList Tryz.prog ops Q rest (a.put o.dst (.slice (some ⟨w.heap.size, 0, none⟩) 1 1)) (w.alloc (.cells IL.toArray 31))) : wpList Tryz.prog ops Q (o :: rest) a w := by
  obtain ⟨i, z, hi, hz, hs, hr⟩ := zeroP1
  refine wpList_buildSlice hg 36 31 1 _ ho IL.toArray i z Tryz.underlying36 hi hz (by rw [hs]; decide) (by rw [hs]; decide) ?_ h
  rw [hs, hr]
  simp only [List.map_toArray, List.map_cons, List.map_nil, h1]
  have e0 : z32P = [] ++ z32P ++ [] := by simp
  rw [e0, fillE_cons _ 0 _ _ [] z32P [] IL (by rw [z32P_len]; rfl) rfl (by rw [hl, z32P_len])]
  unfold Instr.fill
  simp


structure CmC where
  tg : List Int
  ps : List (List Int)
  ia : Idt
  ic : Idt
  ms : ByteArray
def CmC.tl (c : CmC) (pv : Value) : List Value := [pv, .string c.ia.nm, .string c.ia.em, .int .i64 c.ia.tm, .int .i64 c.ia.zn, .string c.ic.nm, .string c.ic.em, .int .i64 c.ic.tm, .int .i64 c.ic.zn, .string c.ms]
def CmC.l (c : CmC) (pv : Value) : List Value := cellsK .u8 c.tg ++ c.tl pv
def CmC.ok (c : CmC) : Prop := IdOk c.tg ∧ (∀ p ∈ c.ps, IdOk p) ∧ c.ms.size ≤ 140737488355328
section
variable {c : CmC} {pv : Value}
theorem CmC.len (h : c.ok) : (c.l pv).length = 42 := by
  unfold CmC.l CmC.tl
  rw [List.length_append, cellsK_length, h.1.1]
  rfl
theorem CmC.at' (h : c.ok) (j : Nat) : (c.l pv)[32 + j]? = (c.tl pv)[j]? := by
  unfold CmC.l
  rw [List.getElem?_append_right (by rw [cellsK_length, h.1.1]; omega), cellsK_length, h.1.1, Nat.add_sub_cancel_left]
theorem CmC.ones (hp : pv.oneCell' = true) : ∀ u ∈ c.l pv, u.oneCell' = true := by
  intro u hu
  unfold CmC.l CmC.tl at hu
  rcases List.mem_append.1 hu with hu | hu
  · exact cellsK_one _ _ u hu
  · simp only [List.mem_cons, List.not_mem_nil, or_false] at hu
    rcases hu with rfl | rfl | rfl | rfl | rfl | rfl | rfl | rfl | rfl | rfl
    · exact hp
    all_goals rfl
theorem CmC.all (hp : pv.oneCell' = true) : (c.l pv).toArray.all (·.oneCell') = true := by
  rw [Array.all_eq_true_iff_forall_mem]
  intro x hx
  exact CmC.ones hp x (by simpa using hx)
end
def CmB (w : World) (g : Nat) (c : CmC) (pv : Value) : Prop := w.heap[g]? = some (.cells (c.l pv).toArray 40)
section
variable {w w' : World} {g : Nat} {c : CmC} {pv : Value}
theorem CmB.lt (h : CmB w g c pv) : g < w.heap.size := by
  unfold CmB at h
  rcases Nat.lt_or_ge g w.heap.size with h' | h'
  · exact h'
  · rw [Array.getElem?_eq_none h'] at h
    cases h
theorem CmB.range (h : CmB w g c pv) : w.rangeAt g 0 (c.l pv) := by
  intro j v hv
  rw [Nat.zero_add, cell_of_row w g j _ 40 (0, 0) h]
  simpa using hv
theorem CmB.far {B : Nat} (h : CmB w g c pv) (hb : Below B w w') (hlt : g < B) : CmB w' g c pv := by
  unfold CmB at h ⊢
  rw [hb.block g hlt]
  exact h
theorem CmB.cell (h : CmB w g c pv) (hok : c.ok) (j : Nat) (v : Value) (hv : (c.tl pv)[j]? = some v) : w.cell? ⟨g, 32 + j, none⟩ = some v := by
  have := h.range (32 + j) v (by rw [CmC.at' hok]; exact hv)
  simpa using this
theorem CmB.rangeTg (h : CmB w g c pv) : w.rangeAt g 0 (cellsK .u8 c.tg) := fun j u hu => h.range j u (by
  unfold CmC.l
  rw [List.getElem?_append_left (by
    rcases Nat.lt_or_ge j (cellsK .u8 c.tg).length with h' | h'
    · exact h'
    · rw [List.getElem?_eq_none h'] at hu; cases hu)]
  exact hu)
theorem CmB.rangeI (h : CmB w g c pv) (hok : c.ok) (k : Nat) (i : Idt) (hi : ∀ j, j < 4 → (c.tl pv)[k + j]? = (igL i)[j]?) : w.rangeAt g (32 + k) (igL i) := by
  intro j v hv
  have hj : j < 4 := by
    rcases Nat.lt_or_ge j 4 with h' | h'
    · exact h'
    · rw [List.getElem?_eq_none (by exact h')] at hv; cases hv
  have h2 := h.range (32 + k + j) v (by
    rw [Nat.add_assoc, CmC.at' hok, hi j hj]
    exact hv)
  rwa [Nat.zero_add] at h2
theorem four4 {P : Nat → Prop} (h0 : P 0) (h1 : P 1) (h2 : P 2) (h3 : P 3) : ∀ j, j < 4 → P j := by
  intro j hj
  have : j = 0 ∨ j = 1 ∨ j = 2 ∨ j = 3 := by omega
  rcases this with rfl | rfl | rfl | rfl <;> assumption
theorem CmB.rangeIa (h : CmB w g c pv) (hok : c.ok) : w.rangeAt g 33 (igL c.ia) := h.rangeI hok 1 c.ia (four4 rfl rfl rfl rfl)
theorem CmB.rangeIc (h : CmB w g c pv) (hok : c.ok) : w.rangeAt g 37 (igL c.ic) := h.rangeI hok 5 c.ic (four4 rfl rfl rfl rfl)
theorem CmB.frozen (h : CmB w g c pv) (i : Nat) : w.frozen? ⟨g, i, none⟩ = false := by
  unfold CmB at h
  simp [World.frozen?, h]
theorem CmB.other {g' i : Nat} (h : CmB w g c pv) (hne : g ≠ g') (u : Value) : CmB (w.setCell ⟨g', i, none⟩ u) g c pv := by
  unfold CmB at h ⊢
  rw [Below.heap_setCell _ _ _ _ hne]
  exact h
theorem CmB.others {g' i : Nat} (h : CmB w g c pv) (hne : g ≠ g') (us : List Value) : CmB (w.setCells g' i us) g c pv := by
  unfold CmB at h ⊢
  rw [Sh.heap_setCells_far _ _ hne]
  exact h
theorem CmB.thereAt (h : CmB w g c pv) (hok : c.ok) (o n : Nat) (hn : o + n ≤ 42) : w.there g o n := by
  intro j hj
  have hl : (c.l pv).length = 42 := CmC.len hok
  have := h.range (o + j) ((c.l pv)[o + j]'(by omega)) (by rw [List.getElem?_eq_getElem])
  rw [Nat.zero_add] at this
  exact ⟨by rw [this]; rfl, h.frozen (o + j)⟩
theorem CmB.setTg (h : CmB w g c pv) (hok : c.ok) {ids : List Int} (hi : ids.length = 32) : CmB (w.setCells g 0 (cellsK .u8 ids)) g { c with tg := ids } pv := by
  have h1 := Sh.heap_setCells g 40 (cellsK .u8 ids) 0 w _ h
  have h2 := setL_mid (cellsK .u8 ids) [] (cellsK .u8 c.tg) (c.tl pv) (by rw [cellsK_length, cellsK_length, hok.1.1, hi])
  unfold CmB
  rw [h1]
  unfold CmC.l
  rw [List.nil_append, List.length_nil] at h2
  rw [h2]
  rfl
theorem CmB.setT (h : CmB w g c pv) (hok : c.ok) (j : Nat) (v : Value) : (w.setCell ⟨g, 32 + j, none⟩ v).heap[g]? = some (.cells (cellsK .u8 c.tg ++ (c.tl pv).set j v).toArray 40) := by
  rw [heap_setCell_same w g (32 + j) _ 40 v h]
  congr 2
  unfold CmC.l
  rw [List.setIfInBounds_toArray, List.set_append_right _ _ (by rw [cellsK_length, hok.1.1]; omega), cellsK_length, hok.1.1, Nat.add_sub_cancel_left]
theorem CmB.setP (h : CmB w g c pv) (hok : c.ok) (pv' : Value) (q : List (List Int)) : CmB (w.setCell ⟨g, 32, none⟩ pv') g { c with ps := q } pv' := h.setT hok 0 _
theorem CmB.setMs (h : CmB w g c pv) (hok : c.ok) (x : ByteArray) : CmB (w.setCell ⟨g, 41, none⟩ (.string x)) g { c with ms := x } pv := h.setT hok 9 _
theorem CmB.setIa (h : CmB w g c pv) (hok : c.ok) (i : Idt) : CmB (w.setCells g 33 (igL i)) g { c with ia := i } pv := by
  have h1 := Sh.heap_setCells g 40 (igL i) 33 w _ h
  have h2 := setL_mid (igL i) (cellsK .u8 c.tg ++ [pv]) [.string c.ia.nm, .string c.ia.em, .int .i64 c.ia.tm, .int .i64 c.ia.zn] [.string c.ic.nm, .string c.ic.em, .int .i64 c.ic.tm, .int .i64 c.ic.zn, .string c.ms] rfl
  rw [List.length_append, cellsK_length, hok.1.1] at h2
  have e1 : c.l pv = cellsK .u8 c.tg ++ [pv] ++ ([.string c.ia.nm, .string c.ia.em, .int .i64 c.ia.tm, .int .i64 c.ia.zn] ++ [.string c.ic.nm, .string c.ic.em, .int .i64 c.ic.tm, .int .i64 c.ic.zn, .string c.ms]) := by
    unfold CmC.l CmC.tl
    simp
  unfold CmB
  rw [h1, e1]
  rw [show 32 + ([pv] : List Value).length = 33 from rfl] at h2
  rw [h2]
  unfold CmC.l CmC.tl igL
  simp
theorem CmB.setIc (h : CmB w g c pv) (hok : c.ok) (i : Idt) : CmB (w.setCells g 37 (igL i)) g { c with ic := i } pv := by
  have h1 := Sh.heap_setCells g 40 (igL i) 37 w _ h
  have h2 := setL_mid (igL i) (cellsK .u8 c.tg ++ [pv, .string c.ia.nm, .string c.ia.em, .int .i64 c.ia.tm, .int .i64 c.ia.zn]) [.string c.ic.nm, .string c.ic.em, .int .i64 c.ic.tm, .int .i64 c.ic.zn] [.string c.ms] rfl
  rw [List.length_append, cellsK_length, hok.1.1] at h2
  have e1 : c.l pv = cellsK .u8 c.tg ++ [pv, .string c.ia.nm, .string c.ia.em, .int .i64 c.ia.tm, .int .i64 c.ia.zn] ++ ([.string c.ic.nm, .string c.ic.em, .int .i64 c.ic.tm, .int .i64 c.ic.zn] ++ [.string c.ms]) := by
    unfold CmC.l CmC.tl
    simp
  unfold CmB
  rw [h1, e1]
  rw [show 32 + ([pv, .string c.ia.nm, .string c.ia.em, .int .i64 c.ia.tm, .int .i64 c.ia.zn] : List Value).length = 37 from rfl] at h2
  rw [h2]
  unfold CmC.l CmC.tl igL
  simp
theorem CmB.over (h : CmB w g c pv) (hok : c.ok) {d : CmC} {qv : Value} (hd : d.ok) : CmB (w.setCells g 0 (d.l qv)) g d qv := by
  have h1 := Sh.heap_setCells g 40 (d.l qv) 0 w _ h
  have h2 := setL_mid (d.l qv) [] (c.l pv) [] (by rw [CmC.len hok, CmC.len hd])
  simp only [List.nil_append, List.append_nil, List.length_nil] at h2
  unfold CmB
  rw [h1, h2]
end
theorem CmC.box (w : World) (c : CmC) (pv : Value) : ∃ w1, w.alloc (.cells (c.l pv).toArray 40) = w1 ∧ Below w.heap.size w w1 ∧ CmB w1 w.heap.size c pv :=
  ⟨_, rfl, (Below.refl _ _).alloc (Nat.le_refl _) _, heap_alloc_new w _⟩
theorem cm_info {R : CmC} {pv : Value} (hok : R.ok) : (Tryz.prog.info? 40).map (·.size) = some (R.l pv).length := by rw [CmC.len hok]; kernel_rfl
theorem cm_info2 {R : CmC} {pv : Value} (hok : R.ok) : (Tryz.prog.info? 40).map (·.size) = some (R.l pv).toArray.size := by rw [List.size_toArray]; exact cm_info hok
theorem igL_info (i : Idt) : (Tryz.prog.info? 38).map (·.size) = some (igL i).length := by kernel_rfl
theorem id_infoL {p : List Int} (h : IdOk p) : (Tryz.prog.info? 31).map (·.size) = some (cellsK .u8 p).length := by rw [cellsK_length, h.1]; kernel_rfl
def cm0 : CmC := ⟨z32N, [], idt0, idt0, ⟨#[]⟩⟩
def pv0 : Value := .slice none 0 0
theorem z32N_ok : IdOk z32N := ⟨by simp [z32N], fun x hx => by rw [List.eq_of_mem_replicate hx]; omega⟩
theorem cm0_ok : cm0.ok := ⟨z32N_ok, (fun _ h => by cases h), by decide⟩
def ceF (c : CmC) : Int := if 16 < c.ps.length ∨ 65536 < c.ms.size then 2 else if idF c.ia = false ∨ idF c.ic = false then 3 else if hzF c.ms = true then 4 else 0
theorem ceF_ok {c : CmC} (h : ceF c = 0) : c.ps.length ≤ 16 ∧ c.ms.size ≤ 65536 ∧ idF c.ia = true ∧ idF c.ic = true ∧ hzF c.ms = false := by
  unfold ceF at h
  by_cases h1 : 16 < c.ps.length ∨ 65536 < c.ms.size
  · rw [if_pos h1] at h; omega
  · rw [if_neg h1] at h
    by_cases h2 : idF c.ia = false ∨ idF c.ic = false
    · rw [if_pos h2] at h; omega
    · rw [if_neg h2] at h
      by_cases h3 : hzF c.ms = true
      · rw [if_pos h3] at h; omega
      · refine ⟨by omega, by omega, ?_, ?_, by simpa using h3⟩
        · cases hq : idF c.ia with
          | true => rfl
          | false => exact absurd (.inl hq) h2
        · cases hq : idF c.ic with
          | true => rfl
          | false => exact absurd (.inr hq) h2
set_option maxHeartbeats 2000000 in
set_option maxRecDepth 100000 in
theorem commitError_any (c : CmC) (pa : Option Addr) (pc : Nat) (w : World) (hok : c.ok) : Calls Tryz.prog 31 #[.agg (c.l (.slice pa c.ps.length pc)).toArray] w fun e w' => e = .returned (.int .i64 (ceF c)) ∧ Below w.heap.size w w' := by
  obtain ⟨w1, hw1, hB1, hL1⟩ := CmC.box w c (.slice pa c.ps.length pc)
  have KB1 := Kept.mk hB1
  have KC : Kept (∀ W, Below w1.heap.size w1 W → W.cell? ⟨w.heap.size, 32, none⟩ = some (.slice pa c.ps.length pc) ∧ W.cell? ⟨w.heap.size, 41, none⟩ = some (.string c.ms)) := ⟨fun W hW => by
    have h := hL1.far hW hL1.lt
    exact ⟨h.cell hok 0 _ rfl, h.cell hok 9 _ rfl⟩⟩
  have KRa : Kept (∀ W, Below w1.heap.size w1 W → W.rangeAt w.heap.size 33 (igL c.ia)) := ⟨fun W hW => (hL1.far hW hL1.lt).rangeIa hok⟩
  have KRc : Kept (∀ W, Below w1.heap.size w1 W → W.rangeAt w.heap.size 37 (igL c.ic)) := ⟨fun W hW => (hL1.far hW hL1.lt).rangeIc hok⟩
  have KIa := Kept.mk (igL_info c.ia)
  have KIc := Kept.mk (igL_info c.ic)
  have KA : Kept (∀ W, Calls Tryz.prog 66 #[.agg (igL c.ia).toArray] W fun e w' => e = .returned (.bool (idF c.ia)) ∧ Below W.heap.size W w') := ⟨fun W => ident_any c.ia W⟩
  have KD : Kept (∀ W, Calls Tryz.prog 66 #[.agg (igL c.ic).toArray] W fun e w' => e = .returned (.bool (idF c.ic)) ∧ Below W.heap.size W w') := ⟨fun W => ident_any c.ic W⟩
  have KZ : Kept (∀ W, Calls Tryz.prog 67 #[.string c.ms] W fun e w' => e = .returned (.bool (hzF c.ms)) ∧ w' = W) := ⟨fun W => hasZero_any c.ms W⟩
  have KTe : Kept (ceF c = if 16 < c.ps.length ∨ 65536 < c.ms.size then 2 else if idF c.ia = false ∨ idF c.ic = false then 3 else if hzF c.ms = true then 4 else 0) := ⟨rfl⟩
  obtain ⟨c32, c41⟩ := KC.out w1 (Below.refl _ _)
  generalize ceF c = TE at *
  generalize idF c.ia = q1 at *
  generalize idF c.ic = q2 at *
  generalize hzF c.ms = q3 at *
  generalize c.l (.slice pa c.ps.length pc) = CL at *
  obtain ⟨tg, ps, ia, ic, ms⟩ := c
  simp only at *
  generalize ps.length = np at *
  generalize igL ia = IA at *
  generalize igL ic = IC at *
  clear hB1 hL1 hok
  go_enter Tryz.func31, Tryz.ntmps31
  by_cases h1 : 16 < np
  · have h1i : (16 : Int) < (np : Int) := by omega
    rw [if_pos (.inl h1)] at KTe
    clear h1
    go_wp2
    go_ret
    exact ⟨by rw [KTe.out]; rfl, KB1.out⟩
  have h1i : ¬ (16 : Int) < (np : Int) := by omega
  by_cases h2 : 65536 < ms.size
  · have h2i : (65536 : Int) < (ms.size : Int) := by omega
    rw [if_pos (.inr h2)] at KTe
    clear h1 h2
    go_wp2
    go_ret
    exact ⟨by rw [KTe.out]; rfl, KB1.out⟩
  have h2i : ¬ (65536 : Int) < (ms.size : Int) := by omega
  rw [if_neg (by omega)] at KTe
  clear h1 h2
  have KR1 := Kept.mk (KRa.out w1 (Below.refl _ _))
  go_upto_region 3 with fail
  try rw [hw1]
  clear hw1
  go_wp2_with (first | (refine wpList_load_mid rfl 38 _ rfl w.heap.size 33 rfl IA _ KR1.out Tryz.underlying38 rfl KIa.out ?_))
  refine Calls.mono (KA.out w1) (fun e w2 hp => ?_)
  obtain ⟨rfl, hb2⟩ := hp
  have KW2 := Kept.mk hb2
  have KB2 := Kept.mk (KB1.out.trans (hb2.mono KB1.out.size))
  clear c32 c41 hb2 KR1
  cases q1 with
  | false =>
    rw [if_pos (.inl rfl)] at KTe
    go_wp2
    go_ret
    exact ⟨by rw [KTe.out]; rfl, KB2.out⟩
  | true =>
    have KR2 := Kept.mk (KRc.out w2 KW2.out)
    go_wp2_with (first | (refine BigFrame.wpList_want rfl (fun K hK => wp_load_mid 38 _ rfl w.heap.size 37 rfl IC _ KR2.out Tryz.underlying38 rfl KIc.out (hK _ _ ?_)); clear hK K))
    refine Calls.mono (KD.out w2) (fun e w3 hp => ?_)
    obtain ⟨rfl, hb3⟩ := hp
    have KW3 := Kept.mk (KW2.out.trans (hb3.mono KW2.out.size))
    have KB3 := Kept.mk (KB2.out.trans (hb3.mono KB2.out.size))
    clear hb3 KR2
    cases q2 with
    | false =>
      rw [if_pos (.inr rfl)] at KTe
      go_wp2
      go_ret
      exact ⟨by rw [KTe.out]; rfl, KB3.out⟩
    | true =>
      rw [if_neg (by simp)] at KTe
      obtain ⟨c32, c41⟩ := KC.out w3 KW3.out
      go_wp2_with fail
      refine Calls.mono (KZ.out w3) (fun e w4 hp => ?_)
      obtain ⟨rfl, hw4⟩ := hp
      have hw4 := hw4.symm
      subst hw4
      cases q3 with
      | true =>
        rw [if_pos rfl] at KTe
        go_wp2
        go_ret
        exact ⟨by rw [KTe.out]; rfl, KB3.out⟩
      | false =>
        rw [if_neg (by simp)] at KTe
        go_wp2
        go_ret
        exact ⟨by rw [KTe.out]; rfl, KB3.out⟩
end Go.Proofs.YtkbalngddlhlpaaGreatDoor
