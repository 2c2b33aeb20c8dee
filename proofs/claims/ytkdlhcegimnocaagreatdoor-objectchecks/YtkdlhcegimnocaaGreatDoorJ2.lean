/-
  The document's links in memory of the call's own; links that are read. (By tools/gen_j1.py.)
-/
import Derived.Test.YtkdlhcegimnocaaGreatDoorK3
import Derived.Test.YtkdlhcegimnocaaGreatDoorC6
import Derived.Test.YtkdlhcegimnocaaGreatDoorL11
import Derived.Test.YtkdlhcegimnocaaGreatDoorO34
namespace Go.Proofs.YtkdlhcegimnocaaGreatDoor
open Go.RowKit

def RdL (w : World) (v : Value) (es : List LkC) : Prop :=
  ∃ (a : Option Addr) (c : Nat), v = .slice a es.length c ∧ es.length ≤ c ∧ (∀ e ∈ es, e.ok) ∧ (0 < es.length → ∃ b off, a = some ⟨b, off, none⟩ ∧ b < w.heap.size ∧ ∀ i (hi : i < es.length), w.rangeAt b (off + i * 33) (es[i]'hi).l)
theorem RdL.later {B : Nat} {w w' : World} {v : Value} {es : List LkC} (h : RdL w v es) (hb : Below B w w') (hB : w.heap.size ≤ B) : RdL w' v es := by
  obtain ⟨a, c, rfl, h1, h2, h3⟩ := h
  refine ⟨a, c, rfl, h1, h2, fun h0 => ?_⟩
  obtain ⟨b, off, rfl, hlt, hr⟩ := h3 h0
  refine ⟨b, off, rfl, Nat.lt_of_lt_of_le hlt (by have := hb.size; omega), fun i hi j u hu => ?_⟩
  rw [hb.cell (p := ⟨b, off + i * 33 + j, none⟩) (Nat.lt_of_lt_of_le hlt hB)]
  exact hr i hi j u hu
def OwnM (w : World) (base : Nat) (v : Value) (es : List LkC) : Prop := w.ownsRow base 57 33 v es.length (es.flatMap LkC.l) ∧ ∀ e ∈ es, e.ok
theorem OwnM.nil (w : World) (base : Nat) : OwnM w base (.slice none 0 0) [] := ⟨World.ownsRow_nil w base 57 33, fun _ h => by cases h⟩
section
variable {w w' : World} {base : Nat} {v : Value} {es : List LkC}
theorem OwnM.lt (h : OwnM w base v es) : ∀ g, v.ownBlock = some g → base ≤ g ∧ g < w.heap.size := by
  intro g hg
  rcases h.1.2 with ⟨rfl, _⟩ | ⟨g', cap, cur, rfl, hbg, hh, _⟩
  · simp [Value.ownBlock] at hg
  · simp [Value.ownBlock] at hg
    subst hg
    refine ⟨hbg, ?_⟩
    rcases Nat.lt_or_ge g' w.heap.size with h' | h'
    · exact h'
    · rw [Array.getElem?_eq_none h'] at hh
      cases hh
theorem OwnM.far (h : OwnM w base v es) (hb : ∀ g, v.ownBlock = some g → w'.heap[g]? = w.heap[g]?) : OwnM w' base v es := by
  obtain ⟨⟨h1, h2⟩, h3⟩ := h
  refine ⟨⟨h1, ?_⟩, h3⟩
  rcases h2 with h2 | ⟨g, cap, cur, rfl, hg, hh, r⟩
  · exact Or.inl h2
  · exact Or.inr ⟨g, cap, cur, rfl, hg, by rw [hb g rfl]; exact hh, r⟩
theorem OwnM.later {B : Nat} (h : OwnM w base v es) (hb : Below B w w') (hB : w.heap.size ≤ B) : OwnM w' base v es :=
  h.far fun g hg => hb.block g (Nat.lt_of_lt_of_le (h.lt g hg).2 hB)
theorem OwnM.mono {base' : Nat} (h : OwnM w base v es) (hb : base' ≤ base) : OwnM w base' v es := by
  obtain ⟨⟨h1, h2⟩, h3⟩ := h
  refine ⟨⟨h1, ?_⟩, h3⟩
  rcases h2 with h2 | ⟨g, cap, cur, hv, hg, r⟩
  · exact Or.inl h2
  · exact Or.inr ⟨g, cap, cur, hv, Nat.le_trans hb hg, r⟩
end
set_option maxRecDepth 100000 in
theorem infoM : ∃ i z, Tryz.prog.info? 57 = some i ∧ i.zero = some z ∧ i.size = 33 ∧ i.bytes = 40 ∧ z.cells.size = 33 := ⟨_, _, rfl, rfl, rfl, rfl, rfl⟩
theorem wpList_append_M (w : World) {ops : Array Oper} {rest : List Oper} {o : Oper} {a : Act} {Q : Exit → Act → World → Prop} (hgd : o.guard = none) (s x : Operand)
    (ho : o.op = .call { callee := .builtin .append, args := #[s, x], argTypes := #[31, 31] })
    (base : Nat) (v : Value) (es : List LkC) (hsv : a.eval s = v) (hown : OwnM w base v es) (e : LkC) (he : e.ok) (g c : Nat) (hx : a.eval x = .slice (some ⟨g, 0, none⟩) 1 c) (hblk : w.rangeAt g 0 e.l)
    (hbytes : (es.length + 1) * 40 ≤ 140737488355328) (hbase : base ≤ w.heap.size)
    (h : ∀ v' w', OwnM w' base v' (es ++ [e]) → w.grownBy w' v.ownBlock → wpList Tryz.prog ops Q rest (a.put o.dst v') w') :
    wpList Tryz.prog ops Q (o :: rest) a w := by
  obtain ⟨i, z, hi, hz, hs, hb0, hc⟩ := infoM
  refine wpList_plain hgd fun K hK => ?_
  have hcell : ∀ j u, e.l[j]? = some u → w.cell? ((⟨g, 0, none⟩ : Addr).add j) = some u := fun j u hu => by
    rw [add_plain]
    exact hblk j u hu
  obtain ⟨v', w', hr, h2, h3, -, -⟩ := run_append_own_at (P := Tryz.prog) w base 31 o.type 57 i z 33 40 Tryz.underlying31 hi hz hs hb0 hc (by decide) v _ _ hown.1 ⟨g, 0, none⟩ 1 c e.l (by rw [LkC.len he]) hcell (LkC.ones e) (by unfold maxLen; omega) hbytes hbase
  unfold Oper.wp execOp
  simp only [ho, resolve, invoke, builtin, Sem.run_bind, Sem.run_pure, Result.andThen_ok, List.map_toArray, List.map_cons, List.map_nil, hsv, hx, hr]
  refine hK _ _ (h v' w' ⟨?_, fun x hx => ?_⟩ h3)
  · rw [List.flatMap_append, List.length_append]
    simpa using h2
  · rcases List.mem_append.1 hx with hx | hx
    · exact hown.2 x hx
    · simp at hx; rw [hx]; exact he
set_option maxRecDepth 100000 in
theorem zeroM1 : ∃ i z, Tryz.prog.info? 57 = some i ∧ i.zero = some z ∧ i.size = 33 ∧ (Array.range (1 * 33)).map (z.cells[· % z.cells.size]!) = z33L.toArray := ⟨_, _, rfl, rfl, rfl, by kernel_rfl⟩
theorem wpList_sliceM {ops : Array Oper} {rest : List Oper} {o : Oper} {a : Act} {w : World} {Q : Exit → Act → World → Prop} (hg : o.guard = none) (o1 : Operand) (ho : o.op = .buildSlice 31 1 #[(0, o1)])
    (IL : List Value) (hl : IL.length = 33) (h1 : a.eval o1 = .agg IL.toArray)
    (h : wpList Tryz.prog ops Q rest (a.put o.dst (.slice (some ⟨w.heap.size, 0, none⟩) 1 1)) (w.alloc (.cells IL.toArray 57))) : wpList Tryz.prog ops Q (o :: rest) a w := by
  obtain ⟨i, z, hi, hz, hs, hr⟩ := zeroM1
  refine wpList_buildSlice hg 31 57 1 _ ho IL.toArray i z Tryz.underlying31 hi hz (by rw [hs]; decide) (by rw [hs]; decide) ?_ h
  rw [hs, hr]
  simp only [List.map_toArray, List.map_cons, List.map_nil, h1]
  have e0 : z33L = [] ++ z33L ++ [] := by simp
  rw [e0, fillE_cons _ 0 _ _ [] z33L [] IL (by rw [z33L_len]; rfl) rfl (by rw [hl, z33L_len])]
  unfold Instr.fill
  simp
set_option maxRecDepth 100000 in
theorem builtMk (X Y : Value) : Tryz.prog.built 57 [(0, X), (1, Y)] = Instr.fill ((#[(0, 1), (1, 32)] : Array (Nat × Nat))[·]?) z33L.toArray [(0, X), (1, Y)] := by kernel_rfl
theorem wpList_buildMk {ops : Array Oper} {rest : List Oper} {o : Oper} {a : Act} {w : World} {Q : Exit → Act → World → Prop} (hg : o.guard = none) (o1 o2 : Operand) (ho : o.op = .build 57 #[(0, o1), (1, o2)])
    (k : Int) (p : List Int) (hp : IdOk p) (h1 : a.eval o1 = .int .i64 k) (h2 : a.eval o2 = .agg (cellsK .u8 p).toArray)
    (h : wpList Tryz.prog ops Q rest (a.put o.dst (.agg (LkC.l ⟨k, p⟩).toArray)) w) : wpList Tryz.prog ops Q (o :: rest) a w := by
  refine wpList_plain hg fun K hK => ?_
  have hb : Tryz.prog.built 57 [(0, Value.int .i64 k), (1, .agg (cellsK .u8 p).toArray)] = some (LkC.l ⟨k, p⟩).toArray := by
    rw [builtMk]
    exact fillLk k hp
  have hr := run_build (P := Tryz.prog) w 57 #[(0, Value.int .i64 k), (1, .agg (cellsK .u8 p).toArray)] _ hb
  unfold Oper.wp execOp
  simp only [ho, Sem.run_bind, List.map_toArray, List.map_cons, List.map_nil, h1, h2, hr, Result.andThen_ok]
  exact hK _ _ h
theorem OwnL.rdL {w : World} {base : Nat} {v : Value} {es : List LkC} (h : OwnL w base v es) : RdL w v es := by
  have hlt := h.lt
  have h' := h
  rcases h.1.2 with ⟨rfl, hn⟩ | ⟨g, cap, cur, rfl, hbg, hg, hnc, hcm, hcs, htake⟩
  · have hx : es = [] := List.eq_nil_of_length_eq_zero hn
    subst hx
    exact ⟨none, 0, rfl, Nat.le_refl _, (fun e he => by cases he), fun h0 => by simp at h0⟩
  · refine ⟨some ⟨g, 0, none⟩, cap, rfl, hnc, h'.2, fun _ => ⟨g, 0, rfl, (hlt g rfl).2, fun i hi j u hu => ?_⟩⟩
    have hj : j < 33 := by
      have hl := LkC.len (h'.2 _ (List.getElem_mem hi))
      rcases Nat.lt_or_ge j (es[i]'hi).l.length with h2 | h2
      · omega
      · rw [List.getElem?_eq_none h2] at hu; cases hu
    have := World.ownsRow.cells h'.1 (g := g) rfl (i * 33 + j) u (by rw [lflat_get h'.2 hi hj, show lkI es i = es[i]'hi by simp [lkI, List.getD, List.getElem?_eq_getElem hi]]; exact hu)
    rw [add_plain, Nat.zero_add] at this
    rw [Nat.zero_add]
    exact this
theorem OwnM.rdL {w : World} {base : Nat} {v : Value} {es : List LkC} (h : OwnM w base v es) : RdL w v es := by
  have hlt := h.lt
  have h' := h
  rcases h.1.2 with ⟨rfl, hn⟩ | ⟨g, cap, cur, rfl, hbg, hg, hnc, hcm, hcs, htake⟩
  · have hx : es = [] := List.eq_nil_of_length_eq_zero hn
    subst hx
    exact ⟨none, 0, rfl, Nat.le_refl _, (fun e he => by cases he), fun h0 => by simp at h0⟩
  · refine ⟨some ⟨g, 0, none⟩, cap, rfl, hnc, h'.2, fun _ => ⟨g, 0, rfl, (hlt g rfl).2, fun i hi j u hu => ?_⟩⟩
    have hj : j < 33 := by
      have hl := LkC.len (h'.2 _ (List.getElem_mem hi))
      rcases Nat.lt_or_ge j (es[i]'hi).l.length with h2 | h2
      · omega
      · rw [List.getElem?_eq_none h2] at hu; cases hu
    have := World.ownsRow.cells h'.1 (g := g) rfl (i * 33 + j) u (by rw [lflat_get h'.2 hi hj, show lkI es i = es[i]'hi by simp [lkI, List.getD, List.getElem?_eq_getElem hi]]; exact hu)
    rw [add_plain, Nat.zero_add] at this
    rw [Nat.zero_add]
    exact this


def cmLk (R : CmC) : List LkC := ⟨2, R.tg⟩ :: R.ps.map (fun p => ⟨1, p⟩)
def tgLk (R : LbC) : List LkC := [⟨R.k, R.tg⟩]
def LkCm (xs : List Int) (L : List LkC) (E : Int) : Prop := ∃ R, DcEnd xs R E ∧ L = if E = 0 then cmLk R else []
def LkTr (xs : List Int) (L : List LkC) (E : Int) : Prop := ∃ R, DtEnd xs R E ∧ L = R.map lkOf
def LkTg (xs : List Int) (L : List LkC) (E : Int) : Prop := ∃ R, DgEnd xs R E ∧ L = if E = 0 then tgLk R else []
def LkEnd (k : Int) (xs : List Int) (L : List LkC) (E : Int) : Prop :=
  if 1048576 < xs.length then L = [] ∧ E = 2 else if k = 1 then LkCm xs L E else if k = 2 then LkTr xs L E else if k = 3 then L = [] ∧ E = 0 else if k = 4 then LkTg xs L E else L = [] ∧ E = 9
theorem LkCm.one {xs : List Int} {L L' : List LkC} {E E' : Int} (h : LkCm xs L E) (g : LkCm xs L' E') : L = L' ∧ E = E' := by
  obtain ⟨R, h1, rfl⟩ := h
  obtain ⟨R', g1, rfl⟩ := g
  obtain ⟨rfl, rfl⟩ := dc_one h1 g1
  exact ⟨rfl, rfl⟩
theorem LkTr.one {xs : List Int} {L L' : List LkC} {E E' : Int} (h : LkTr xs L E) (g : LkTr xs L' E') : L = L' ∧ E = E' := by
  obtain ⟨R, h1, rfl⟩ := h
  obtain ⟨R', g1, rfl⟩ := g
  obtain ⟨rfl, rfl⟩ := dp_one h1 g1
  exact ⟨rfl, rfl⟩
theorem LkTg.one {xs : List Int} {L L' : List LkC} {E E' : Int} (h : LkTg xs L E) (g : LkTg xs L' E') : L = L' ∧ E = E' := by
  obtain ⟨R, h1, rfl⟩ := h
  obtain ⟨R', g1, rfl⟩ := g
  obtain ⟨rfl, rfl⟩ := dg_one h1 g1
  exact ⟨rfl, rfl⟩
theorem lk_one {k : Int} {xs : List Int} {L L' : List LkC} {E E' : Int} (h : LkEnd k xs L E) (g : LkEnd k xs L' E') : L = L' ∧ E = E' := by
  unfold LkEnd at h g
  by_cases hl : 1048576 < xs.length
  · rw [if_pos hl] at h g
    exact ⟨h.1.trans g.1.symm, h.2.trans g.2.symm⟩
  · rw [if_neg hl] at h g
    by_cases h1 : k = 1
    · rw [if_pos h1] at h g
      exact h.one g
    · rw [if_neg h1] at h g
      by_cases h2 : k = 2
      · rw [if_pos h2] at h g
        exact h.one g
      · rw [if_neg h2] at h g
        by_cases h3 : k = 3
        · rw [if_pos h3] at h g
          exact ⟨h.1.trans g.1.symm, h.2.trans g.2.symm⟩
        · rw [if_neg h3] at h g
          by_cases h4 : k = 4
          · rw [if_pos h4] at h g
            exact h.one g
          · rw [if_neg h4] at h g
            exact ⟨h.1.trans g.1.symm, h.2.trans g.2.symm⟩
theorem DtEnd.lens {xs : List Int} {R : List EnC} {E : Int} (h : DtEnd xs R E) : R.length ≤ 4096 := by
  rcases h with ⟨-, rfl, -⟩ | ⟨-, ⟨h, -⟩ | ⟨-, rfl, -⟩⟩
  · simp
  · exact (treE_ok h.e).1
  · simp
theorem LkEnd.len {k : Int} {xs : List Int} {L : List LkC} {E : Int} (h : LkEnd k xs L E) : L.length ≤ 4096 := by
  unfold LkEnd at h
  split at h
  · rw [h.1]; simp
  split at h
  · obtain ⟨R, h1, rfl⟩ := h
    have := (dc_ok h1).2
    split
    · unfold cmLk; rw [List.length_cons, List.length_map]; omega
    · simp
  split at h
  · obtain ⟨R, h1, rfl⟩ := h
    rw [List.length_map]
    exact h1.lens
  split at h
  · rw [h.1]; simp
  split at h
  · obtain ⟨R, h1, rfl⟩ := h
    split
    · simp [tgLk]
    · simp
  · rw [h.1]; simp
end Go.Proofs.YtkdlhcegimnocaaGreatDoor
