/-
  Entries in memory of the call's own: built, appended.
-/
import Derived.Test.YtkbalngddlhlpaaGreatDoorO25
import Derived.Great.BuildSlice
import Derived.Sort.Grow
import Derived.Laws.CopyRow
namespace Go.Proofs.YtkbalngddlhlpaaGreatDoor
open Go.RowKit

def OwnE (w : World) (base : Nat) (v : Value) (es : List EnC) : Prop := w.ownsRow base 33 34 v es.length (es.flatMap EnC.l) ∧ ∀ e ∈ es, e.ok
theorem eflat_get : ∀ {es : List EnC}, (∀ e ∈ es, e.ok) → ∀ {i j : Nat}, i < es.length → j < 34 → (es.flatMap EnC.l)[i * 34 + j]? = (eI es i).l[j]?
  | [], _, _, _, hi, _ => by simp at hi
  | r :: rs, h, 0, j, _, hj => by
    rw [Nat.zero_mul, Nat.zero_add, List.flatMap_cons, List.getElem?_append_left (by rw [EnC.len (h r List.mem_cons_self)]; exact hj)]
    rfl
  | r :: rs, h, i + 1, j, hi, hj => by
    have hl := EnC.len (h r List.mem_cons_self)
    rw [List.flatMap_cons, List.getElem?_append_right (by rw [hl]; omega), hl, show (i + 1) * 34 + j - 34 = i * 34 + j by omega]
    rw [eflat_get (fun r hr => h r (List.mem_cons_of_mem _ hr)) (by simpa using hi) hj]
    simp [eI]
theorem OwnE.nil (w : World) (base : Nat) : OwnE w base (.slice none 0 0) [] := ⟨World.ownsRow_nil w base 33 34, fun _ h => by cases h⟩
section
variable {w w' : World} {base : Nat} {v : Value} {es : List EnC}
theorem OwnE.lt (h : OwnE w base v es) : ∀ g, v.ownBlock = some g → base ≤ g ∧ g < w.heap.size := by
  intro g hg
  rcases h.1.2 with ⟨rfl, _⟩ | ⟨g', cap, cur, rfl, hbg, hh, _⟩
  · simp [Value.ownBlock] at hg
  · simp [Value.ownBlock] at hg
    subst hg
    refine ⟨hbg, ?_⟩
    rcases Nat.lt_or_ge g' w.heap.size with h' | h'
    · exact h'
    · rw [Array.getElem?_eq_none h'] at hh
      cases hh
theorem OwnE.far (h : OwnE w base v es) (hb : ∀ g, v.ownBlock = some g → w'.heap[g]? = w.heap[g]?) : OwnE w' base v es := by
  obtain ⟨⟨h1, h2⟩, h3⟩ := h
  refine ⟨⟨h1, ?_⟩, h3⟩
  rcases h2 with h2 | ⟨g, cap, cur, rfl, hg, hh, r⟩
  · exact Or.inl h2
  · exact Or.inr ⟨g, cap, cur, rfl, hg, by rw [hb g rfl]; exact hh, r⟩
theorem OwnE.later {B : Nat} (h : OwnE w base v es) (hb : Below B w w') (hB : w.heap.size ≤ B) : OwnE w' base v es :=
  h.far fun g hg => hb.block g (Nat.lt_of_lt_of_le (h.lt g hg).2 hB)
theorem OwnE.mono {base' : Nat} (h : OwnE w base v es) (hb : base' ≤ base) : OwnE w base' v es := by
  obtain ⟨⟨h1, h2⟩, h3⟩ := h
  refine ⟨⟨h1, ?_⟩, h3⟩
  rcases h2 with h2 | ⟨g, cap, cur, hv, hg, r⟩
  · exact Or.inl h2
  · exact Or.inr ⟨g, cap, cur, hv, Nat.le_trans hb hg, r⟩
theorem OwnE.rdE (h : OwnE w base v es) : RdE w v es := by
  have hlt := h.lt
  have h' := h
  rcases h.1.2 with ⟨rfl, hn⟩ | ⟨g, cap, cur, rfl, hbg, hg, hnc, hcm, hcs, htake⟩
  · have hx : es = [] := List.eq_nil_of_length_eq_zero hn
    subst hx
    exact ⟨none, 0, rfl, Nat.le_refl _, (fun e he => by cases he), fun h0 => by simp at h0⟩
  · refine ⟨some ⟨g, 0, none⟩, cap, rfl, hnc, h'.2, fun _ => ⟨g, 0, rfl, (hlt g rfl).2, fun i hi j u hu => ?_⟩⟩
    have hj : j < 34 := by
      have hl := EnC.len (h'.2 _ (List.getElem_mem hi))
      rcases Nat.lt_or_ge j (es[i]'hi).l.length with h2 | h2
      · omega
      · rw [List.getElem?_eq_none h2] at hu; cases hu
    have := World.ownsRow.cells h'.1 (g := g) rfl (i * 34 + j) u (by rw [eflat_get h'.2 hi hj, eI_get hi]; exact hu)
    rw [add_plain, Nat.zero_add] at this
    rw [Nat.zero_add]
    exact this
end
set_option maxRecDepth 100000 in
theorem infoE : ∃ i z, Tryz.prog.info? 33 = some i ∧ i.zero = some z ∧ i.size = 34 ∧ i.bytes = 56 ∧ z.cells.size = 34 := ⟨_, _, rfl, rfl, rfl, rfl, rfl⟩
theorem wpList_append_E (w : World) {ops : Array Oper} {rest : List Oper} {o : Oper} {a : Act} {Q : Exit → Act → World → Prop} (hgd : o.guard = none) (s x : Operand)
    (ho : o.op = .call { callee := .builtin .append, args := #[s, x], argTypes := #[35, 35] })
    (base : Nat) (v : Value) (es : List EnC) (hsv : a.eval s = v) (hown : OwnE w base v es) (e : EnC) (he : e.ok) (g c : Nat) (hx : a.eval x = .slice (some ⟨g, 0, none⟩) 1 c) (hblk : w.rangeAt g 0 e.l)
    (hbytes : (es.length + 1) * 56 ≤ 140737488355328) (hbase : base ≤ w.heap.size)
    (h : ∀ v' w', OwnE w' base v' (es ++ [e]) → w.grownBy w' v.ownBlock → wpList Tryz.prog ops Q rest (a.put o.dst v') w') :
    wpList Tryz.prog ops Q (o :: rest) a w := by
  obtain ⟨i, z, hi, hz, hs, hb0, hc⟩ := infoE
  refine wpList_plain hgd fun K hK => ?_
  have hcell : ∀ j u, e.l[j]? = some u → w.cell? ((⟨g, 0, none⟩ : Addr).add j) = some u := fun j u hu => by
    rw [add_plain]
    exact hblk j u hu
  obtain ⟨v', w', hr, h2, h3, -, -⟩ := run_append_own_at (P := Tryz.prog) w base 35 o.type 33 i z 34 56 Tryz.underlying35 hi hz hs hb0 hc (by decide) v _ _ hown.1 ⟨g, 0, none⟩ 1 c e.l (by rw [EnC.len he]) hcell (EnC.ones e) (by unfold maxLen; omega) hbytes hbase
  unfold Oper.wp execOp
  simp only [ho, resolve, invoke, builtin, Sem.run_bind, Sem.run_pure, Result.andThen_ok, List.map_toArray, List.map_cons, List.map_nil, hsv, hx, hr]
  refine hK _ _ (h v' w' ⟨?_, fun x hx => ?_⟩ h3)
  · rw [List.flatMap_append, List.length_append]
    simpa using h2
  · rcases List.mem_append.1 hx with hx | hx
    · exact hown.2 x hx
    · simp at hx; rw [hx]; exact he
def z32L : List Int := List.replicate 32 0
def z34E : List Value := Value.int .i64 0 :: Value.string ⟨#[]⟩ :: cellsK .u8 z32L
theorem z34E_len : z34E.length = 34 := by unfold z34E z32L cellsK; simp
set_option maxRecDepth 100000 in
theorem builtE (X Y : Value) : Tryz.prog.built 33 [(0, X), (1, Y)] = Instr.fill ((#[(0, 1), (1, 1), (2, 32)] : Array (Nat × Nat))[·]?) z34E.toArray [(0, X), (1, Y)] := by kernel_rfl
theorem fillE_two (m : Int) (nm : ByteArray) : Instr.fill ((#[(0, 1), (1, 1), (2, 32)] : Array (Nat × Nat))[·]?) z34E.toArray [(0, .int .i64 m), (1, .string nm)] = some (EnC.l ⟨m, nm, z32L⟩).toArray := by
  have e0 : z34E = [] ++ [Value.int .i64 0] ++ (Value.string ⟨#[]⟩ :: cellsK .u8 z32L) := rfl
  rw [e0, fillE_cons _ 0 _ _ [] [Value.int .i64 0] (Value.string ⟨#[]⟩ :: cellsK .u8 z32L) [Value.int .i64 m] rfl rfl rfl]
  have e1 : [] ++ [Value.int .i64 m] ++ (Value.string ⟨#[]⟩ :: cellsK .u8 z32L) = [Value.int .i64 m] ++ [Value.string ⟨#[]⟩] ++ cellsK .u8 z32L := by simp
  rw [e1, fillE_cons _ 1 _ _ [Value.int .i64 m] [Value.string ⟨#[]⟩] (cellsK .u8 z32L) [Value.string nm] rfl rfl rfl]
  unfold Instr.fill EnC.l
  simp
theorem wpList_buildE {ops : Array Oper} {rest : List Oper} {o : Oper} {a : Act} {w : World} {Q : Exit → Act → World → Prop} (hg : o.guard = none) (o1 o2 : Operand) (ho : o.op = .build 33 #[(0, o1), (1, o2)])
    (m : Int) (nm : ByteArray) (h1 : a.eval o1 = .int .i64 m) (h2 : a.eval o2 = .string nm)
    (h : wpList Tryz.prog ops Q rest (a.put o.dst (.agg (EnC.l ⟨m, nm, z32L⟩).toArray)) w) : wpList Tryz.prog ops Q (o :: rest) a w := by
  refine wpList_plain hg fun K hK => ?_
  have hb : Tryz.prog.built 33 [(0, Value.int .i64 m), (1, Value.string nm)] = some (EnC.l ⟨m, nm, z32L⟩).toArray := by
    rw [builtE]
    exact fillE_two m nm
  have hr := run_build (P := Tryz.prog) w 33 #[(0, Value.int .i64 m), (1, Value.string nm)] _ hb
  unfold Oper.wp execOp
  simp only [ho, Sem.run_bind, List.map_toArray, List.map_cons, List.map_nil, h1, h2, hr, Result.andThen_ok]
  exact hK _ _ h
set_option maxRecDepth 100000 in
theorem zeroE1 : ∃ i z, Tryz.prog.info? 33 = some i ∧ i.zero = some z ∧ i.size = 34 ∧ (Array.range (1 * 34)).map (z.cells[· % z.cells.size]!) = z34E.toArray := ⟨_, _, rfl, rfl, rfl, by kernel_rfl⟩
theorem wpList_sliceE {ops : Array Oper} {rest : List Oper} {o : Oper} {a : Act} {w : World} {Q : Exit → Act → World → Prop} (hg : o.guard = none) (o1 : Operand) (ho : o.op = .buildSlice 35 1 #[(0, o1)])
    (IL : List Value) (hl : IL.length = 34) (h1 : a.eval o1 = .agg IL.toArray)
    (h : wpList Tryz.prog ops Q rest (a.put o.dst (.slice (some ⟨w.heap.size, 0, none⟩) 1 1)) (w.alloc (.cells IL.toArray 33))) : wpList Tryz.prog ops Q (o :: rest) a w := by
  obtain ⟨i, z, hi, hz, hs, hr⟩ := zeroE1
  refine wpList_buildSlice hg 35 33 1 _ ho IL.toArray i z Tryz.underlying35 hi hz (by rw [hs]; decide) (by rw [hs]; decide) ?_ h
  rw [hs, hr]
  simp only [List.map_toArray, List.map_cons, List.map_nil, h1]
  have e0 : z34E = [] ++ z34E ++ [] := by simp
  rw [e0, fillE_cons _ 0 _ _ [] z34E [] IL (by rw [z34E_len]; rfl) rfl (by rw [hl, z34E_len])]
  unfold Instr.fill
  simp


def idOf (l : List UInt8) : List Int := (l.take 32).map (fun b => (b.toNat : Int)) ++ List.replicate (32 - l.length) 0
theorem idOf_len (l : List UInt8) : (idOf l).length = 32 := by unfold idOf; simp; omega
theorem idOf_bytes (l : List UInt8) : AllIn 0 256 (idOf l) := by
  intro x hx
  unfold idOf at hx
  rcases List.mem_append.1 hx with hx | hx
  · obtain ⟨b, -, rfl⟩ := List.mem_map.1 hx
    have := b.toNat_lt
    omega
  · rw [List.eq_of_mem_replicate hx]; omega
def OctOk (l : List UInt8) (n : Int) : Prop := IsOct (l.map fun b => (b.toNat : Int)) → l.length ≤ 20 → l ≠ [] → n = octG 0 (l.map fun b => (b.toNat : Int))
inductive RdT : List UInt8 → List EnC → Prop
  | nil : RdT [] []
  | cons {s : List UInt8} {e : EnC} {es : List EnC} (h0 : s ≠ []) (hm : OctOk (Lib.cut s [32]).1 e.m) (hn : e.nm = ⟨(Lib.cut (Lib.cut s [32]).2.1 [0]).1.toArray⟩)
      (hi : e.ids = idOf (Lib.cut (Lib.cut s [32]).2.1 [0]).2.1) (hr : RdT ((Lib.cut (Lib.cut s [32]).2.1 [0]).2.1.drop 32) es) : RdT s (e :: es)
theorem cut_len (l : List UInt8) (c : UInt8) : (Lib.cut l [c]).1.length ≤ l.length ∧ (Lib.cut l [c]).2.1.length ≤ l.length ∧ (l ≠ [] → (Lib.cut l [c]).2.1.length < l.length) := by
  unfold Lib.cut
  split
  · refine ⟨by simp; omega, by simp, fun h => ?_⟩
    have : 0 < l.length := List.length_pos_iff.2 h
    simp
    omega
  · refine ⟨Nat.le_refl _, by simp, fun h => ?_⟩
    exact List.length_pos_iff.2 h
theorem setRow_ids {m : Int} {nm : ByteArray} {l : List UInt8} : ((EnC.l ⟨m, nm, z32L⟩).toArray.toList.take 2 ++ cellsK .u8 (l.map fun b => (b.toNat : Int)) ++ (EnC.l ⟨m, nm, z32L⟩).toArray.toList.drop (2 + l.length)) = EnC.l ⟨m, nm, l.map (fun b => (b.toNat : Int)) ++ List.replicate (32 - l.length) 0⟩ := by
  unfold EnC.l z32L cellsK
  rw [show 2 + l.length = l.length + 2 by omega]
  simp only [List.take_succ_cons, List.take_zero, List.drop_succ_cons, List.map_append, List.map_replicate, List.drop_replicate, List.cons_append, List.nil_append]
theorem run_copy_id (w : World) (ty : TypeId) (g : Nat) (s : ByteArray) (m : Int) (nm : ByteArray) (hg : w.heap[g]? = some (.cells (EnC.l ⟨m, nm, z32L⟩).toArray 33)) :
    (Builtin.copy_ #[27, 9] ty #[.slice (some ⟨g, 2, none⟩) 32 32, .string s]).run Tryz.prog w = .ok (goInt ((min s.size 32 : Nat) : Int)) (w.setRow g (EnC.l ⟨m, nm, idOf s.data.toList⟩).toArray) := by
  obtain ⟨i, hq, -, -, -⟩ := info8z
  have hsl : s.size = s.data.toList.length := by rw [Lib.size_eq]
  obtain ⟨vs, hvs⟩ : ∃ vs, s.data.toList.take (min s.size 32) = vs := ⟨_, rfl⟩
  have hvl : vs.length = min s.size 32 := by rw [← hvs, List.length_take, ← hsl]; omega
  have hcs : List.take (min s.size 32) (List.map (fun b : UInt8 => Value.int IntKind.u8 (b.toNat : Int)) s.data.toList) = cellsK .u8 (vs.map fun b => (b.toNat : Int)) := by
    rw [← List.map_take, hvs]
    unfold cellsK
    rw [List.map_map]
    rfl
  have hst := run_storeCells_at Tryz.prog g 2 33 (cellsK .u8 (vs.map fun b => (b.toNat : Int))) 0 (EnC.l ⟨m, nm, z32L⟩).toArray w hg (by rw [cellsK_length, List.length_map, hvl, List.size_toArray]; unfold EnC.l z32L cellsK; simp; omega) (cellsK_one _ _)
  have hlen : (cellsK .u8 (vs.map fun b => (b.toNat : Int))).length = vs.length := by rw [cellsK_length, List.length_map]
  rw [hlen] at hst
  simp only [Nat.add_zero] at hst
  rw [setRow_ids] at hst
  have hid : idOf s.data.toList = vs.map (fun b => (b.toNat : Int)) ++ List.replicate (32 - vs.length) 0 := by
    unfold idOf
    rw [← hvs]
    by_cases h : s.size ≤ 32
    · rw [Nat.min_eq_left h, List.take_of_length_le (by omega), List.take_of_length_le (by omega)]
    · rw [Nat.min_eq_right (by omega)]
      have h1 : (s.data.toList.take 32).length = 32 := by rw [List.length_take]; omega
      rw [h1, show 32 - s.data.toList.length = 0 by omega]
  rw [hid]
  have hmin : Nat.min s.size 32 = min s.size 32 := rfl
  simp [Builtin.copy_, run_underlying Tryz.underlying27, Builtin.lenOf, Builtin.firstCells, sizeOf, typeInfo, hq, hmin]
  rw [hcs, hst]
  simp [Result.andThen]
set_option maxHeartbeats 1000000 in
set_option maxRecDepth 100000 in
theorem cloneS_any (s : ByteArray) (w : World) (hs : s.size ≤ 281474976710656) : Calls Tryz.prog 74 #[.string s] w fun e w' => e = .returned (.string s) ∧ Below w.heap.size w w' := by
  have KC := Kept.mk (Tryz.stringslite_Clone s w hs)
  go_enter Tryz.func74, Tryz.ntmps74
  go_wp2_with fail
  refine Calls.mono KC.out (fun e w1 hp => ?_)
  obtain ⟨rfl, hb⟩ := hp
  have KB := Kept.mk hb
  clear hb
  go_wp2
  go_ret
  exact ⟨rfl, KB.out⟩
def strSz : Value → Nat
  | .string t => t.size
  | _ => 0
theorem size_mk (l : List UInt8) : (⟨l.toArray⟩ : ByteArray).size = l.length := by
  rw [Lib.size_eq]
theorem ext_drop (s : ByteArray) (k : Nat) : (s.extract k s.size).data.toList = s.data.toList.drop k := by
  rw [ByteArray.data_extract, Array.toList_extract, List.extract_eq_take_drop]
  refine List.take_of_length_le ?_
  rw [List.length_drop, Lib.size_eq]
  omega


structure RdS (s t : ByteArray) (es : List EnC) : Prop where
  le : t.size ≤ s.size
  cnt : es.length + t.size ≤ s.size
  nms : ∀ e ∈ es, e.nm.size ≤ s.size
  rd : ∀ es2, RdT t.data.toList es2 → RdT s.data.toList (es ++ es2)
theorem RdS.start (s : ByteArray) : RdS s s [] := ⟨Nat.le_refl _, by simp, (fun _ h => by cases h), fun es2 h => h⟩
set_option maxHeartbeats 4000000 in
set_option maxRecDepth 100000 in
theorem readTree_any (s : ByteArray) (w : World) (hg : Gl w) (hs : s.size ≤ 1048576) :
    Calls Tryz.prog 38 #[.string s] w fun e w' => ∃ v es, e = .returned v ∧ OwnE w' w.heap.size v es ∧ RdT s.data.toList es ∧ es.length ≤ s.size ∧ (∀ e ∈ es, e.nm.size ≤ s.size) ∧ Below w.heap.size w w' := by
  have KG := Kept.mk hg
  clear hg
  go_enter Tryz.func38, Tryz.ntmps38
  go_wp2
  go_loopw [0, 3] (fun tv lv wr => ∃ (t : ByteArray) (es : List EnC), tv = .string t ∧ OwnE wr w.heap.size lv es ∧ RdS s t es ∧ Below w.heap.size w wr) (fun tv _ _ => strSz tv)
  case atStart => exact ⟨s, [], rfl, OwnE.nil _ _, RdS.start s, Below.refl _ _⟩
  case round =>
    obtain ⟨t, es, rfl, how, hrs, hbel⟩ := hrel
    have KO := Kept.mk how
    have KS := Kept.mk hrs
    have KB := Kept.mk hbel
    have hts : t.size ≤ 1048576 := Nat.le_trans hrs.le hs
    have hln : es.length ≤ 1048576 := by have := hrs.cnt; omega
    obtain ⟨pa, pc, rfl, -⟩ := how.rdE
    by_cases h0 : t.size = 0
    · obtain rfl : t = ⟨#[]⟩ := by rcases t with ⟨a⟩; have : a = #[] := Array.eq_empty_of_size_eq_zero h0; rw [this]
      have KF : Kept (RdT s.data.toList es ∧ es.length ≤ s.size ∧ ∀ e ∈ es, e.nm.size ≤ s.size) := ⟨by have := KS.out.rd [] RdT.nil; rwa [List.append_nil] at this, by have := KS.out.cnt; omega, KS.out.nms⟩
      clear hrs how hbel h0
      go_wp2
      go_ret
      exact ⟨_, es, rfl, KO.out, KF.out.1, KF.out.2.1, KF.out.2.2, KB.out⟩
    · have hne : t.data.toList ≠ [] := fun h => h0 (by rw [Lib.size_eq, h]; rfl)
      have hemp : t.toList.isEmpty = false := by
        rw [← decide_eq_emptyBytes]
        exact decide_eq_false (fun h => h0 (by rw [h]; rfl))
      obtain ⟨A1, hA1⟩ : ∃ A1, (Lib.cut t.data.toList [32]).1 = A1 := ⟨_, rfl⟩
      obtain ⟨A2, hA2⟩ : ∃ A2, (Lib.cut t.data.toList [32]).2.1 = A2 := ⟨_, rfl⟩
      obtain ⟨B1, hB1⟩ : ∃ B1, (Lib.cut A2 [0]).1 = B1 := ⟨_, rfl⟩
      obtain ⟨B2, hB2⟩ : ∃ B2, (Lib.cut A2 [0]).2.1 = B2 := ⟨_, rfl⟩
      have hl1 := cut_len t.data.toList 32
      have hl2 := cut_len A2 0
      rw [hA1, hA2] at hl1
      rw [hB1, hB2] at hl2
      have htl : t.data.toList.length = t.size := by rw [Lib.size_eq]
      have hA2l := hl1.2.2 hne
      have sA1 := size_mk A1
      have sA2 := size_mk A2
      have sB1 := size_mk B1
      have sB2 := size_mk B2
      obtain ⟨m, hm⟩ := (KG.out.later hbel).mx
      have KC1 := Kept.mk (Tryz.strings_Cut t ⟨#[32]⟩ m wr (by omega) hm)
      have hc1 : (Lib.cut t.data.toList (⟨#[32]⟩ : ByteArray).data.toList) = Lib.cut t.data.toList [32] := rfl
      rw [hc1, hA1, hA2] at KC1
      have KSt : Kept (∀ (e : EnC), OctOk A1 e.m → e.nm = ⟨B1.toArray⟩ → e.ids = idOf B2 → ∀ t' : ByteArray, t'.data.toList = B2.drop 32 → RdS s t' (es ++ [e])) := ⟨fun e h1 h2 h3 t' h4 => by
        have hle := KS.out.le
        have hcn := KS.out.cnt
        have ht' : t'.size ≤ A2.length := by rw [Lib.size_eq, h4, List.length_drop]; omega
        refine ⟨by omega, by rw [List.length_append]; simp; omega, fun x hx => ?_, fun es2 h5 => ?_⟩
        · rcases List.mem_append.1 hx with hx | hx
          · exact KS.out.nms x hx
          · simp at hx; rw [hx, h2, sB1]; omega
        · rw [List.append_assoc]
          refine KS.out.rd _ (RdT.cons hne (by rw [hA1]; exact h1) (by rw [hA2, hB1]; exact h2) (by rw [hA2, hB2]; exact h3) ?_)
          rw [hA2, hB2, ← h4]
          exact h5⟩
      have KB2l : Kept (B2.length < t.size) := ⟨by omega⟩
      have Kts : Kept (t.size ≤ 1048576 ∧ A1.length ≤ t.size ∧ A2.length ≤ t.size ∧ B1.length ≤ t.size ∧ B2.length ≤ t.size) := ⟨hts, by omega, by omega, by omega, by omega⟩
      have KcB : Kept (∀ W, Gl W → Calls Tryz.prog 72 #[.string ⟨A2.toArray⟩, .string ⟨#[0]⟩] W fun e w' => (∃ f, e = .returned (.tuple #[.string ⟨B1.toArray⟩, .string ⟨B2.toArray⟩, .bool f])) ∧ ∃ n, w' = W.drewN n) := ⟨fun W hW => by
        obtain ⟨m, hm⟩ := hW.mx
        refine (Tryz.strings_Cut ⟨A2.toArray⟩ ⟨#[0]⟩ m W (by omega) hm).mono fun e w' hp => ?_
        have hc : (Lib.cut (⟨A2.toArray⟩ : ByteArray).data.toList (⟨#[0]⟩ : ByteArray).data.toList) = Lib.cut A2 [0] := rfl
        rw [hc, hB1, hB2] at hp
        exact ⟨⟨_, hp.1⟩, hp.2⟩⟩
      clear hrs how hA1 hA2 hB1 hB2 hl1 hl2 htl hA2l sA1 sA2 sB1 hm hc1 h0 hne hts
      go_wp2_with fail
      refine Calls.mono KC1.out (fun e w1 hp => ?_)
      obtain ⟨he1, n1, hw1⟩ := hp
      subst he1
      have hB1 : Below wr.heap.size wr w1 := by rw [hw1]; exact below_drewN (Below.refl _ _) n1
      have hBw1 := hbel.trans (hB1.mono hbel.size)
      have KO1 := Kept.mk (KO.out.later hB1 (Nat.le_refl _))
      have KBw1 := Kept.mk hBw1
      have KC2 := Kept.mk (KcB.out w1 (KG.out.later hBw1))
      generalize (Lib.cut t.data.toList [32]).2.2 = f1 at *
      clear hw1 hB1 hBw1 KC1 hbel KcB
      go_wp2_with fail
      refine Calls.mono KC2.out (fun e w2 hp => ?_)
      obtain ⟨⟨f2, rfl⟩, n2, hw2⟩ := hp
      have hB2 : Below w1.heap.size w1 w2 := by rw [hw2]; exact below_drewN (Below.refl _ _) n2
      have hBw2 := KBw1.out.trans (hB2.mono KBw1.out.size)
      have KO2 := Kept.mk (KO1.out.later hB2 (Nat.le_refl _))
      have KBw2 := Kept.mk hBw2
      have KC3 := Kept.mk (octal_any ⟨A1.toArray⟩ w2 (KG.out.later hBw2) (by rw [size_mk]; have := Kts.out; omega))
      clear hw2 hB2 hBw2 KC2
      go_wp2_with fail
      refine Calls.mono KC3.out (fun e w3 hp => ?_)
      obtain ⟨n, rfl, hn0, hn1, hoct, hb3⟩ := hp
      have hBw3 := KBw2.out.trans (hb3.mono KBw2.out.size)
      have KO3 := Kept.mk (KO2.out.later hb3 (Nat.le_refl _))
      have KBw3 := Kept.mk hBw3
      have KOct : Kept (OctOk A1 n) := ⟨fun h1 h2 h3 => hoct h1 (by rw [size_mk]; exact h2) (by rw [size_mk]; intro h4; exact h3 (List.eq_nil_of_length_eq_zero h4))⟩
      have Kn : Kept (-9223372036854775808 ≤ n ∧ n < 9223372036854775808) := ⟨hn0, hn1⟩
      have KC4 := Kept.mk (cloneS_any ⟨B1.toArray⟩ w3 (by rw [size_mk]; have := Kts.out; omega))
      clear hb3 hBw3 hoct KC3 hn0 hn1
      go_wp2_with fail
      refine Calls.mono KC4.out (fun e w4 hp => ?_)
      obtain ⟨rfl, hb4⟩ := hp
      have hBw4 := KBw3.out.trans (hb4.mono KBw3.out.size)
      have KO4 := Kept.mk (KO3.out.later hb4 (Nat.le_refl _))
      have KBw4 := Kept.mk hBw4
      clear hb4 hBw4 KC4
      have KNsz : Kept ((⟨B1.toArray⟩ : ByteArray).size ≤ 1048576) := ⟨by rw [size_mk]; have := Kts.out; omega⟩
      obtain ⟨nm, hnm⟩ : ∃ nm : ByteArray, ⟨B1.toArray⟩ = nm := ⟨_, rfl⟩
      have Knm := Kept.mk hnm
      rw [hnm] at KNsz ⊢
      clear hnm
      have hok0 : (EnC.mk n nm z32L).ok := ⟨by simp [z32L], fun x hx => by rw [List.eq_of_mem_replicate hx]; omega, Kn.out.1, Kn.out.2, by simp only; have := KNsz.out; omega⟩
      obtain ⟨w5, hw5, hb5, -, -⟩ := EnC.box w4 ⟨n, nm, z32L⟩
      have hblk5 : w5.heap[w4.heap.size]? = some (.cells (EnC.l ⟨n, nm, z32L⟩).toArray 33) := by rw [← hw5]; exact heap_alloc_new w4 _
      have KI0 : Kept ((Tryz.prog.info? 33).map (·.size) = some (EnC.l ⟨n, nm, z32L⟩).toArray.size) := ⟨by rw [List.size_toArray, EnC.len hok0]; kernel_rfl⟩
      have KZ0 : Kept ((EnC.l ⟨n, nm, z32L⟩).toArray.size = 34) := ⟨by rw [List.size_toArray, EnC.len hok0]⟩
      have KOn0 : Kept ((EnC.l ⟨n, nm, z32L⟩).toArray.all (·.oneCell') = true) := ⟨by rw [Array.all_eq_true_iff_forall_mem]; intro x hx; exact EnC.ones _ x (by simpa using hx)⟩
      obtain ⟨b2, hb2⟩ : ∃ b2 : ByteArray, ⟨B2.toArray⟩ = b2 := ⟨_, rfl⟩
      have Kb2l : Kept (b2.data.toList = B2) := ⟨by rw [← hb2]⟩
      have hb2s : b2.size = B2.length := by rw [← hb2]; exact size_mk B2
      rw [hb2]
      clear hb2
      have KCp := Kept.mk (fun ty => run_copy_id w5 ty w4.heap.size b2 n nm hblk5)
      obtain ⟨w6, hw6⟩ : ∃ w6, w5.setRow w4.heap.size (EnC.l ⟨n, nm, idOf b2.data.toList⟩).toArray = w6 := ⟨_, rfl⟩
      rw [hw6] at KCp
      have hblk6 : w6.heap[w4.heap.size]? = some (.cells (EnC.l ⟨n, nm, idOf b2.data.toList⟩).toArray 33) := by rw [← hw6]; exact setRow_heap _ _ _ _ _ _ hblk5
      have hO6 : OwnE w6 w.heap.size (.slice pa es.length pc) es := by
        have h5 := KO4.out.later hb5 (Nat.le_refl _)
        refine h5.far fun g hg => ?_
        have := (KO4.out.lt g hg).2
        rw [← hw6, setRow_other _ _ _ _ (by omega)]
      have hBw6 : Below w.heap.size w w6 := by
        have h5 := KBw4.out.trans (hb5.mono KBw4.out.size)
        have hsz := KBw4.out.size
        rw [← hw6]
        exact ⟨h5.os, h5.tape, h5.output, by simpa using h5.size, fun k hk => by rw [setRow_other _ _ _ _ (by omega)]; exact h5.block k hk⟩
      have hok1 : (EnC.mk n nm (idOf b2.data.toList)).ok := ⟨idOf_len _, idOf_bytes _, Kn.out.1, Kn.out.2, by simp only; have := KNsz.out; omega⟩
      have KOk1 := Kept.mk hok1
      have KRg6 : Kept (w6.rangeAt w4.heap.size 0 (EnC.l ⟨n, nm, idOf b2.data.toList⟩)) := ⟨fun j u hu => by
        rw [Nat.zero_add, cell_of_row w6 _ j _ _ (0, 0) hblk6]
        simpa using hu⟩
      obtain ⟨w7, hw7⟩ : ∃ w7, w6.alloc (.cells (EnC.l ⟨n, nm, idOf b2.data.toList⟩).toArray 33) = w7 := ⟨_, rfl⟩
      have hb7 : Below w6.heap.size w6 w7 := by rw [← hw7]; exact (Below.refl _ _).alloc (Nat.le_refl _) _
      have hblk7 : w7.heap[w6.heap.size]? = some (.cells (EnC.l ⟨n, nm, idOf b2.data.toList⟩).toArray 33) := by rw [← hw7]; exact heap_alloc_new w6 _
      have KRg7 : Kept (w7.rangeAt w6.heap.size 0 (EnC.l ⟨n, nm, idOf b2.data.toList⟩)) := ⟨fun j u hu => by
        rw [Nat.zero_add, cell_of_row w7 _ j _ _ (0, 0) hblk7]
        simpa using hu⟩
      have KO7 := Kept.mk (hO6.later hb7 (Nat.le_refl _))
      have hBw7 := hBw6.trans (hb7.mono hBw6.size)
      have KBw7 := Kept.mk hBw7
      have Khs7 : Kept (w.heap.size ≤ w7.heap.size) := ⟨hBw7.size⟩
      have KI1 : Kept ((Tryz.prog.info? 33).map (·.size) = some (EnC.l ⟨n, nm, idOf b2.data.toList⟩).length) := ⟨by rw [EnC.len hok1]; kernel_rfl⟩
      have K34 := Kept.mk (EnC.len hok1)
      have KNx := Kept.mk (KSt.out ⟨n, nm, idOf b2.data.toList⟩ KOct.out Knm.out.symm (by rw [Kb2l.out]) (b2.extract (min b2.size 32) b2.size) (by
        rw [ext_drop, Kb2l.out]
        by_cases h : b2.size ≤ 32
        · rw [Nat.min_eq_left h, List.drop_eq_nil_of_le (by omega), List.drop_eq_nil_of_le (by omega)]
        · rw [Nat.min_eq_right (by omega)]))
      have Kms : Kept ((b2.extract (min b2.size 32) b2.size).size < t.size) := ⟨by
        rw [ByteArray.size_extract]
        have := KB2l.out
        omega⟩
      have KLn : Kept ((es.length + 1) * 56 ≤ 140737488355328) := ⟨by omega⟩
      have hsl := slice32 w5 w4.heap.size 2
      have hmn : (((min b2.size 32 : Nat) : Int)) ≤ (b2.size : Int) := by omega
      obtain ⟨q, hq⟩ : ∃ q, min b2.size 32 = q := ⟨_, rfl⟩
      rw [hq] at KCp KNx Kms hmn
      clear hO6 hBw6 hok1 hok0 hblk5 hblk6 hblk7 hb5 hb7 hBw7 hw6 KSt KOct hq hb2s
      have KCp' : Kept (∀ ty, (Builtin.copy_ #[27, 9] ty #[.slice (some ⟨w4.heap.size, 2, none⟩) 32 32, .string b2]).run Tryz.prog w5 = .ok (.int .i64 (q : Int)) w6) := ⟨fun ty => KCp.out ty⟩
      obtain ⟨E1, hE1⟩ : ∃ E1, EnC.mk n nm (idOf b2.data.toList) = E1 := ⟨_, rfl⟩
      rw [hE1] at KOk1 KRg6 hw7 KRg7 KI1 K34 KNx
      obtain ⟨C0, hC0⟩ : ∃ C0, EnC.l ⟨n, nm, z32L⟩ = C0 := ⟨_, rfl⟩
      have KC0 := Kept.mk hC0
      rw [hC0] at hw5 KI0 KZ0 KOn0
      obtain ⟨C1, hC1⟩ : ∃ C1, E1.l = C1 := ⟨_, rfl⟩
      have KC1 := Kept.mk hC1
      rw [hC1] at KRg6 hw7 KI1 K34
      clear hE1 hC0 hC1 KCp
      go_upto_region 6 with (first | (refine wpList_buildE rfl _ _ rfl n nm rfl rfl ?_; rw [KC0.out]) | (refine BigFrame.wpList_want rfl (fun K hK => wp_store_row 33 _ _ rfl w4.heap.size C0.toArray rfl rfl 33 _ (heap_alloc_new w4 _) KI0.out (by rw [KZ0.out]; rfl) KOn0.out (hK _ _ ?_)); rw [World.setRow_alloc_new]))
      try rw [hw5]
      clear hw5
      go_upto_region 7 with (refine BigFrame.wpList_want rfl (fun K hK => Sh.wp_copy _ _ _ _ _ rfl _ _ rfl rfl (KCp'.out _) (hK _ _ ?_)))
      clear hsl hmn
      generalize b2.extract q b2.size = t2 at *
      go_wp2_with (first | (refine wpList_load_mid rfl 33 _ rfl w4.heap.size 0 rfl C1 _ KRg6.out Tryz.underlying33 rfl KI1.out ?_) | (refine wpList_sliceE rfl _ rfl C1 K34.out rfl ?_; rw [hw7]) | (at_builtin; refine wpList_append_E _ rfl _ _ rfl w.heap.size _ es rfl KO7.out E1 KOk1.out w6.heap.size 1 rfl KRg7.out KLn.out Khs7.out ?_; intro v8 w8 ho8 hg8; have KO8 := Kept.mk ho8; have KG8 := Kept.mk hg8; clear ho8 hg8))
      go_roundw
      case rel => exact ⟨t2, es ++ [E1], rfl, KO8.out, KNx.out, KBw7.out.trans ((Below.refl _ w7).grown KG8.out Khs7.out (fun g hg => (KO7.out.lt g hg).1))⟩
      case measure =>
        have := Kms.out
        simpa [strSz] using this


def PtEnd (xs : List Int) (R : List EnC) (E : Int) : Prop :=
  (1048576 < xs.length ∧ R = [] ∧ E = 2) ∨ (xs.length ≤ 1048576 ∧ ∃ es, RdT (strOfNums xs).data.toList es ∧ (∀ e ∈ es, e.ok) ∧ ((treE es = 0 ∧ strOfNums (treL es) = strOfNums xs ∧ R = es ∧ E = 0) ∨ (¬(treE es = 0 ∧ strOfNums (treL es) = strOfNums xs) ∧ R = [] ∧ E = 4)))
set_option maxHeartbeats 4000000 in
set_option maxRecDepth 100000 in
theorem parse_any (v : Value) (xs : List Int) (w : World) (hg : Gv w) (hgl : Gl w) (hr : Rd .u8 anyB w v xs) :
    Calls Tryz.prog 37 #[v, .func (.func 38) #[] #[], .func (.func 7) #[] #[]] w fun e w' => ∃ v' R E, e = .returned (.tuple #[v', .int .i64 E]) ∧ OwnE w' w.heap.size v' R ∧ PtEnd xs R E ∧ Below w.heap.size w w' := by
  have KRd := Kept.mk hr
  obtain ⟨a, c, rfl, h1, h2, h3, h4⟩ := hr
  have KG := Kept.mk hg
  have KGl := Kept.mk hgl
  clear hg hgl h1 h2 h3 h4
  by_cases hl : 1048576 < xs.length
  · have hli : (1048576 : Int) < (xs.length : Int) := by omega
    have KE : Kept (PtEnd xs [] 2) := ⟨.inl ⟨hl, rfl, rfl⟩⟩
    clear hl
    go_enter Tryz.func37, Tryz.ntmps37
    go_wp2
    go_ret2
    exact ⟨_, _, _, rfl, OwnE.nil _ _, KE.out, Below.refl _ _⟩
  · have hli : ¬ (1048576 : Int) < (xs.length : Int) := by omega
    have Kl : Kept (xs.length ≤ 1048576) := ⟨by omega⟩
    have hcv := KRd.out.str Tryz.underlying27 Tryz.underlying5 9 Tryz.underlying9
    obtain ⟨S, hS⟩ : ∃ S, strOfNums xs = S := ⟨_, rfl⟩
    have KS := Kept.mk hS
    rw [hS] at hcv
    have KSz : Kept (S.size ≤ 1048576) := ⟨by rw [← hS, strOfNums_size]; exact Kl.out⟩
    have K1 := Kept.mk (readTree_any S w KGl.out KSz.out)
    clear hl hS
    go_enter Tryz.func37, Tryz.ntmps37
    go_wp2_with fail
    refine Calls.mono K1.out (fun e w1 hp => ?_)
    obtain ⟨lv, es, rfl, how, hrt, hln, hnm, hb1⟩ := hp
    have KO := Kept.mk how
    have KT := Kept.mk hrt
    have KB1 := Kept.mk hb1
    have K2 := Kept.mk (putTree_any lv es w1 (KG.out.later hb1) how.rdE)
    have KN : Kept (∀ e ∈ es, e.ok) := ⟨how.2⟩
    clear K1 how hrt hln hnm hb1
    go_wp2_with fail
    refine Calls.mono K2.out (fun e w2 hp => ?_)
    obtain ⟨av, rfl, hav, hb2⟩ := hp
    have KB2 := Kept.mk (KB1.out.trans (hb2.mono KB1.out.size))
    have KO2 := Kept.mk (KO.out.later hb2 (Nat.le_refl _))
    have hcv2 := (hav.rd).str Tryz.underlying27 Tryz.underlying5 9 Tryz.underlying9
    have KP : Kept (putL es = if treE es = 0 then treL es else []) := ⟨rfl⟩
    obtain ⟨S2, hS2⟩ : ∃ S2, strOfNums (putL es) = S2 := ⟨_, rfl⟩
    have KS2 := Kept.mk hS2
    rw [hS2] at hcv2
    clear K2 hb2 hav hS2 hcv
    have Kend : Kept (PtEnd xs es 0 ∨ PtEnd xs [] 4 ∧ True ∨ True) := ⟨.inr (.inr trivial)⟩
    clear Kend
    generalize hE : treE es = E at *
    have KEE := Kept.mk hE
    clear hE
    by_cases h0 : E = 0
    · subst h0
      by_cases hs : S2 = S
      · have KE : Kept (PtEnd xs es 0) := ⟨.inr ⟨Kl.out, es, by rw [KS.out]; exact KT.out, KN.out, .inl ⟨KEE.out, by rw [KS.out, ← hs, ← KS2.out, KP.out, if_pos rfl], rfl, rfl⟩⟩⟩
        subst hs
        go_wp2
        go_ret2
        exact ⟨_, es, 0, rfl, KO2.out, KE.out, KB2.out⟩
      · have hbl : (S2.toList == S.toList) = false := beq_eq_false_iff_ne.2 fun h => hs (by rcases S2 with ⟨⟨a⟩⟩; rcases S with ⟨⟨b⟩⟩; simp only [Lib.toList_data] at h; rw [h])
        have KE : Kept (PtEnd xs [] 4) := ⟨.inr ⟨Kl.out, es, by rw [KS.out]; exact KT.out, KN.out, .inr ⟨fun h => hs (by rw [← KS2.out, KP.out, if_pos rfl, h.2, KS.out]), rfl, rfl⟩⟩⟩
        go_wp2
        go_ret2
        exact ⟨_, [], 4, rfl, OwnE.nil _ _, KE.out, KB2.out⟩
    · have KE : Kept (PtEnd xs [] 4) := ⟨.inr ⟨Kl.out, es, by rw [KS.out]; exact KT.out, KN.out, .inr ⟨fun h => h0 (by rw [← KEE.out]; exact h.1), rfl, rfl⟩⟩⟩
      go_wp2
      go_ret2
      exact ⟨_, [], 4, rfl, OwnE.nil _ _, KE.out, KB2.out⟩
set_option maxHeartbeats 400000 in
set_option maxRecDepth 100000 in
theorem parseTree_any (v : Value) (xs : List Int) (w : World) (hg : Gv w) (hgl : Gl w) (hr : Rd .u8 anyB w v xs) :
    Calls Tryz.prog 14 #[v] w fun e w' => ∃ v' R E, e = .returned (.tuple #[v', .int .i64 E]) ∧ OwnE w' w.heap.size v' R ∧ PtEnd xs R E ∧ Below w.heap.size w w' := by
  have K1 := Kept.mk (parse_any v xs w hg hgl hr)
  obtain ⟨a, c, rfl, -⟩ := hr
  clear hg hgl
  go_enter Tryz.func14, Tryz.ntmps14
  go_wp2_with fail
  refine Calls.mono K1.out (fun e w1 hp => ?_)
  obtain ⟨v', R, E, rfl, ho, hE, hb⟩ := hp
  have KO := Kept.mk ho
  have KE := Kept.mk hE
  have KB := Kept.mk hb
  clear ho hE hb K1
  go_wp2
  go_ret2
  exact ⟨_, R, E, rfl, KO.out, KE.out, KB.out⟩
end Go.Proofs.YtkbalngddlhlpaaGreatDoor
