/-
  Links in memory of the call's own; appended.
-/
import Derived.Test.YtkbalngddlhlpaaGreatDoorC2
import Derived.Test.YtkbalngddlhlpaaGreatDoorO29
import Derived.Test.YtkbalngddlhlpaaGreatDoorC6
import Derived.Test.YtkbalngddlhlpaaGreatDoorL11
import Derived.Test.YtkbalngddlhlpaaGreatDoorO32
import Derived.Test.YtkbalngddlhlpaaGreatDoorL16
import Derived.Test.YtkbalngddlhlpaaGreatDoorC12
namespace Go.Proofs.YtkbalngddlhlpaaGreatDoor
open Go.RowKit

structure LkC where
  k : Int
  id : List Int
def LkC.l (e : LkC) : List Value := .int .i64 e.k :: cellsK .u8 e.id
def LkC.ok (e : LkC) : Prop := IdOk e.id
theorem LkC.len {e : LkC} (h : e.ok) : e.l.length = 33 := by unfold LkC.l; rw [List.length_cons, cellsK_length, h.1]
theorem LkC.ones (e : LkC) : ∀ u ∈ e.l, u.oneCell' = true := by
  intro u hu
  unfold LkC.l at hu
  rcases List.mem_cons.1 hu with rfl | hu
  · rfl
  · exact cellsK_one _ _ u hu
def OwnL (w : World) (base : Nat) (v : Value) (es : List LkC) : Prop := w.ownsRow base 125 33 v es.length (es.flatMap LkC.l) ∧ ∀ e ∈ es, e.ok
theorem OwnL.nil (w : World) (base : Nat) : OwnL w base (.slice none 0 0) [] := ⟨World.ownsRow_nil w base 125 33, fun _ h => by cases h⟩
section
variable {w w' : World} {base : Nat} {v : Value} {es : List LkC}
theorem OwnL.lt (h : OwnL w base v es) : ∀ g, v.ownBlock = some g → base ≤ g ∧ g < w.heap.size := by
  intro g hg
  rcases h.1.2 with ⟨rfl, _⟩ | ⟨g', cap, cur, rfl, hbg, hh, _⟩
  · simp [Value.ownBlock] at hg
  · simp [Value.ownBlock] at hg
    subst hg
    refine ⟨hbg, ?_⟩
    rcases Nat.lt_or_ge g' w.heap.size with h' | h'
    · exact h'
    · rw [Array.getElem?_eq_none h'] at hh
      cases hh
theorem OwnL.far (h : OwnL w base v es) (hb : ∀ g, v.ownBlock = some g → w'.heap[g]? = w.heap[g]?) : OwnL w' base v es := by
  obtain ⟨⟨h1, h2⟩, h3⟩ := h
  refine ⟨⟨h1, ?_⟩, h3⟩
  rcases h2 with h2 | ⟨g, cap, cur, rfl, hg, hh, r⟩
  · exact Or.inl h2
  · exact Or.inr ⟨g, cap, cur, rfl, hg, by rw [hb g rfl]; exact hh, r⟩
theorem OwnL.later {B : Nat} (h : OwnL w base v es) (hb : Below B w w') (hB : w.heap.size ≤ B) : OwnL w' base v es :=
  h.far fun g hg => hb.block g (Nat.lt_of_lt_of_le (h.lt g hg).2 hB)
theorem OwnL.mono {base' : Nat} (h : OwnL w base v es) (hb : base' ≤ base) : OwnL w base' v es := by
  obtain ⟨⟨h1, h2⟩, h3⟩ := h
  refine ⟨⟨h1, ?_⟩, h3⟩
  rcases h2 with h2 | ⟨g, cap, cur, hv, hg, r⟩
  · exact Or.inl h2
  · exact Or.inr ⟨g, cap, cur, hv, Nat.le_trans hb hg, r⟩
end
set_option maxRecDepth 100000 in
theorem infoL : ∃ i z, Tryz.prog.info? 125 = some i ∧ i.zero = some z ∧ i.size = 33 ∧ i.bytes = 40 ∧ z.cells.size = 33 := ⟨_, _, rfl, rfl, rfl, rfl, rfl⟩
theorem wpList_append_L (w : World) {ops : Array Oper} {rest : List Oper} {o : Oper} {a : Act} {Q : Exit → Act → World → Prop} (hgd : o.guard = none) (s x : Operand)
    (ho : o.op = .call { callee := .builtin .append, args := #[s, x], argTypes := #[70, 70] })
    (base : Nat) (v : Value) (es : List LkC) (hsv : a.eval s = v) (hown : OwnL w base v es) (e : LkC) (he : e.ok) (g c : Nat) (hx : a.eval x = .slice (some ⟨g, 0, none⟩) 1 c) (hblk : w.rangeAt g 0 e.l)
    (hbytes : (es.length + 1) * 40 ≤ 140737488355328) (hbase : base ≤ w.heap.size)
    (h : ∀ v' w', OwnL w' base v' (es ++ [e]) → w.grownBy w' v.ownBlock → wpList Tryz.prog ops Q rest (a.put o.dst v') w') :
    wpList Tryz.prog ops Q (o :: rest) a w := by
  obtain ⟨i, z, hi, hz, hs, hb0, hc⟩ := infoL
  refine wpList_plain hgd fun K hK => ?_
  have hcell : ∀ j u, e.l[j]? = some u → w.cell? ((⟨g, 0, none⟩ : Addr).add j) = some u := fun j u hu => by
    rw [add_plain]
    exact hblk j u hu
  obtain ⟨v', w', hr, h2, h3, -, -⟩ := run_append_own_at (P := Tryz.prog) w base 70 o.type 125 i z 33 40 Tryz.underlying70 hi hz hs hb0 hc (by decide) v _ _ hown.1 ⟨g, 0, none⟩ 1 c e.l (by rw [LkC.len he]) hcell (LkC.ones e) (by unfold maxLen; omega) hbytes hbase
  unfold Oper.wp execOp
  simp only [ho, resolve, invoke, builtin, Sem.run_bind, Sem.run_pure, Result.andThen_ok, List.map_toArray, List.map_cons, List.map_nil, hsv, hx, hr]
  refine hK _ _ (h v' w' ⟨?_, fun x hx => ?_⟩ h3)
  · rw [List.flatMap_append, List.length_append]
    simpa using h2
  · rcases List.mem_append.1 hx with hx | hx
    · exact hown.2 x hx
    · simp at hx; rw [hx]; exact he
def z33L : List Value := .int .i64 0 :: cellsK .u8 (List.replicate 32 0)
theorem z33L_len : z33L.length = 33 := by unfold z33L cellsK; simp
set_option maxRecDepth 100000 in
theorem zeroL1 : ∃ i z, Tryz.prog.info? 125 = some i ∧ i.zero = some z ∧ i.size = 33 ∧ (Array.range (1 * 33)).map (z.cells[· % z.cells.size]!) = z33L.toArray := ⟨_, _, rfl, rfl, rfl, by kernel_rfl⟩
theorem wpList_sliceL {ops : Array Oper} {rest : List Oper} {o : Oper} {a : Act} {w : World} {Q : Exit → Act → World → Prop} (hg : o.guard = none) (o1 : Operand) (ho : o.op = .buildSlice 70 1 #[(0, o1)])
    (IL : List Value) (hl : IL.length = 33) (h1 : a.eval o1 = .agg IL.toArray)
    (h : wpList Tryz.prog ops Q rest (a.put o.dst (.slice (some ⟨w.heap.size, 0, none⟩) 1 1)) (w.alloc (.cells IL.toArray 125))) : wpList Tryz.prog ops Q (o :: rest) a w := by
  obtain ⟨i, z, hi, hz, hs, hr⟩ := zeroL1
  refine wpList_buildSlice hg 70 125 1 _ ho IL.toArray i z Tryz.underlying70 hi hz (by rw [hs]; decide) (by rw [hs]; decide) ?_ h
  rw [hs, hr]
  simp only [List.map_toArray, List.map_cons, List.map_nil, h1]
  have e0 : z33L = [] ++ z33L ++ [] := by simp
  rw [e0, fillE_cons _ 0 _ _ [] z33L [] IL (by rw [z33L_len]; rfl) rfl (by rw [hl, z33L_len])]
  unfold Instr.fill
  simp
set_option maxRecDepth 100000 in
theorem builtLk (X Y : Value) : Tryz.prog.built 125 [(0, X), (1, Y)] = Instr.fill ((#[(0, 1), (1, 32)] : Array (Nat × Nat))[·]?) z33L.toArray [(0, X), (1, Y)] := by kernel_rfl
theorem fillLk (k : Int) {p : List Int} (h : IdOk p) : Instr.fill ((#[(0, 1), (1, 32)] : Array (Nat × Nat))[·]?) z33L.toArray [(0, .int .i64 k), (1, .agg (cellsK .u8 p).toArray)] = some (LkC.l ⟨k, p⟩).toArray := by
  have hz : (cellsK .u8 (List.replicate 32 0)).length = 32 := by rw [cellsK_length]; simp
  have e0 : z33L = [] ++ [Value.int .i64 0] ++ cellsK .u8 (List.replicate 32 0) := rfl
  rw [e0, fillE_cons _ 0 _ _ [] [Value.int .i64 0] (cellsK .u8 (List.replicate 32 0)) [Value.int .i64 k] rfl rfl rfl]
  have e1 : [] ++ [Value.int .i64 k] ++ cellsK .u8 (List.replicate 32 0) = [Value.int .i64 k] ++ cellsK .u8 (List.replicate 32 0) ++ [] := by simp
  rw [e1, fillE_cons _ 1 _ _ [Value.int .i64 k] (cellsK .u8 (List.replicate 32 0)) [] (cellsK .u8 p) (by rw [hz]; rfl) rfl (by rw [idP_len h, hz])]
  unfold Instr.fill LkC.l
  simp
theorem wpList_buildLk {ops : Array Oper} {rest : List Oper} {o : Oper} {a : Act} {w : World} {Q : Exit → Act → World → Prop} (hg : o.guard = none) (o1 o2 : Operand) (ho : o.op = .build 125 #[(0, o1), (1, o2)])
    (k : Int) (p : List Int) (hp : IdOk p) (h1 : a.eval o1 = .int .i64 k) (h2 : a.eval o2 = .agg (cellsK .u8 p).toArray)
    (h : wpList Tryz.prog ops Q rest (a.put o.dst (.agg (LkC.l ⟨k, p⟩).toArray)) w) : wpList Tryz.prog ops Q (o :: rest) a w := by
  refine wpList_plain hg fun K hK => ?_
  have hb : Tryz.prog.built 125 [(0, Value.int .i64 k), (1, .agg (cellsK .u8 p).toArray)] = some (LkC.l ⟨k, p⟩).toArray := by
    rw [builtLk]
    exact fillLk k hp
  have hr := run_build (P := Tryz.prog) w 125 #[(0, Value.int .i64 k), (1, .agg (cellsK .u8 p).toArray)] _ hb
  unfold Oper.wp execOp
  simp only [ho, Sem.run_bind, List.map_toArray, List.map_cons, List.map_nil, h1, h2, hr, Result.andThen_ok]
  exact hK _ _ h


def lkOf (e : EnC) : LkC := ⟨if e.m = 16384 then 2 else 3, e.ids⟩
theorem PtEnd.lens {xs : List Int} {R : List EnC} {E : Int} (h : PtEnd xs R E) : R.length ≤ 4096 := by
  rcases h with ⟨-, rfl, -⟩ | ⟨-, es, -, -, ⟨h, -, rfl, -⟩ | ⟨-, rfl, -⟩⟩
  · simp
  · exact (treE_ok h).1
  · simp
set_option maxHeartbeats 4000000 in
set_option maxRecDepth 100000 in
theorem treeLinks_any (v : Value) (xs : List Int) (w : World) (hg : Gv w) (hgl : Gl w) (hr : Rd .u8 anyB w v xs) :
    Calls Tryz.prog 70 #[v] w fun e w' => ∃ v' R E, e = .returned (.tuple #[v', .int .i64 E]) ∧ OwnL w' w.heap.size v' (R.map lkOf) ∧ PtEnd xs R E ∧ Below w.heap.size w w' := by
  have K1 := Kept.mk (parseTree_any v xs w hg hgl hr)
  obtain ⟨a, c, rfl, -⟩ := hr
  clear hg hgl
  go_enter Tryz.func70, Tryz.ntmps70
  go_wp2_with fail
  refine Calls.mono K1.out (fun e w1 hp => ?_)
  obtain ⟨v1, R, E, rfl, ho, hE, hb⟩ := hp
  have KE := Kept.mk hE
  have KB1 := Kept.mk hb
  have hRl := hE.lens
  have KRd : Kept (∀ W, Below w1.heap.size w1 W → RdE W v1 R) := ⟨fun W hW => ho.rdE.later hW⟩
  obtain ⟨pa, pc, rfl, -⟩ := ho.rdE
  clear ho hE hb K1
  have KO0 : Kept (OwnL w1 w1.heap.size (.slice none 0 0) ((R.take 0).map lkOf)) := ⟨OwnL.nil _ _⟩
  go_upto_region 4 with fail
  go_loopw [6, 17] (fun lv iv wr => ∃ k : Nat, k ≤ R.length ∧ iv = .int .i64 k ∧ OwnL wr w1.heap.size lv ((R.take k).map lkOf) ∧ Below w1.heap.size w1 wr) (fun _ iv _ => R.length - (intOf iv).toNat)
  case atStart => exact ⟨0, Nat.zero_le _, rfl, KO0.out, Below.refl _ _⟩
  case round =>
    obtain ⟨k, hk, rfl, hol, hbr⟩ := hrel
    have KBr := Kept.mk hbr
    have KOl := Kept.mk hol
    clear KO0 hol
    by_cases hlt : k < R.length
    · have hki : (k : Int) < (R.length : Int) := by omega
      have e1 : IntKind.i64.wrap ((k : Int) + 1) = (k : Int) + 1 := by rw [IntKind.wrap_i64]; omega
      obtain ⟨pa', pc', hpe, -, hpo, hpr⟩ := KRd.out wr hbr
      obtain ⟨b, off, hpb, hblt, hrg⟩ := hpr (by omega)
      have hpae : pa = some ⟨b, off, none⟩ := by injection hpe with h1 h2 h3; rw [h1, hpb]
      subst hpae
      have hrow := hrg k hlt
      have hoke := hpo _ (List.getElem_mem hlt)
      have h34 := EnC.len hoke
      have hones := EnC.ones (R[k]'hlt)
      obtain ⟨x2, hx2, hB2, -, -⟩ := EnC.box wr (R[k]'hlt)
      have hblk : x2.heap[wr.heap.size]? = some (.cells (R[k]'hlt).l.toArray 33) := by rw [← hx2]; exact heap_alloc_new wr _
      have c0 : x2.cell? ⟨wr.heap.size, 0, none⟩ = some (.int .i64 (R[k]'hlt).m) := by rw [cell_of_row x2 _ 0 _ _ (0, 0) hblk]; rfl
      have hr2 : x2.rangeAt wr.heap.size 2 (cellsK .u8 (R[k]'hlt).ids) := fun j u hu => by
        rw [cell_of_row x2 _ (2 + j) _ _ (0, 0) hblk]
        unfold EnC.l
        rw [List.getElem?_toArray, Nat.add_comm 2 j]
        exact hu
      have hid : IdOk (R[k]'hlt).ids := ⟨hoke.1, hoke.2.1⟩
      have KIi := Kept.mk (show (Tryz.prog.info? 31).map (·.size) = some (cellsK .u8 (R[k]'hlt).ids).length by rw [cellsK_length, hid.1]; kernel_rfl)
      have hBx := hbr.trans (hB2.mono hbr.size)
      have KBx := Kept.mk hBx
      have KOx := Kept.mk (KOl.out.later hB2 (Nat.le_refl _))
      have KR2 := Kept.mk hr2
      have Kid := Kept.mk hid
      have Ktk : Kept ((R.take (k + 1)).map lkOf = (R.take k).map lkOf ++ [lkOf (R[k]'hlt)]) := ⟨by rw [List.take_add_one, List.getElem?_eq_getElem hlt, List.map_append]; rfl⟩
      have Klk : Kept (lkOf (R[k]'hlt) = ⟨if (R[k]'hlt).m = 16384 then 2 else 3, (R[k]'hlt).ids⟩) := ⟨rfl⟩
      have Ktl : Kept (((R.take k).map lkOf).length ≤ 4096) := ⟨by rw [List.length_map, List.length_take]; omega⟩
      clear hpr hrg hpo hblk hbr hB2 hBx hr2 hid hoke hpe
      generalize lkOf (R[k]'hlt) = LK at *
      obtain ⟨CL, hCL⟩ : ∃ CL, (R[k]'hlt).l = CL := ⟨_, rfl⟩
      rw [hCL] at hrow h34 hones hx2
      generalize (R[k]'hlt).m = m at *
      generalize (R[k]'hlt).ids = ids at *
      have hR := Kept.mk hrow
      have KI : Kept ((Tryz.prog.info? 33).map (·.size) = some CL.length) := ⟨by rw [h34]; kernel_rfl⟩
      have KI2 : Kept ((Tryz.prog.info? 33).map (·.size) = some CL.toArray.size) := ⟨by rw [List.size_toArray]; exact KI.out⟩
      have KS : Kept (CL.toArray.size = 34) := ⟨by rw [List.size_toArray]; exact h34⟩
      have KO : Kept (CL.toArray.all (·.oneCell') = true) := ⟨by rw [Array.all_eq_true_iff_forall_mem]; intro x hx; exact hones x (by simpa using hx)⟩
      clear hrow h34 hones hCL
      go_upto_region 6 with (first | (refine wpList_load_mid rfl 33 _ rfl b (off + k * 34) rfl CL _ hR.out Tryz.underlying33 rfl KI.out ?_) | (refine BigFrame.wpList_want rfl (fun K hK => wp_store_row 33 _ _ rfl wr.heap.size CL.toArray rfl rfl 33 _ (heap_alloc_new wr _) KI2.out (by rw [KS.out]; rfl) KO.out (hK _ _ ?_)); rw [World.setRow_alloc_new]))
      try rw [hx2]
      clear hx2
      have Kend : Kept (∀ kd : Int, kd = (if m = 16384 then 2 else 3) → LK = ⟨kd, ids⟩ ∧ (LkC.mk kd ids).ok ∧ (LkC.l ⟨kd, ids⟩).length = 33) := ⟨fun kd h => ⟨by rw [Klk.out, h], Kid.out, LkC.len Kid.out⟩⟩
      obtain ⟨x3, hx3⟩ : ∃ f : Int → World, ∀ kd, f kd = x2.alloc (.cells (LkC.l ⟨kd, ids⟩).toArray 125) := ⟨fun kd => _, fun kd => rfl⟩
      have KX : Kept (∀ kd, x2.alloc (.cells (LkC.l ⟨kd, ids⟩).toArray 125) = x3 kd ∧ Below x2.heap.size x2 (x3 kd) ∧ (x3 kd).rangeAt x2.heap.size 0 (LkC.l ⟨kd, ids⟩)) := ⟨fun kd => by
        rw [hx3 kd]
        refine ⟨rfl, (Below.refl _ _).alloc (Nat.le_refl _) _, fun j u hu => ?_⟩
        rw [Nat.zero_add, cell_of_row _ _ j _ 125 (0, 0) (heap_alloc_new x2 _)]
        simpa using hu⟩
      clear hx3
      by_cases hm : m = 16384
      · have hmb : (m == 16384) = true := by simpa using hm
        obtain ⟨KeE, KeO, KeL⟩ := Kend.out 2 (by rw [if_pos hm])
        have KeE := Kept.mk KeE
        have KeO := Kept.mk KeO
        have KeL := Kept.mk KeL
        obtain ⟨KXa, KXb, KXr⟩ := KX.out 2
        have KXa := Kept.mk KXa
        have KOy := Kept.mk (KOx.out.later KXb (Nat.le_refl _))
        have KBy := Kept.mk (KBx.out.trans (KXb.mono KBx.out.size))
        have KXr := Kept.mk KXr
        clear KXb Kend KX hm
        generalize x3 2 = x4 at *
        go_wp2_with (first | (refine wpList_load_mid rfl 31 _ rfl wr.heap.size 2 rfl (cellsK .u8 ids) _ KR2.out Tryz.underlying31 rfl KIi.out ?_) | (refine wpList_buildLk rfl _ _ rfl 2 ids Kid.out rfl rfl ?_) | (refine wpList_sliceL rfl _ rfl (LkC.l ⟨2, ids⟩) KeL.out rfl ?_; rw [KXa.out]) | (at_builtin; refine wpList_append_L _ rfl _ _ rfl w1.heap.size _ ((R.take k).map lkOf) rfl KOy.out ⟨2, ids⟩ KeO.out x2.heap.size 1 rfl KXr.out (by have := Ktl.out; omega) KBy.out.size ?_; intro v5 x5 ho5 hg5; have KO5 : Kept (OwnL x5 w1.heap.size v5 ((R.take (k + 1)).map lkOf)) := ⟨by rw [Ktk.out, KeE.out]; exact ho5⟩; have KB5 : Kept (Below w1.heap.size w1 x5) := ⟨KBy.out.trans ((Below.refl _ _).grown hg5 KBy.out.size (fun q hq => (KOy.out.lt q hq).1))⟩; clear ho5 hg5))
        go_roundw
        case rel => exact ⟨k + 1, by omega, by go_num, KO5.out, KB5.out⟩
        case measure => simp [intOf]; omega
      · have hmb : (m == 16384) = false := by simpa using hm
        obtain ⟨KeE, KeO, KeL⟩ := Kend.out 3 (by rw [if_neg hm])
        have KeE := Kept.mk KeE
        have KeO := Kept.mk KeO
        have KeL := Kept.mk KeL
        obtain ⟨KXa, KXb, KXr⟩ := KX.out 3
        have KXa := Kept.mk KXa
        have KOy := Kept.mk (KOx.out.later KXb (Nat.le_refl _))
        have KBy := Kept.mk (KBx.out.trans (KXb.mono KBx.out.size))
        have KXr := Kept.mk KXr
        clear KXb Kend KX hm
        generalize x3 3 = x4 at *
        go_wp2_with (first | (refine wpList_load_mid rfl 31 _ rfl wr.heap.size 2 rfl (cellsK .u8 ids) _ KR2.out Tryz.underlying31 rfl KIi.out ?_) | (refine wpList_buildLk rfl _ _ rfl 3 ids Kid.out rfl rfl ?_) | (refine wpList_sliceL rfl _ rfl (LkC.l ⟨3, ids⟩) KeL.out rfl ?_; rw [KXa.out]) | (at_builtin; refine wpList_append_L _ rfl _ _ rfl w1.heap.size _ ((R.take k).map lkOf) rfl KOy.out ⟨3, ids⟩ KeO.out x2.heap.size 1 rfl KXr.out (by have := Ktl.out; omega) KBy.out.size ?_; intro v5 x5 ho5 hg5; have KO5 : Kept (OwnL x5 w1.heap.size v5 ((R.take (k + 1)).map lkOf)) := ⟨by rw [Ktk.out, KeE.out]; exact ho5⟩; have KB5 : Kept (Below w1.heap.size w1 x5) := ⟨KBy.out.trans ((Below.refl _ _).grown hg5 KBy.out.size (fun q hq => (KOy.out.lt q hq).1))⟩; clear ho5 hg5))
        go_roundw
        case rel => exact ⟨k + 1, by omega, by go_num, KO5.out, KB5.out⟩
        case measure => simp [intOf]; omega
    · have hki : ¬ (k : Int) < (R.length : Int) := by omega
      obtain rfl : k = R.length := by omega
      have KOf := Kept.mk KOl.out
      rw [List.take_length] at KOf
      have KBf := Kept.mk (KB1.out.trans (hbr.mono KB1.out.size))
      clear hbr KOl
      go_wp2
      go_ret2
      exact ⟨_, R, E, rfl, KOf.out.mono KB1.out.size, KE.out, KBf.out⟩




def RdL (w : World) (v : Value) (es : List LkC) : Prop :=
  ∃ (a : Option Addr) (c : Nat), v = .slice a es.length c ∧ es.length ≤ c ∧ (∀ e ∈ es, e.ok) ∧ (0 < es.length → ∃ b off, a = some ⟨b, off, none⟩ ∧ b < w.heap.size ∧ ∀ i (hi : i < es.length), w.rangeAt b (off + i * 33) (es[i]'hi).l)
theorem RdL.later {B : Nat} {w w' : World} {v : Value} {es : List LkC} (h : RdL w v es) (hb : Below B w w') (hB : w.heap.size ≤ B) : RdL w' v es := by
  obtain ⟨a, c, rfl, h1, h2, h3⟩ := h
  refine ⟨a, c, rfl, h1, h2, fun h0 => ?_⟩
  obtain ⟨b, off, rfl, hlt, hr⟩ := h3 h0
  refine ⟨b, off, rfl, Nat.lt_of_lt_of_le hlt (by have := hb.size; omega), fun i hi j u hu => ?_⟩
  rw [hb.cell (p := ⟨b, off + i * 33 + j, none⟩) (Nat.lt_of_lt_of_le hlt hB)]
  exact hr i hi j u hu
section
variable {w w' : World} {base : Nat} {v : Value} {es : List LkC}
end


def cmLk (R : CmC) : List LkC := ⟨2, R.tg⟩ :: R.ps.map (fun p => ⟨1, p⟩)
def tgLk (R : LbC) : List LkC := [⟨R.k, R.tg⟩]
def LkCm (xs : List Int) (L : List LkC) (E : Int) : Prop := ∃ R, DcEnd xs R E ∧ L = if E = 0 then cmLk R else []
def LkTr (xs : List Int) (L : List LkC) (E : Int) : Prop := ∃ R, DtEnd xs R E ∧ L = R.map lkOf
def LkTg (xs : List Int) (L : List LkC) (E : Int) : Prop := ∃ R, DgEnd xs R E ∧ L = if E = 0 then tgLk R else []
def LkEnd (k : Int) (xs : List Int) (L : List LkC) (E : Int) : Prop :=
  if 1048576 < xs.length then L = [] ∧ E = 2 else if k = 1 then LkCm xs L E else if k = 2 then LkTr xs L E else if k = 3 then L = [] ∧ E = 0 else if k = 4 then LkTg xs L E else L = [] ∧ E = 9
theorem LkCm.one {xs : List Int} {L L' : List LkC} {E E' : Int} (h : LkCm xs L E) (g : LkCm xs L' E') : L = L' ∧ E = E' := by
  obtain ⟨R, h1, rfl⟩ := h
  obtain ⟨R', g1, rfl⟩ := g
  obtain ⟨rfl, rfl⟩ := dc_one h1 g1
  exact ⟨rfl, rfl⟩
theorem LkTr.one {xs : List Int} {L L' : List LkC} {E E' : Int} (h : LkTr xs L E) (g : LkTr xs L' E') : L = L' ∧ E = E' := by
  obtain ⟨R, h1, rfl⟩ := h
  obtain ⟨R', g1, rfl⟩ := g
  obtain ⟨rfl, rfl⟩ := dp_one h1 g1
  exact ⟨rfl, rfl⟩
theorem LkTg.one {xs : List Int} {L L' : List LkC} {E E' : Int} (h : LkTg xs L E) (g : LkTg xs L' E') : L = L' ∧ E = E' := by
  obtain ⟨R, h1, rfl⟩ := h
  obtain ⟨R', g1, rfl⟩ := g
  obtain ⟨rfl, rfl⟩ := dg_one h1 g1
  exact ⟨rfl, rfl⟩
theorem DtEnd.lens {xs : List Int} {R : List EnC} {E : Int} (h : DtEnd xs R E) : R.length ≤ 4096 := by
  rcases h with ⟨-, rfl, -⟩ | ⟨-, ⟨h, -⟩ | ⟨-, rfl, -⟩⟩
  · simp
  · exact (treE_ok h.e).1
  · simp
theorem LkEnd.len {k : Int} {xs : List Int} {L : List LkC} {E : Int} (h : LkEnd k xs L E) : L.length ≤ 4096 := by
  unfold LkEnd at h
  split at h
  · rw [h.1]; simp
  split at h
  · obtain ⟨R, h1, rfl⟩ := h
    have := (dc_ok h1).2
    split
    · unfold cmLk; rw [List.length_cons, List.length_map]; omega
    · simp
  split at h
  · obtain ⟨R, h1, rfl⟩ := h
    rw [List.length_map]
    exact h1.lens
  split at h
  · rw [h.1]; simp
  split at h
  · obtain ⟨R, h1, rfl⟩ := h
    split
    · simp [tgLk]
    · simp
  · rw [h.1]; simp


theorem id_info {p : List Int} (h : IdOk p) : (Tryz.prog.info? 31).map (·.size) = some (cellsK .u8 p).length := by rw [idP_len h]; kernel_rfl
theorem LbC.idok {c : LbC} (h : c.ok) : IdOk c.tg := ⟨h.1, h.2.1⟩
theorem LbB.rangeTg {w : World} {g : Nat} {c : LbC} (h : LbB w g c) : w.rangeAt g 0 (cellsK .u8 c.tg) := fun j u hu => h.range j u (by
  unfold LbC.l
  rw [List.getElem?_append_left (by
    rcases Nat.lt_or_ge j (cellsK .u8 c.tg).length with h' | h'
    · exact h'
    · rw [List.getElem?_eq_none h'] at hu; cases hu)]
  exact hu)
theorem OwnL.one (w : World) (base : Nat) (hb : base ≤ w.heap.size) {e : LkC} (h : e.ok) : OwnL (w.alloc (.cells e.l.toArray 125)) base (.slice (some ⟨w.heap.size, 0, none⟩) 1 1) [e] := by
  refine ⟨⟨by simp [LkC.len h], Or.inr ⟨w.heap.size, 1, e.l.toArray, rfl, hb, heap_alloc_new w _, Nat.le_refl _, by decide, by simp [LkC.len h], ?_⟩⟩, fun x hx => ?_⟩
  · rw [List.take_of_length_le (by simp [LkC.len h])]
    simp
  simp at hx
  rw [hx]
  exact h
set_option maxHeartbeats 2000000 in
set_option maxRecDepth 100000 in
theorem tagLinks_any (v : Value) (xs : List Int) (w : World) (hgl : Gl w) (hr : Rd .u8 anyB w v xs) :
    Calls Tryz.prog 71 #[v] w fun e w' => ∃ v' L E, e = .returned (.tuple #[v', .int .i64 E]) ∧ OwnL w' w.heap.size v' L ∧ LkTg xs L E ∧ Below w.heap.size w w' := by
  have K1 := Kept.mk (parseTag_any v xs w hgl hr)
  obtain ⟨a, c, rfl, -⟩ := hr
  clear hgl
  go_enter Tryz.func71, Tryz.ntmps71
  go_wp2_with fail
  refine Calls.mono K1.out (fun e w1 hp => ?_)
  obtain ⟨R, E, rfl, hd, hb⟩ := hp
  have hok := dg_ok hd
  obtain ⟨wa, w2, hS⟩ := lb_store w1 hok
  have KB2 := Kept.mk (hb.trans (hS.be.mono hb.size))
  have Kd := Kept.mk hd
  have Kok := Kept.mk hok
  have KI2 := Kept.mk (lb_info2 hok)
  have KOl := Kept.mk R.all
  have Ka := Kept.mk hS.al
  have Kt := Kept.mk hS.st
  have Kh := Kept.mk hS.th
  have KTg := Kept.mk hS.bl.rangeTg
  have KIi := Kept.mk (id_info (LbC.idok hok))
  have hk := hS.bl.cell hok 0 _ rfl
  clear hb hd K1 hok hS
  obtain ⟨RL, hRL⟩ : ∃ RL, R.l = RL := ⟨_, rfl⟩
  rw [hRL] at KI2 KOl Kt Kh
  rw [hRL]
  clear hRL
  by_cases hE : E = 0
  · subst hE
    have KOf : Kept (OwnL (w2.alloc (.cells (LkC.l ⟨R.k, R.tg⟩).toArray 125)) w.heap.size (.slice (some ⟨w2.heap.size, 0, none⟩) 1 1) [⟨R.k, R.tg⟩]) := ⟨OwnL.one w2 _ KB2.out.size ((LbC.idok Kok.out))⟩
    have KBf : Kept (Below w.heap.size w (w2.alloc (.cells (LkC.l ⟨R.k, R.tg⟩).toArray 125))) := ⟨KB2.out.alloc KB2.out.size _⟩
    have Kll : Kept ((LkC.l ⟨R.k, R.tg⟩).length = 33) := ⟨LkC.len (LbC.idok Kok.out)⟩
    have KE : Kept (LkTg xs [⟨R.k, R.tg⟩] 0) := ⟨⟨R, Kd.out, by rw [if_pos rfl]; rfl⟩⟩
    have Kid := Kept.mk (LbC.idok Kok.out)
    clear Kd Kok KB2
    generalize R.k = rk at *
    generalize R.tg = rt at *
    go_wp2_with (first | (generalize hOb : Obj.cells (_ : Array Value) 127 = Ob; obtain rfl : Ob = Obj.cells lb0.l.toArray 127 := (by subst hOb; rfl); clear hOb; rw [Ka.out]; refine wpList_store_mid rfl 127 _ _ rfl w1.heap.size 0 RL.toArray rfl rfl Kh.out KI2.out KOl.out ?_; rw [Kt.out]) | (refine wpList_load_mid rfl 31 _ rfl w1.heap.size 0 rfl (cellsK .u8 rt) _ KTg.out Tryz.underlying31 rfl KIi.out ?_) | (refine wpList_buildLk rfl _ _ rfl rk rt Kid.out rfl rfl ?_) | (refine wpList_sliceL rfl _ rfl (LkC.l ⟨rk, rt⟩) Kll.out rfl ?_; generalize hx4 : w2.alloc (.cells (LkC.l ⟨rk, rt⟩).toArray 125) = x4 at *))
    go_ret2
    exact ⟨_, _, 0, rfl, KOf.out, KE.out, KBf.out⟩
  · have hEb : (E != 0) = true := by simpa using hE
    have KE : Kept (LkTg xs [] E) := ⟨⟨R, Kd.out, by rw [if_neg hE]⟩⟩
    clear Kd hE
    go_wp2_with (first | (generalize hOb : Obj.cells (_ : Array Value) 127 = Ob; obtain rfl : Ob = Obj.cells lb0.l.toArray 127 := (by subst hOb; rfl); clear hOb; rw [Ka.out]; refine wpList_store_mid rfl 127 _ _ rfl w1.heap.size 0 RL.toArray rfl rfl Kh.out KI2.out KOl.out ?_; rw [Kt.out]))
    go_ret2
    exact ⟨_, [], E, rfl, OwnL.nil _ _, KE.out, KB2.out⟩
set_option maxHeartbeats 4000000 in
set_option maxRecDepth 100000 in
theorem commitLinks_any (v : Value) (xs : List Int) (w : World) (hgl : Gl w) (hr : Rd .u8 anyB w v xs) :
    Calls Tryz.prog 69 #[v] w fun e w' => ∃ v' L E, e = .returned (.tuple #[v', .int .i64 E]) ∧ OwnL w' w.heap.size v' L ∧ LkCm xs L E ∧ Below w.heap.size w w' := by
  have K1 := Kept.mk (parseCommit_any v xs w hgl hr)
  obtain ⟨a, c, rfl, -⟩ := hr
  clear hgl
  go_enter Tryz.func69, Tryz.ntmps69
  go_wp2_with fail
  refine Calls.mono K1.out (fun e w1 hp => ?_)
  obtain ⟨R, pv, E, rfl, how, hd, hb⟩ := hp
  obtain ⟨hok, hps⟩ := dc_ok hd
  obtain ⟨wa, w2, hS⟩ := cm_store w1 pv hok
  have KB2 := Kept.mk (hb.trans (hS.be.mono hb.size))
  have Kd := Kept.mk hd
  have Kok := Kept.mk hok
  have KI2 : Kept ((Tryz.prog.info? 40).map (·.size) = some (R.l pv).toArray.size) := ⟨by rw [List.size_toArray]; exact cm_info hok⟩
  have KOl : Kept ((R.l pv).toArray.all (·.oneCell') = true) := ⟨CmC.all how.one⟩
  have Ka := Kept.mk hS.al
  have Kt := Kept.mk hS.st
  have Kh := Kept.mk hS.th
  have KTg := Kept.mk hS.bl.rangeTg
  have KIi := Kept.mk (id_info hok.1)
  have KP2 := Kept.mk (how.rdP.later hS.be (Nat.le_refl _))
  have KL1 : Kept (w1.heap.size < w2.heap.size) := ⟨hS.bl.lt⟩
  have hk := hS.bl.cell hok 0 _ rfl
  have Khk : Kept (∀ W, Below w2.heap.size w2 W → W.cell? ⟨w1.heap.size, 32, none⟩ = some pv) := ⟨fun W hW => by rw [hW.cell (p := ⟨w1.heap.size, 32, none⟩) KL1.out]; exact hk⟩
  clear hb hd K1 hok hS how hk
  obtain ⟨RL, hRL⟩ : ∃ RL, R.l pv = RL := ⟨_, rfl⟩
  rw [hRL] at KI2 KOl Kt Kh
  rw [hRL]
  clear hRL
  by_cases hE : E = 0
  · subst hE
    have KOf : Kept (OwnL (w2.alloc (.cells (LkC.l ⟨2, R.tg⟩).toArray 125)) w2.heap.size (.slice (some ⟨w2.heap.size, 0, none⟩) 1 1) (⟨2, R.tg⟩ :: (R.ps.take 0).map (fun p => ⟨1, p⟩))) := ⟨OwnL.one w2 _ (Nat.le_refl _) Kok.out.1⟩
    have KBf : Kept (Below w2.heap.size w2 (w2.alloc (.cells (LkC.l ⟨2, R.tg⟩).toArray 125))) := ⟨(Below.refl _ _).alloc (Nat.le_refl _) _⟩
    have Kll : Kept ((LkC.l ⟨2, R.tg⟩).length = 33) := ⟨LkC.len Kok.out.1⟩
    have KE : Kept (LkCm xs (⟨2, R.tg⟩ :: R.ps.map (fun p => ⟨1, p⟩)) 0) := ⟨⟨R, Kd.out, by rw [if_pos rfl]; rfl⟩⟩
    have Kid : Kept (IdOk R.tg) := ⟨Kok.out.1⟩
    have Kpl : Kept (R.ps.length ≤ 16) := ⟨hps⟩
    have hpl : R.ps.length ≤ 16 := hps
    clear Kd Kok hps
    generalize R.tg = rt at *
    generalize R.ps = ps at *
    obtain ⟨x4, hx4⟩ : ∃ x4, w2.alloc (.cells (LkC.l ⟨2, rt⟩).toArray 125) = x4 := ⟨_, rfl⟩
    rw [hx4] at KOf KBf
    have KX4 := Kept.mk hx4
    clear hx4
    have hc4 := Khk.out x4 KBf.out
    have KRd : Kept (∀ W, Below w2.heap.size w2 W → RdP W pv ps) := ⟨fun W hW => KP2.out.later hW (Nat.le_refl _)⟩
    obtain ⟨pa, pc, hpv, -⟩ := KP2.out
    subst hpv
    clear KP2 Khk
    go_upto_region 6 with (first | (generalize hOb : Obj.cells (_ : Array Value) 40 = Ob; obtain rfl : Ob = Obj.cells (cm0.l pv0).toArray 40 := (by subst hOb; rfl); clear hOb; rw [Ka.out]; refine wpList_store_mid rfl 40 _ _ rfl w1.heap.size 0 RL.toArray rfl rfl Kh.out KI2.out KOl.out ?_; rw [Kt.out]) | (refine wpList_load_mid rfl 31 _ rfl w1.heap.size 0 rfl (cellsK .u8 rt) _ KTg.out Tryz.underlying31 rfl KIi.out ?_) | (refine wpList_buildLk rfl _ _ rfl 2 rt Kid.out rfl rfl ?_) | (refine wpList_sliceL rfl _ rfl (LkC.l ⟨2, rt⟩) Kll.out rfl ?_; rw [KX4.out]))
    clear hc4
    go_loopw [6, 24] (fun lv iv wr => ∃ k : Nat, k ≤ ps.length ∧ iv = .int .i64 k ∧ OwnL wr w2.heap.size lv (⟨2, rt⟩ :: (ps.take k).map (fun p => ⟨1, p⟩)) ∧ Below w2.heap.size w2 wr) (fun _ iv _ => ps.length - (intOf iv).toNat)
    case atStart => exact ⟨0, Nat.zero_le _, rfl, KOf.out, KBf.out⟩
    case round =>
      obtain ⟨k, hk, rfl, hol, hbr⟩ := hrel
      have KBr := Kept.mk hbr
      have KOl2 := Kept.mk hol
      clear KOf hol
      by_cases hlt : k < ps.length
      · have hki : (k : Int) < (ps.length : Int) := by omega
        have e1 : IntKind.i64.wrap ((k : Int) + 1) = (k : Int) + 1 := by rw [IntKind.wrap_i64]; omega
        obtain ⟨pa', pc', hpe, -, hpo, hpr⟩ := KRd.out wr hbr
        obtain ⟨b, off, hpb, hblt, hrg⟩ := hpr (by omega)
        have hpae : pa = some ⟨b, off, none⟩ := by injection hpe with h1 h2 h3; rw [h1, hpb]
        subst hpae
        have hrow := hrg k hlt
        have hid := hpo _ (List.getElem_mem hlt)
        have Ktk : Kept ((ps.take (k + 1)).map (fun p => LkC.mk 1 p) = (ps.take k).map (fun p => LkC.mk 1 p) ++ [⟨1, ps[k]'hlt⟩]) := ⟨by rw [List.take_add_one, List.getElem?_eq_getElem hlt, List.map_append]; rfl⟩
        have Ktl : Kept (((⟨2, rt⟩ : LkC) :: (ps.take k).map (fun p => LkC.mk 1 p)).length ≤ 17) := ⟨by rw [List.length_cons, List.length_map, List.length_take]; omega⟩
        clear hpr hrg hpo hpe hpl
        generalize (ps[k]'hlt) = ids at *
        have h32 := idP_len hid
        obtain ⟨x2, hx2, hB2, hr2⟩ : ∃ x2, wr.alloc (.cells (cellsK .u8 ids).toArray 31) = x2 ∧ Below wr.heap.size wr x2 ∧ x2.rangeAt wr.heap.size 0 (cellsK .u8 ids) := by
          refine ⟨_, rfl, (Below.refl _ _).alloc (Nat.le_refl _) _, fun j u hu => ?_⟩
          rw [Nat.zero_add, cell_of_row _ _ j _ 31 (0, 0) (heap_alloc_new wr _)]
          simpa using hu
        obtain ⟨x3, hx3, hB3, hr3⟩ : ∃ x3, x2.alloc (.cells (LkC.l ⟨1, ids⟩).toArray 125) = x3 ∧ Below x2.heap.size x2 x3 ∧ x3.rangeAt x2.heap.size 0 (LkC.l ⟨1, ids⟩) := by
          refine ⟨_, rfl, (Below.refl _ _).alloc (Nat.le_refl _) _, fun j u hu => ?_⟩
          rw [Nat.zero_add, cell_of_row _ _ j _ 125 (0, 0) (heap_alloc_new x2 _)]
          simpa using hu
        have hBx := hbr.trans (hB2.mono hbr.size)
        have hBy := hBx.trans (hB3.mono hBx.size)
        have KBy := Kept.mk hBy
        have KOy := Kept.mk ((KOl2.out.later hB2 (Nat.le_refl _)).later hB3 (Nat.le_refl _))
        have KR := Kept.mk hrow
        have KR2 := Kept.mk hr2
        have KR3 := Kept.mk hr3
        have KX2 := Kept.mk hx2
        have KX3 := Kept.mk hx3
        have Kid2 := Kept.mk hid
        have Kll2 : Kept ((LkC.l ⟨1, ids⟩).length = 33) := ⟨LkC.len hid⟩
        have KI := Kept.mk (id_info hid)
        have KI2 : Kept ((Tryz.prog.info? 31).map (·.size) = some (cellsK .u8 ids).toArray.size) := ⟨by rw [List.size_toArray]; exact KI.out⟩
        have KS : Kept ((cellsK .u8 ids).toArray.size = 32) := ⟨by rw [List.size_toArray]; exact h32⟩
        have KO : Kept ((cellsK .u8 ids).toArray.all (·.oneCell') = true) := ⟨by rw [Array.all_eq_true_iff_forall_mem]; intro x hx; exact idP_ones ids x (by simpa using hx)⟩
        clear hrow hid h32 hx2 hB2 hr2 hx3 hB3 hr3 hBx hBy hbr
        go_upto_region 8 with (first | (refine wpList_load_mid rfl 31 _ rfl b (off + k * 32) rfl (cellsK .u8 ids) _ KR.out Tryz.underlying31 rfl KI.out ?_) | (refine BigFrame.wpList_want rfl (fun K hK => wp_store_row 31 _ _ rfl wr.heap.size (cellsK .u8 ids).toArray rfl rfl 31 _ (heap_alloc_new wr _) KI2.out (by rw [KS.out]; rfl) KO.out (hK _ _ ?_)); rw [World.setRow_alloc_new, KX2.out]))
        go_wp2_with (first | (refine wpList_load_mid rfl 31 _ rfl wr.heap.size 0 rfl (cellsK .u8 ids) _ KR2.out Tryz.underlying31 rfl KI.out ?_) | (refine wpList_buildLk rfl _ _ rfl 1 ids Kid2.out rfl rfl ?_) | (refine wpList_sliceL rfl _ rfl (LkC.l ⟨1, ids⟩) Kll2.out rfl ?_; rw [KX3.out]) | (at_builtin; refine wpList_append_L _ rfl _ _ rfl w2.heap.size _ (⟨2, rt⟩ :: (ps.take k).map (fun p => LkC.mk 1 p)) rfl KOy.out ⟨1, ids⟩ Kid2.out x2.heap.size 1 rfl KR3.out (by have := Ktl.out; omega) KBy.out.size ?_; intro v5 x5 ho5 hg5; have KO5 : Kept (OwnL x5 w2.heap.size v5 (⟨2, rt⟩ :: (ps.take (k + 1)).map (fun p => LkC.mk 1 p))) := ⟨by rw [Ktk.out]; exact ho5⟩; have KB5 : Kept (Below w2.heap.size w2 x5) := ⟨KBy.out.trans ((Below.refl _ _).grown hg5 KBy.out.size (fun q hq => (KOy.out.lt q hq).1))⟩; clear ho5 hg5))
        go_roundw
        case rel => exact ⟨k + 1, by omega, by go_num, KO5.out, KB5.out⟩
        case measure => simp [intOf]; omega
      · have hki : ¬ (k : Int) < (ps.length : Int) := by omega
        obtain rfl : k = ps.length := by omega
        have KOf := Kept.mk KOl2.out
        rw [List.take_length] at KOf
        have KBf2 := Kept.mk (KB2.out.trans (hbr.mono KB2.out.size))
        clear hbr KOl2
        go_wp2
        go_ret2
        exact ⟨_, _, 0, rfl, KOf.out.mono KB2.out.size, KE.out, KBf2.out⟩
  · have hEb : (E != 0) = true := by simpa using hE
    have KE : Kept (LkCm xs [] E) := ⟨⟨R, Kd.out, by rw [if_neg hE]⟩⟩
    clear Kd hE Khk KP2
    go_wp2_with (first | (generalize hOb : Obj.cells (_ : Array Value) 40 = Ob; obtain rfl : Ob = Obj.cells (cm0.l pv0).toArray 40 := (by subst hOb; rfl); clear hOb; rw [Ka.out]; refine wpList_store_mid rfl 40 _ _ rfl w1.heap.size 0 RL.toArray rfl rfl Kh.out KI2.out KOl.out ?_; rw [Kt.out]))
    go_ret2
    exact ⟨_, [], E, rfl, OwnL.nil _ _, KE.out, KB2.out⟩


theorem ob_box (w : World) (k : Int) (v : Value) : ∃ w1, w.alloc (.cells #[.int .i64 k, v] 46) = w1 ∧ Below w.heap.size w w1 ∧ w1.cell? ⟨w.heap.size, 0, none⟩ = some (.int .i64 k) ∧ w1.cell? ⟨w.heap.size, 1, none⟩ = some v ∧ w1.heap.size = w.heap.size + 1 := by
  have hblk := heap_alloc_new w (.cells #[.int .i64 k, v] 46)
  exact ⟨_, rfl, (Below.refl _ _).alloc (Nat.le_refl _) _, by rw [cell_of_row _ _ 0 _ _ (0, 0) hblk]; rfl, by rw [cell_of_row _ _ 1 _ _ (0, 0) hblk]; rfl, by simp⟩
theorem lk_long {k : Int} {xs : List Int} (h : 1048576 < xs.length) : LkEnd k xs [] 2 := by unfold LkEnd; rw [if_pos h]; exact ⟨rfl, rfl⟩
theorem lk_cm {xs : List Int} {L : List LkC} {E : Int} (h : ¬ 1048576 < xs.length) (g : LkCm xs L E) : LkEnd 1 xs L E := by unfold LkEnd; rw [if_neg h, if_pos rfl]; exact g
theorem lk_tr {xs : List Int} {L : List LkC} {E : Int} (h : ¬ 1048576 < xs.length) (g : LkTr xs L E) : LkEnd 2 xs L E := by unfold LkEnd; rw [if_neg h, if_neg (by decide), if_pos rfl]; exact g
theorem lk_bl {xs : List Int} (h : ¬ 1048576 < xs.length) : LkEnd 3 xs [] 0 := by unfold LkEnd; rw [if_neg h, if_neg (by decide), if_neg (by decide), if_pos rfl]; exact ⟨rfl, rfl⟩
theorem lk_tg {xs : List Int} {L : List LkC} {E : Int} (h : ¬ 1048576 < xs.length) (g : LkTg xs L E) : LkEnd 4 xs L E := by unfold LkEnd; rw [if_neg h, if_neg (by decide), if_neg (by decide), if_neg (by decide), if_pos rfl]; exact g
theorem lk_no {k : Int} {xs : List Int} (h : ¬ 1048576 < xs.length) (h1 : k ≠ 1) (h2 : k ≠ 2) (h3 : k ≠ 3) (h4 : k ≠ 4) : LkEnd k xs [] 9 := by unfold LkEnd; rw [if_neg h, if_neg h1, if_neg h2, if_neg h3, if_neg h4]; exact ⟨rfl, rfl⟩
set_option maxHeartbeats 2000000 in
set_option maxRecDepth 100000 in
theorem links_any (k : Int) (v : Value) (xs : List Int) (w : World) (hg : Gv w) (hgl : Gl w) (hr : Rd .u8 anyB w v xs) (hA : AllIn 0 256 xs) :
    Calls Tryz.prog 36 #[.agg #[.int .i64 k, v]] w fun e w' => ∃ v' L E, e = .returned (.tuple #[v', .int .i64 E]) ∧ OwnL w' w.heap.size v' L ∧ LkEnd k xs L E ∧ Below w.heap.size w w' := by
  obtain ⟨w1, hw1, hB1, c0, c1, -⟩ := ob_box w k v
  have KT := Kept.mk (treeLinks_any v xs w1 (hg.later hB1) (hgl.later hB1) (hr.later hB1 (Nat.le_refl _)))
  have KC := Kept.mk (commitLinks_any v xs w1 (hgl.later hB1) (hr.later hB1 (Nat.le_refl _)))
  have KG := Kept.mk (tagLinks_any v xs w1 (hgl.later hB1) (hr.later hB1 (Nat.le_refl _)))
  have KA := Kept.mk hA
  have KB1 := Kept.mk hB1
  obtain ⟨a, c, rfl, -⟩ := hr
  clear hg hgl hB1 hA
  by_cases hl : 1048576 < xs.length
  · have hli : (1048576 : Int) < (xs.length : Int) := by omega
    have KE := Kept.mk (lk_long (k := k) hl)
    clear hl KT KC KG
    go_enter Tryz.func36, Tryz.ntmps36
    go_upto_region 1 with fail
    try rw [hw1]
    clear hw1
    go_wp2
    go_ret2
    exact ⟨_, [], 2, rfl, OwnL.nil _ _, KE.out, KB1.out⟩
  · have hli : ¬ (1048576 : Int) < (xs.length : Int) := by omega
    have Kl := Kept.mk hl
    clear hl
    by_cases h1 : k = 1
    · subst h1
      clear KT KG
      go_enter Tryz.func36, Tryz.ntmps36
      go_upto_region 1 with fail
      try rw [hw1]
      clear hw1
      go_wp2_with fail
      refine Calls.mono KC.out (fun e w2 hp => ?_)
      obtain ⟨v2, L, E, rfl, ho, hE, hb⟩ := hp
      have KO := Kept.mk (ho.mono KB1.out.size)
      have KE := Kept.mk (lk_cm Kl.out hE)
      have KB2 := Kept.mk (KB1.out.trans (hb.mono KB1.out.size))
      clear ho hE hb KC c0 c1
      go_wp2
      go_ret2
      exact ⟨_, L, E, rfl, KO.out, KE.out, KB2.out⟩
    · have b1 : (k == 1) = false := by simpa using h1
      by_cases h2 : k = 2
      · subst h2
        clear KC KG
        go_enter Tryz.func36, Tryz.ntmps36
        go_upto_region 1 with fail
        try rw [hw1]
        clear hw1
        go_wp2_with fail
        refine Calls.mono KT.out (fun e w2 hp => ?_)
        obtain ⟨v2, R, E, rfl, ho, hE, hb⟩ := hp
        have KO := Kept.mk (ho.mono KB1.out.size)
        have KE := Kept.mk (lk_tr Kl.out ⟨R, pt_dp KA.out hE, rfl⟩)
        have KB2 := Kept.mk (KB1.out.trans (hb.mono KB1.out.size))
        clear ho hE hb KT c0 c1
        go_wp2
        go_ret2
        exact ⟨_, _, E, rfl, KO.out, KE.out, KB2.out⟩
      · have b2 : (k == 2) = false := by simpa using h2
        by_cases h3 : k = 3
        · subst h3
          have KE := Kept.mk (lk_bl Kl.out)
          clear KT KC KG h1 h2
          go_enter Tryz.func36, Tryz.ntmps36
          go_upto_region 1 with fail
          try rw [hw1]
          clear hw1
          go_wp2
          go_ret2
          exact ⟨_, [], 0, rfl, OwnL.nil _ _, KE.out, KB1.out⟩
        · have b3 : (k == 3) = false := by simpa using h3
          by_cases h4 : k = 4
          · subst h4
            clear KT KC h1 h2 h3
            go_enter Tryz.func36, Tryz.ntmps36
            go_upto_region 1 with fail
            try rw [hw1]
            clear hw1
            go_wp2_with fail
            refine Calls.mono KG.out (fun e w2 hp => ?_)
            obtain ⟨v2, L, E, rfl, ho, hE, hb⟩ := hp
            have KO := Kept.mk (ho.mono KB1.out.size)
            have KE := Kept.mk (lk_tg Kl.out hE)
            have KB2 := Kept.mk (KB1.out.trans (hb.mono KB1.out.size))
            clear ho hE hb KG c0 c1
            go_wp2
            go_ret2
            exact ⟨_, L, E, rfl, KO.out, KE.out, KB2.out⟩
          · have b4 : (k == 4) = false := by simpa using h4
            have KE := Kept.mk (lk_no Kl.out h1 h2 h3 h4)
            clear KT KC KG h1 h2 h3 h4
            go_enter Tryz.func36, Tryz.ntmps36
            go_upto_region 1 with fail
            try rw [hw1]
            clear hw1
            go_wp2
            go_ret2
            exact ⟨_, [], 9, rfl, OwnL.nil _ _, KE.out, KB1.out⟩
set_option maxHeartbeats 1000000 in
set_option maxRecDepth 100000 in
theorem check_any (k : Int) (v : Value) (xs : List Int) (w : World) (hg : Gv w) (hgl : Gl w) (hr : Rd .u8 anyB w v xs) (hA : AllIn 0 256 xs) :
    Calls Tryz.prog 11 #[.agg #[.int .i64 k, v]] w fun e w' => ∃ L E, e = .returned (.int .i64 E) ∧ LkEnd k xs L E ∧ Below w.heap.size w w' := by
  obtain ⟨w1, hw1, hB1, c0, c1, -⟩ := ob_box w k v
  have K1 := Kept.mk (links_any k v xs w1 (hg.later hB1) (hgl.later hB1) (hr.later hB1 (Nat.le_refl _)) hA)
  have KB1 := Kept.mk hB1
  obtain ⟨a, c, rfl, -⟩ := hr
  clear hg hgl hB1 hA
  go_enter Tryz.func11, Tryz.ntmps11
  go_upto_region 1 with fail
  try rw [hw1]
  clear hw1
  go_wp2_with fail
  refine Calls.mono K1.out (fun e w2 hp => ?_)
  obtain ⟨v2, L, E, rfl, ho, hE, hb⟩ := hp
  have KE := Kept.mk hE
  have KB2 := Kept.mk (KB1.out.trans (hb.mono KB1.out.size))
  clear ho hE hb K1 c0 c1
  go_wp2
  go_ret
  exact ⟨L, E, rfl, KE.out, KB2.out⟩
end Go.Proofs.YtkbalngddlhlpaaGreatDoor
