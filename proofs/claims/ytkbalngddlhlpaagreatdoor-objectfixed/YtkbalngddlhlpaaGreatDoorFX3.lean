/-
  Entries and ids that ObjectFixed makes.
-/
import Derived.Test.YtkbalngddlhlpaaGreatDoorJ4
import Derived.Test.YtkbalngddlhlpaaGreatDoorC4
import Derived.Test.YtkbalngddlhlpaaGreatDoorO29
import Derived.OwnWalk
namespace Go.Proofs.YtkbalngddlhlpaaGreatDoor
open Go.RowKit

theorem z32_in : AllIn 0 256 z32L := fun x hx => by rw [List.eq_of_mem_replicate hx]; omega
theorem z32_len : z32L.length = 32 := List.length_replicate
theorem z32_id : IdOk z32L := ⟨z32_len, z32_in⟩
theorem enZ_ok (m : Int) (nm : ByteArray) (h0 : -9223372036854775808 ≤ m) (h1 : m < 9223372036854775808) (h2 : nm.size ≤ 140737488355328) : (⟨m, nm, z32L⟩ : EnC).ok := ⟨z32_len, z32_in, h0, h1, h2⟩
theorem results_row1 {P : Program} {fn : Func} {p : Tmp} {ty : TypeId} (h : fn.results = #[.cell p ty]) (tmps : Array Value) (w : World) (g : Nat) (t : TypeId) (cs : Array Value) (fr : Nat × Nat) (d : TypeDesc)
    (hp : tmps.getD p undef = .pointer (some ⟨g, 0, none⟩)) (hg : w.heap[g]? = some (.cells cs t fr)) (hu : P.underlying ty = some d) (hd : (match d with | .struct _ | .array _ _ => true | _ => false) = true) (hi : (P.info? ty).map (·.size) = some cs.size) :
    (results fn tmps).run P w = .ok (.agg cs) w := by
  have hp' : tmps[p]?.getD undef = .pointer (some ⟨g, 0, none⟩) := by rw [← Array.getD_eq_getD_getElem?]; exact hp
  simp only [results, h]
  simp [hp']
  simp only [asAddr, Sem.run_pure, Result.andThen_ok, run_loadVar_row w g t ty cs fr d hg hu hd hi]
theorem en_ones (e : EnC) : e.l.toArray.all (·.oneCell') = true := by
  refine all_oneCell_toArray (fun u hu => ?_)
  unfold EnC.l at hu
  rcases List.mem_cons.1 hu with rfl | hu
  · rfl
  · rcases List.mem_cons.1 hu with rfl | hu
    · rfl
    · exact cellsK_one _ _ u hu
theorem en_info {e : EnC} (h : e.ok) : (Tryz.prog.info? 33).map (·.size) = some e.l.toArray.size := by rw [List.size_toArray, EnC.len h]; kernel_rfl
set_option maxRecDepth 100000 in
set_option maxHeartbeats 400000 in
theorem file_any (s : ByteArray) (hs : s.size ≤ 140737488355328) (w : World) : Calls Tryz.prog 8 #[.string s] w fun e w' => e = .returned (.agg (EnC.l ⟨33188, s, z32L⟩).toArray) ∧ Below w.heap.size w w' := by
  have hok := enZ_ok 33188 s (by omega) (by omega) hs
  have KI := Kept.mk (en_info hok)
  have KO := Kept.mk (en_ones ⟨33188, s, z32L⟩)
  have KL : Kept ((EnC.l ⟨33188, s, z32L⟩).toArray.size = 34) := ⟨by rw [List.size_toArray]; exact EnC.len hok⟩
  clear hok
  have KB := Kept.mk (fun EL : List Value => (Below.refl w.heap.size w).alloc (Nat.le_refl _) (.cells EL.toArray 33))
  generalize hE : (EnC.l ⟨33188, s, z32L⟩) = EL at *
  have KE := Kept.mk hE
  clear hE
  have KH := Kept.mk (heap_alloc_new w (.cells EL.toArray 33))
  go_enter Tryz.func8, Tryz.ntmps8
  go_wp2_with (first | (refine wpList_buildE rfl _ _ rfl 33188 s rfl rfl ?_; rw [KE.out]) | (refine BigFrame.wpList_want rfl (fun K hK => wp_store_row 33 _ _ rfl w.heap.size EL.toArray rfl rfl 33 _ (heap_alloc_new w _) KI.out (by rw [KL.out]; rfl) KO.out (hK _ _ ?_)); rw [World.setRow_alloc_new]))
  refine bodyPost_ret (v := .agg EL.toArray) (results_row1 (p := 2) (ty := 33) Tryz.results8 _ _ w.heap.size 33 _ (0, 0) _ rfl KH.out Tryz.underlying33 rfl KI.out) rfl ⟨rfl, KB.out EL⟩
set_option maxRecDepth 100000 in
theorem zeroE2 : ∃ i z, Tryz.prog.info? 33 = some i ∧ i.zero = some z ∧ i.size = 34 ∧ (Array.range (2 * 34)).map (z.cells[· % z.cells.size]!) = (z34E ++ z34E).toArray := ⟨_, _, rfl, rfl, rfl, by kernel_rfl⟩
theorem wp_slice2E {o : Oper} {a : Act} {w : World} {K : Act → World → Prop} {Q : Exit → Act → World → Prop} (o1 o2 : Operand) (ho : o.op = .buildSlice 35 2 #[(0, o1), (1, o2)])
    (I1 I2 : List Value) (l1 : I1.length = 34) (l2 : I2.length = 34) (h1 : a.eval o1 = .agg I1.toArray) (h2 : a.eval o2 = .agg I2.toArray)
    (h : K (a.put o.dst (.slice (some ⟨w.heap.size, 0, none⟩) 2 2)) (w.alloc (.cells (I1 ++ I2).toArray 33))) : o.wp Tryz.prog a w K Q := by
  obtain ⟨i, z, hi, hz, hs, hr⟩ := zeroE2
  refine wp_buildSlice 35 33 2 _ ho (I1 ++ I2).toArray i z Tryz.underlying35 hi hz (by rw [hs]; decide) (by rw [hs]; decide) ?_ h
  rw [hs, hr]
  simp only [List.map_toArray, List.map_cons, List.map_nil, h1, h2]
  have e0 : z34E ++ z34E = [] ++ z34E ++ z34E := by simp
  have e1 : [] ++ I1 ++ z34E = I1 ++ z34E ++ [] := by simp
  rw [e0, fillE_cons _ 0 _ _ [] z34E z34E I1 (by rw [z34E_len]; rfl) rfl (by rw [l1, z34E_len]), e1, fillE_cons _ 1 _ _ I1 z34E [] I2 (by rw [z34E_len, l1]) rfl (by rw [l2, z34E_len])]
  unfold Instr.fill
  simp
theorem rdE2 (w : World) (e1 e2 : EnC) (k1 : e1.ok) (k2 : e2.ok) : RdE (w.alloc (.cells (e1.l ++ e2.l).toArray 33)) (.slice (some ⟨w.heap.size, 0, none⟩) 2 2) [e1, e2] := by
  refine ⟨_, 2, rfl, Nat.le_refl _, fun e he => ?_, fun _ => ⟨w.heap.size, 0, rfl, by simp, fun i hi j u hu => ?_⟩⟩
  · rcases List.mem_cons.1 he with rfl | he
    · exact k1
    · obtain rfl := List.mem_singleton.1 he
      exact k2
  · have hrow := heap_alloc_new w (.cells (e1.l ++ e2.l).toArray 33)
    rw [cell_of_row _ w.heap.size _ _ _ (0, 0) hrow, List.getElem?_toArray, Nat.zero_add]
    match i, hi, hu with
    | 0, _, hu =>
      have hu' : e1.l[j]? = some u := hu
      have hj := (List.getElem?_eq_some_iff.1 hu').1
      rw [Nat.zero_mul, Nat.zero_add, List.getElem?_append_left hj]
      exact hu'
    | 1, _, hu =>
      have hu' : e2.l[j]? = some u := hu
      rw [Nat.one_mul, List.getElem?_append_right (by rw [EnC.len k1]; omega), EnC.len k1, Nat.add_sub_cancel_left]
      exact hu'
theorem made_rowsN (s : Nat) (z : Array Value) (hz : z.size = s) (hr : (List.range s).map (fun j => z[j]!) = z.toList) : ∀ n, (madeCells z (n * s)).toList = (List.replicate n z.toList).flatten
  | 0 => by simp [madeCells]
  | n + 1 => by
    have ih := made_rowsN s z hz hr n
    unfold madeCells at ih ⊢
    rw [Array.toList_map, Array.toList_range] at ih ⊢
    rw [show (n + 1) * s = n * s + s from Nat.succ_mul n s, List.range_add, List.map_append, ih, List.replicate_succ', List.flatten_append, List.flatten_singleton, List.map_map]
    congr 1
    rw [← hr]
    apply List.map_congr_left
    intro j hj
    have := List.mem_range.1 hj
    simp only [Function.comp, hz]
    rw [Nat.mul_comm, Nat.mul_add_mod, Nat.mod_eq_of_lt this]
set_option maxRecDepth 100000 in
theorem zeroME : ∃ i z, Tryz.prog.info? 33 = some i ∧ i.zero = some z ∧ i.size = 34 ∧ i.bytes ≤ 100 ∧ z.cells = z34E.toArray := ⟨_, _, rfl, rfl, rfl, by decide, by kernel_rfl⟩
set_option maxRecDepth 100000 in
theorem zeroMI : ∃ i z, Tryz.prog.info? 31 = some i ∧ i.zero = some z ∧ i.size = 32 ∧ i.bytes ≤ 100 ∧ z.cells = (cellsK .u8 z32L).toArray := ⟨_, _, rfl, rfl, rfl, by decide, by kernel_rfl⟩
theorem wpList_makeE (w : World) {ops : Array Oper} {rest : List Oper} {o : Oper} {a : Act} {Q : Exit → Act → World → Prop} (hg : o.guard = none) (l c : Operand) (hop : o.op = Op.makeSlice 35 l c) (hl : a.eval l = .int .i64 4097) (hc : a.eval c = .int .i64 4097)
    (hK : ∀ w', OwnE w' w.heap.size (.slice (some ⟨w.heap.size, 0, none⟩) 4097 4097) (List.replicate 4097 ⟨0, ⟨#[]⟩, z32L⟩) → w.grownBy w' none → wpList Tryz.prog ops Q rest (a.put o.dst (.slice (some ⟨w.heap.size, 0, none⟩) 4097 4097)) w') :
    wpList Tryz.prog ops Q (o :: rest) a w := by
  obtain ⟨i, z, hi, hz, hs, hb, hzc⟩ := zeroME
  refine wpList_make_full w hg l c 35 hop w.heap.size 33 i z 34 Tryz.underlying35 hi hz hs .i64 .i64 4097 4097 4097 hl hc rfl rfl (by have := Nat.mul_le_mul_right 4097 hb; omega) (by unfold maxLen; omega) (Nat.le_refl _) (fun w' ho hgr => hK w' ⟨?_, fun r hr => ?_⟩ hgr)
  · have e : (madeCells z.cells (4097 * 34)).toList = (List.replicate 4097 (⟨0, ⟨#[]⟩, z32L⟩ : EnC)).flatMap EnC.l := by
      rw [made_rowsN 34 z.cells (by rw [hzc, List.size_toArray, z34E_len]) (by rw [hzc]; kernel_rfl), hzc, List.flatMap_def, List.map_replicate]
      rfl
    rw [e] at ho
    rw [List.length_replicate]
    exact ho
  · rw [List.eq_of_mem_replicate hr]
    exact enZ_ok 0 _ (by omega) (by omega) (by decide)
theorem wpList_makeI (n : Nat) (hn : n ≤ 100) (w : World) {ops : Array Oper} {rest : List Oper} {o : Oper} {a : Act} {Q : Exit → Act → World → Prop} (hg : o.guard = none) (l c : Operand) (hop : o.op = Op.makeSlice 36 l c) (hl : a.eval l = .int .i64 (n : Int)) (hc : a.eval c = .int .i64 (n : Int))
    (hK : ∀ w', OwnP w' w.heap.size (.slice (some ⟨w.heap.size, 0, none⟩) n n) (List.replicate n z32L) → w.grownBy w' none → wpList Tryz.prog ops Q rest (a.put o.dst (.slice (some ⟨w.heap.size, 0, none⟩) n n)) w') :
    wpList Tryz.prog ops Q (o :: rest) a w := by
  obtain ⟨i, z, hi, hz, hs, hb, hzc⟩ := zeroMI
  refine wpList_make_full w hg l c 36 hop w.heap.size 31 i z 32 Tryz.underlying36 hi hz hs .i64 .i64 n n n hl hc rfl rfl (by have := Nat.mul_le_mul hb hn; omega) (by unfold maxLen; omega) (Nat.le_refl _) (fun w' ho hgr => hK w' ⟨?_, fun r hr => ?_⟩ hgr)
  · have e : (madeCells z.cells (n * 32)).toList = (List.replicate n z32L).flatMap (cellsK .u8) := by
      rw [made_rowsN 32 z.cells (by rw [hzc, List.size_toArray, cellsK_length, z32_len]) (by rw [hzc]; kernel_rfl), hzc, List.flatMap_def, List.map_replicate]
    rw [e] at ho
    rw [List.length_replicate]
    exact ho
  · rw [List.eq_of_mem_replicate hr]
    exact z32_id


def enB : EnC := ⟨33188, ⟨#[98]⟩, z32L⟩
def enA : EnC := ⟨33188, ⟨#[97]⟩, z32L⟩
def enAB : EnC := ⟨33188, ⟨#[97, 46, 98]⟩, z32L⟩
def enD : EnC := ⟨16384, ⟨#[97]⟩, z32L⟩
theorem enB_ok : enB.ok := enZ_ok _ _ (by omega) (by omega) (by decide)
theorem enA_ok : enA.ok := enZ_ok _ _ (by omega) (by omega) (by decide)
theorem enAB_ok : enAB.ok := enZ_ok _ _ (by omega) (by omega) (by decide)
theorem enD_ok : enD.ok := enZ_ok _ _ (by omega) (by omega) (by decide)
theorem fx_t0 : treE [] = 0 := by kernel_rfl
theorem fx_p0 : putL [] = [] := by kernel_rfl
theorem fx_t1 : treE [enB, enA] = 4 := by kernel_rfl
theorem fx_t2 : treE [enA, enD] = 8 := by kernel_rfl
theorem fx_t3 : treE [enD, enAB] = 4 := by kernel_rfl
theorem fx_t4 : treE [enAB, enD] = 0 := by kernel_rfl
theorem fx_t5 (e : EnC) : treE (List.replicate 4097 e) = 2 := by
  unfold treE
  rw [if_pos (.inl (by rw [List.length_replicate]; omega))]
theorem fx_h1 : hdE 3 3 = 0 := by kernel_rfl
theorem fx_h2 : hdS 3 3 = ⟨#[98, 108, 111, 98, 32, 51, 0]⟩ := by kernel_rfl
theorem fx_h3 : hdE 9 (-1) = 1 := by kernel_rfl
theorem fx_dc {R : CmC} {E : Int} (h : DcEnd [] R E) : R = cm0 ∧ E = 4 := by
  rcases h with ⟨h, -⟩ | ⟨-, h⟩
  · simp at h
  · rcases h with ⟨-, -, h, -⟩ | ⟨-, h1, h2⟩
    · exfalso
      have e : (strOfNums []).data.toList = [] := rfl
      rw [e] at h
      unfold cmU at h
      simp at h
    · exact ⟨h1, h2⟩
theorem fx_l5 {L : List LkC} {E : Int} (h : LkEnd 5 [] L E) : E = 9 := by
  unfold LkEnd at h
  simp at h
  exact h.2
theorem trT_nil : TrT [] [] := ⟨fx_t0, rfl, fun e he => by cases he⟩
theorem fx_l2 {L : List LkC} {E : Int} (h : LkEnd 2 [] L E) : E = 0 := by
  unfold LkEnd at h
  simp at h
  obtain ⟨R, h1, -⟩ := h
  have h2 : DtEnd [] [] 0 := .inr ⟨by simp, .inl ⟨trT_nil, rfl⟩⟩
  exact (dp_one h1 h2).2
def cmS (n : Nat) (zn : Int) : CmC := ⟨z32L, List.replicate n z32L, ⟨⟨#[]⟩, ⟨#[]⟩, 0, zn⟩, ⟨⟨#[]⟩, ⟨#[]⟩, 0, 0⟩, ⟨#[]⟩⟩
theorem cmS_ok (n : Nat) (zn : Int) : (cmS n zn).ok := ⟨z32_id, fun p hp => by rw [List.eq_of_mem_replicate hp]; exact z32_id, by show (0 : Nat) ≤ _; omega⟩
theorem fx_c17 : ceF (cmS 17 9999) = 2 := by
  unfold ceF
  rw [if_pos (.inl (by show 16 < (List.replicate 17 z32L).length; rw [List.length_replicate]; omega))]
theorem fx_c16 : ceF (cmS 16 0) = 0 := by kernel_rfl
set_option maxRecDepth 100000 in
theorem built_c17 (a : Option Addr) (n c : Nat) : Tryz.prog.built 40 [(1, .slice a n c), (2, .agg #[.string ⟨#[]⟩, .string ⟨#[]⟩, .int .i64 0, .int .i64 9999])] = some ((cmS 17 9999).l (.slice a n c)).toArray := by kernel_rfl
set_option maxRecDepth 100000 in
theorem built_c16 (a : Option Addr) (n c : Nat) : Tryz.prog.built 40 [(1, .slice a n c)] = some ((cmS 16 0).l (.slice a n c)).toArray := by kernel_rfl
section
variable {P : Program} {ops : Array Oper} {rest : List Oper} {o : Oper} {a : Act} {w : World} {Q : Exit → Act → World → Prop}
theorem wpList_build1 (hg : o.guard = none) (T : TypeId) (i1 : Nat) (o1 : Operand) (ho : o.op = .build T #[(i1, o1)]) (v1 : Value) (h1 : a.eval o1 = v1) (cells : Array Value) (hb : P.built T [(i1, v1)] = some cells)
    (h : wpList P ops Q rest (a.put o.dst (.agg cells)) w) : wpList P ops Q (o :: rest) a w := by
  refine wpList_plain hg fun K hK => ?_
  have hr := run_build (P := P) w T #[(i1, v1)] _ hb
  unfold Oper.wp execOp
  simp only [ho, Sem.run_bind, List.map_toArray, List.map_cons, List.map_nil, h1, hr, Result.andThen_ok]
  exact hK _ _ h
theorem wpList_build2 (hg : o.guard = none) (T : TypeId) (i1 i2 : Nat) (o1 o2 : Operand) (ho : o.op = .build T #[(i1, o1), (i2, o2)]) (v1 v2 : Value) (h1 : a.eval o1 = v1) (h2 : a.eval o2 = v2) (cells : Array Value) (hb : P.built T [(i1, v1), (i2, v2)] = some cells)
    (h : wpList P ops Q rest (a.put o.dst (.agg cells)) w) : wpList P ops Q (o :: rest) a w := by
  refine wpList_plain hg fun K hK => ?_
  have hr := run_build (P := P) w T #[(i1, v1), (i2, v2)] _ hb
  unfold Oper.wp execOp
  simp only [ho, Sem.run_bind, List.map_toArray, List.map_cons, List.map_nil, h1, h2, hr, Result.andThen_ok]
  exact hK _ _ h
end


set_option maxHeartbeats 8000000 in
set_option maxRecDepth 100000 in
theorem obfixed_walk (w : World) (hg : Gv w) (hgl : Gl w) : Calls Tryz.prog 3 #[] w fun e w' => e = .returned (.bool true) ∧ Below w.heap.size w w' := by
  have KG : Kept (∀ W, Below w.heap.size w W → Gv W ∧ Gl W) := ⟨fun W hW => ⟨hg.later hW, hgl.later hW⟩⟩
  have KAw := Kept.mk (awake_any w hg)
  have KfB : Kept (∀ W, Calls Tryz.prog 8 #[.string ⟨#[98]⟩] W fun e w' => e = .returned (.agg enB.l.toArray) ∧ Below W.heap.size W w') := ⟨fun W => file_any _ (by decide) W⟩
  have KfA : Kept (∀ W, Calls Tryz.prog 8 #[.string ⟨#[97]⟩] W fun e w' => e = .returned (.agg enA.l.toArray) ∧ Below W.heap.size W w') := ⟨fun W => file_any _ (by decide) W⟩
  have KfAB : Kept (∀ W, Calls Tryz.prog 8 #[.string ⟨#[97, 46, 98]⟩] W fun e w' => e = .returned (.agg enAB.l.toArray) ∧ Below W.heap.size W w') := ⟨fun W => file_any _ (by decide) W⟩
  have mk2 : ∀ (W : World) (e1 e2 : EnC) (k1 : e1.ok) (k2 : e2.ok) (E : Int), treE [e1, e2] = E → Below w.heap.size w W → Calls Tryz.prog 7 #[.slice (some ⟨W.heap.size, 0, none⟩) 2 2] (W.alloc (.cells (e1.l ++ e2.l).toArray 33)) fun e w' => ∃ v', e = .returned (.tuple #[v', .int .i64 E]) ∧ Below (W.alloc (.cells (e1.l ++ e2.l).toArray 33)).heap.size (W.alloc (.cells (e1.l ++ e2.l).toArray 33)) w' := fun W e1 e2 k1 k2 E hE hW => by
    have h := putTree_any _ [e1, e2] _ (KG.out _ (hW.alloc hW.size (.cells (e1.l ++ e2.l).toArray 33))).1 (rdE2 W e1 e2 k1 k2)
    rw [hE] at h
    exact h.mono fun e w' ⟨v', h1, _, h3⟩ => ⟨v', h1, h3⟩
  have P1 : Kept (∀ W, Below w.heap.size w W → _) := ⟨fun W hW => mk2 W enB enA enB_ok enA_ok 4 fx_t1 hW⟩
  have P2 : Kept (∀ W, Below w.heap.size w W → _) := ⟨fun W hW => mk2 W enA enD enA_ok enD_ok 8 fx_t2 hW⟩
  have P3 : Kept (∀ W, Below w.heap.size w W → _) := ⟨fun W hW => mk2 W enD enAB enD_ok enAB_ok 4 fx_t3 hW⟩
  have P4 : Kept (∀ W, Below w.heap.size w W → _) := ⟨fun W hW => mk2 W enAB enD enAB_ok enD_ok 0 fx_t4 hW⟩
  have KDi2 := Kept.mk (en_info enD_ok)
  have KDo := Kept.mk (en_ones enD)
  have KLs : Kept (enB.l.length = 34 ∧ enA.l.length = 34 ∧ enAB.l.length = 34 ∧ enD.l.length = 34 ∧ enD.l.toArray.size = 34) := ⟨⟨EnC.len enB_ok, EnC.len enA_ok, EnC.len enAB_ok, EnC.len enD_ok, by rw [List.size_toArray]; exact EnC.len enD_ok⟩⟩
  have KeD : Kept (EnC.l ⟨16384, ⟨#[97]⟩, z32L⟩ = enD.l) := ⟨rfl⟩
  have KDi : Kept ((Tryz.prog.info? 33).map (·.size) = some enD.l.length) := ⟨by have h := en_info enD_ok; rw [List.size_toArray] at h; exact h⟩
  have K5 : Kept (∀ W, Below w.heap.size w W → Calls Tryz.prog 11 #[.agg #[.int .i64 5, .slice none 0 0]] W fun e w' => e = .returned (.int .i64 9) ∧ Below W.heap.size W w') := ⟨fun W hW => (check_any 5 _ [] W (KG.out W hW).1 (KG.out W hW).2 (Rd.nil _ _ _) AllIn.nil).mono fun e w' ⟨L, E, h1, h2, h3⟩ => ⟨by rw [h1, fx_l5 h2], h3⟩⟩
  have K2' : Kept (∀ W, Below w.heap.size w W → Calls Tryz.prog 11 #[.agg #[.int .i64 2, .slice none 0 0]] W fun e w' => e = .returned (.int .i64 0) ∧ Below W.heap.size W w') := ⟨fun W hW => (check_any 2 _ [] W (KG.out W hW).1 (KG.out W hW).2 (Rd.nil _ _ _) AllIn.nil).mono fun e w' ⟨L, E, h1, h2, h3⟩ => ⟨by rw [h1, fx_l2 h2], h3⟩⟩
  have KPc : Kept (∀ W, Below w.heap.size w W → Calls Tryz.prog 9 #[.slice none 0 0] W fun e w' => ∃ pv, e = .returned (.tuple #[.agg (cm0.l pv).toArray, .int .i64 4]) ∧ OwnP w' W.heap.size pv [] ∧ Below W.heap.size W w') := ⟨fun W hW => (parseCommit_any _ [] W (KG.out W hW).2 (Rd.nil _ _ _)).mono fun e w' ⟨R, pv, E, h1, h2, h3, h4⟩ => by
    obtain ⟨rfl, rfl⟩ := fx_dc h3
    exact ⟨pv, h1, h2, h4⟩⟩
  have KHd : Kept (∀ W, Below w.heap.size w W → Calls Tryz.prog 6 #[.int .i64 3, .int .i64 3] W fun e w' => e = .returned (.tuple #[.string ⟨#[98, 108, 111, 98, 32, 51, 0]⟩, .int .i64 0]) ∧ Below W.heap.size W w') := ⟨fun W hW => by
    have h := header_any 3 3 W (KG.out W hW).1 (by omega) (by omega)
    rw [fx_h1, fx_h2] at h
    exact h⟩
  have KH9 : Kept (∀ W, Below w.heap.size w W → Calls Tryz.prog 6 #[.int .i64 9, .int .i64 (-1)] W fun e w' => ∃ s, e = .returned (.tuple #[.string s, .int .i64 1]) ∧ Below W.heap.size W w') := ⟨fun W hW => by
    have h := header_any 9 (-1) W (KG.out W hW).1 (by omega) (by omega)
    rw [fx_h3] at h
    exact h.mono fun e w' ⟨h1, h2⟩ => ⟨_, h1, h2⟩⟩
  have KP0 : Kept (∀ W, Below w.heap.size w W → Calls Tryz.prog 7 #[.slice none 0 0] W fun e w' => ∃ a c, e = .returned (.tuple #[.slice a 0 c, .int .i64 0]) ∧ Below W.heap.size W w') := ⟨fun W hW => by
    have h := putTree_any (.slice none 0 0) [] W (KG.out W hW).1 ⟨none, 0, rfl, Nat.le_refl _, (fun e he => by cases he), fun h => by simp at h⟩
    rw [fx_t0, fx_p0] at h
    refine h.mono fun e w' ⟨v', h1, h2, h3⟩ => ?_
    obtain ⟨a, c, rfl, -⟩ := h2.rd.form
    exact ⟨a, c, h1, h3⟩⟩
  have KPm : Kept (∀ W v, Below w.heap.size w W → RdE W v (List.replicate 4097 ⟨0, ⟨#[]⟩, z32L⟩) → Calls Tryz.prog 7 #[v] W fun e w' => ∃ v', e = .returned (.tuple #[v', .int .i64 2]) ∧ Below W.heap.size W w') := ⟨fun W v hW hr => by
    have h := putTree_any v _ W (KG.out W hW).1 hr
    rw [fx_t5] at h
    exact h.mono fun e w' ⟨v', h1, _, h3⟩ => ⟨v', h1, h3⟩⟩
  have KC17 : Kept (∀ W pv, Below w.heap.size w W → RdP W pv (List.replicate 17 z32L) → Calls Tryz.prog 10 #[.agg ((cmS 17 9999).l pv).toArray] W fun e w' => ∃ v', e = .returned (.tuple #[v', .int .i64 2]) ∧ Below W.heap.size W w') := ⟨fun W pv hW hr => by
    have h := putCommit_any (cmS 17 9999) pv W (KG.out W hW).2 (cmS_ok _ _) hr
    rw [fx_c17] at h
    exact h.mono fun e w' ⟨v', h1, _, h3⟩ => ⟨v', h1, h3⟩⟩
  have KC16 : Kept (∀ W pv, Below w.heap.size w W → RdP W pv (List.replicate 16 z32L) → Calls Tryz.prog 10 #[.agg ((cmS 16 0).l pv).toArray] W fun e w' => ∃ v', e = .returned (.tuple #[v', .int .i64 0]) ∧ Below W.heap.size W w') := ⟨fun W pv hW hr => by
    have h := putCommit_any (cmS 16 0) pv W (KG.out W hW).2 (cmS_ok _ _) hr
    rw [fx_c16] at h
    exact h.mono fun e w' ⟨v', h1, _, h3⟩ => ⟨v', h1, h3⟩⟩
  clear mk2 hg hgl
  generalize enB.l = BL at *
  generalize enA.l = AL at *
  generalize enAB.l = ABL at *
  generalize enD.l = DL at *
  go_enter Tryz.func3, Tryz.ntmps3
  go_wp2_with fail
  refine Calls.mono KAw.out (fun e w1 hp => ?_)
  obtain ⟨rfl, hb⟩ := hp
  have B1 := Kept.mk hb
  have U := Kept.mk (KHd.out w1 hb)
  clear hb KAw KHd
  go_wp2_with fail
  refine Calls.mono U.out (fun e w2 hp => ?_)
  obtain ⟨rfl, hb⟩ := hp
  have B2 := Kept.mk (B1.out.trans (hb.mono B1.out.size))
  have U := Kept.mk (KP0.out w2 B2.out)
  clear hb KP0 B1
  go_wp2_with fail
  refine Calls.mono U.out (fun e w3 hp => ?_)
  obtain ⟨za, zc, rfl, hb⟩ := hp
  have B3 := Kept.mk (B2.out.trans (hb.mono B2.out.size))
  have hb4 := (Below.refl w3.heap.size w3).alloc (Nat.le_refl _) (.cells DL.toArray 33)
  have hrow := heap_alloc_new w3 (.cells DL.toArray 33)
  have hlt4 : w3.heap.size < (w3.alloc (.cells DL.toArray 33)).heap.size := by simp
  obtain ⟨w4, hw4⟩ : ∃ w4, w3.alloc (.cells DL.toArray 33) = w4 := ⟨_, rfl⟩
  have Kw4 := Kept.mk hw4
  rw [hw4] at hb4 hrow hlt4
  have B4 := Kept.mk (B3.out.trans (hb4.mono B3.out.size))
  have KDr : Kept (∀ W, Below w4.heap.size w4 W → W.rangeAt w3.heap.size 0 DL) := ⟨fun W hW j u hu => by
    have h : W.heap[w3.heap.size]? = some (.cells DL.toArray 33) := by rw [hW.block _ hlt4]; exact hrow
    rw [Nat.zero_add, cell_of_row W w3.heap.size j _ _ (0, 0) h, List.getElem?_toArray]
    exact hu⟩
  clear hb hb4 hrow hlt4 hw4 U B2
  go_wp2_with (first | (refine wpList_buildE rfl _ _ rfl 16384 ⟨#[97]⟩ rfl rfl ?_; rw [KeD.out]) | (refine BigFrame.wpList_want rfl (fun K hK => wp_store_row 33 _ _ rfl w3.heap.size DL.toArray rfl rfl 33 _ (heap_alloc_new w3 _) KDi2.out (by rw [KLs.out.2.2.2.2]; rfl) KDo.out (hK _ _ ?_)); rw [World.setRow_alloc_new]; rw [Kw4.out]))
  obtain ⟨gd, hgd⟩ : ∃ gd, w3.heap.size = gd := ⟨_, rfl⟩
  rw [hgd] at KDr ⊢
  clear hgd Kw4 KeD KDi2 KDo
  refine Calls.mono (KfB.out w4) (fun e w5 hp => ?_)
  obtain ⟨rfl, hb⟩ := hp
  have C5 : Kept (Below w.heap.size w w5 ∧ Below w4.heap.size w4 w5) := ⟨⟨B4.out.trans (hb.mono B4.out.size), hb⟩⟩
  clear hb KfB B3 B4
  go_wp2_with fail
  refine Calls.mono (KfA.out w5) (fun e w6 hp => ?_)
  obtain ⟨rfl, hb⟩ := hp
  have C6 : Kept (Below w.heap.size w w6 ∧ Below w4.heap.size w4 w6) := ⟨⟨C5.out.1.trans (hb.mono C5.out.1.size), C5.out.2.trans (hb.mono C5.out.2.size)⟩⟩
  clear hb C5
  have U := P1.out w6 C6.out.1
  have hbx := (Below.refl w6.heap.size w6).alloc (Nat.le_refl _) (.cells (BL ++ AL).toArray 33)
  obtain ⟨w7, hw7⟩ : ∃ w7, w6.alloc (.cells (BL ++ AL).toArray 33) = w7 := ⟨_, rfl⟩
  rw [hw7] at U hbx
  have Kw7 := Kept.mk hw7
  have U := Kept.mk U
  have C7 : Kept (Below w.heap.size w w7 ∧ Below w4.heap.size w4 w7) := ⟨⟨C6.out.1.trans (hbx.mono C6.out.1.size), C6.out.2.trans (hbx.mono C6.out.2.size)⟩⟩
  clear hw7 hbx C6 P1
  go_wp2_with (refine BigFrame.wpList_want rfl (fun K hK => wp_slice2E _ _ rfl BL AL KLs.out.1 KLs.out.2.1 rfl rfl (hK _ _ ?_)); rw [Kw7.out])
  refine Calls.mono U.out (fun e w8 hp => ?_)
  obtain ⟨t1, rfl, hb⟩ := hp
  have C8 : Kept (Below w.heap.size w w8 ∧ Below w4.heap.size w4 w8) := ⟨⟨C7.out.1.trans (hb.mono C7.out.1.size), C7.out.2.trans (hb.mono C7.out.2.size)⟩⟩
  clear hb U Kw7 C7
  go_upto_region 7 with fail
  have hB0 : Below w.heap.size w w8.drew ∧ Below w4.heap.size w4 w8.drew := ⟨C8.out.1.drew, C8.out.2.drew⟩
  have hS0 := KDr.out w8.drew hB0.2
  have KB0 := Kept.mk hB0
  clear hB0
  refine wp_region_noPanic ?_
  refine wp_region_held_drew (S := fun W => W.rangeAt gd 0 DL) (by kernel_rfl) hS0 (fun hHeld => ?_)
  refine wpAnyH_takeD (i := 1) (d := some 44) (v := .agg DL.toArray) rfl rfl (by kernel_rfl) (by kernel_rfl) (by kernel_rfl) (fun _ _ _ h => h) (yieldsIf_load_mid (by rfl) _ _ rfl _ _ rfl DL _ (fun W hSw => hSw) Tryz.underlying33 rfl KDi.out) (by assumption) ?_
  simp only [Act.put, List.setIfInBounds_toArray, List.set_cons_zero, List.set_cons_succ]
  refine wpAnyH_ready (rs := [0]) (by kernel_rfl) (by simp) ?_
  refine AllReadyH.cons (o := _) rfl (fun K hK => ?_) AllReadyH.nil
  go_simp
  refine Calls.mono (KfA.out w8.drew) (fun e w9 hp => ?_)
  obtain ⟨rfl, hb⟩ := hp
  have C9 : Kept (Below w.heap.size w w9 ∧ Below w4.heap.size w4 w9) := ⟨⟨KB0.out.1.trans (hb.mono KB0.out.1.size), KB0.out.2.trans (hb.mono KB0.out.2.size)⟩⟩
  refine hK.out _ _ (KDr.out _ C9.out.2) (fun hHeld1 => ?_)
  clear hK K hHeld hb KB0 hS0 C8
  have U := P2.out w9 C9.out.1
  have hbx := (Below.refl w9.heap.size w9).alloc (Nat.le_refl _) (.cells (AL ++ DL).toArray 33)
  obtain ⟨w10, hw10⟩ : ∃ w10, w9.alloc (.cells (AL ++ DL).toArray 33) = w10 := ⟨_, rfl⟩
  rw [hw10] at U hbx
  have Kwx := Kept.mk hw10
  have U := Kept.mk U
  have C10 : Kept (Below w.heap.size w w10 ∧ Below w4.heap.size w4 w10) := ⟨⟨C9.out.1.trans (hbx.mono C9.out.1.size), C9.out.2.trans (hbx.mono C9.out.2.size)⟩⟩
  clear hw10 hbx P2
  refine wpAnyH_ready (rs := [2]) (by kernel_rfl) (by simp) ?_
  refine AllReadyH.cons (o := _) rfl (fun K hK => ?_) AllReadyH.nil
  rw [if_pos (by rfl)]
  refine wp_slice2E _ _ rfl AL DL KLs.out.2.1 KLs.out.2.2.2.1 rfl rfl ?_
  rw [Kwx.out]
  refine hK.out _ _ (KDr.out _ C10.out.2) (fun hHeld2 => ?_)
  simp only [Act.put, List.setIfInBounds_toArray]
  clear hK K hHeld1 Kwx C9
  refine wpAnyH_ready (rs := [3]) (by kernel_rfl) (by simp) ?_
  refine AllReadyH.cons (o := _) rfl (fun K hK => ?_) AllReadyH.nil
  go_simp
  refine Calls.mono U.out (fun e w11 hp => ?_)
  obtain ⟨t2, rfl, hb⟩ := hp
  have C11 : Kept (Below w.heap.size w w11 ∧ Below w4.heap.size w4 w11) := ⟨⟨C10.out.1.trans (hb.mono C10.out.1.size), C10.out.2.trans (hb.mono C10.out.2.size)⟩⟩
  refine hK.out _ _ (KDr.out _ C11.out.2) (fun hHeld3 => ?_)
  clear hK K hHeld2 hb U C10
  refine wpAnyH_takeD (i := 4) (d := some 42) (v := .tuple #[t2, .int .i64 8]) rfl rfl (by kernel_rfl) (by kernel_rfl) (by kernel_rfl) (fun _ _ _ h => h) (Or.inl ⟨by rfl, fun W hSw => by (try dsimp only at hSw); go_simp⟩) (by assumption) ?_
  simp only [Act.put, List.setIfInBounds_toArray, List.set_cons_zero, List.set_cons_succ]
  refine wpAnyH_takeD (i := 5) (d := some 47) (v := t2) rfl rfl (by kernel_rfl) (by kernel_rfl) (by kernel_rfl) (fun _ _ _ h => h) (Or.inl ⟨by rfl, fun W hSw => by (try dsimp only at hSw); go_simp⟩) (by assumption) ?_
  simp only [Act.put, List.setIfInBounds_toArray, List.set_cons_zero, List.set_cons_succ]
  refine wpAnyH_takeD (i := 6) (d := some 48) (v := .int .i64 8) rfl rfl (by kernel_rfl) (by kernel_rfl) (by kernel_rfl) (fun _ _ _ h => h) (Or.inl ⟨by rfl, fun W hSw => by (try dsimp only at hSw); go_simp⟩) (by assumption) ?_
  simp only [Act.put, List.setIfInBounds_toArray, List.set_cons_zero, List.set_cons_succ]
  refine wpAnyH_takeD (i := 7) (d := some 8) (v := t2) rfl rfl (by kernel_rfl) (by kernel_rfl) (by kernel_rfl) (fun _ _ _ h => h) (Or.inl ⟨by rfl, fun W hSw => by (try dsimp only at hSw); go_simp⟩) (by assumption) ?_
  simp only [Act.put, List.setIfInBounds_toArray, List.set_cons_zero, List.set_cons_succ]
  refine wpAnyH_takeD (i := 8) (d := some 9) (v := .int .i64 8) rfl rfl (by kernel_rfl) (by kernel_rfl) (by kernel_rfl) (fun _ _ _ h => h) (Or.inl ⟨by rfl, fun W hSw => by (try dsimp only at hSw); go_simp⟩) (by assumption) ?_
  simp only [Act.put, List.setIfInBounds_toArray, List.set_cons_zero, List.set_cons_succ]
  refine wpAnyH_done (by kernel_rfl) ?_ _
  refine NoPanic.normal ?_
  clear hHeld3
  go_upto_region 8 with fail
  have hB0 : Below w.heap.size w w11.drew ∧ Below w4.heap.size w4 w11.drew := ⟨C11.out.1.drew, C11.out.2.drew⟩
  have hS0 := KDr.out w11.drew hB0.2
  have KB0 := Kept.mk hB0
  clear hB0
  refine wp_region_noPanic ?_
  refine wp_region_held_drew (S := fun W => W.rangeAt gd 0 DL) (by kernel_rfl) hS0 (fun hHeld => ?_)
  refine wpAnyH_takeD (i := 0) (d := some 50) (v := .agg DL.toArray) rfl rfl (by kernel_rfl) (by kernel_rfl) (by kernel_rfl) (fun _ _ _ h => h) (yieldsIf_load_mid (by rfl) _ _ rfl _ _ rfl DL _ (fun W hSw => hSw) Tryz.underlying33 rfl KDi.out) (by assumption) ?_
  simp only [Act.put, List.setIfInBounds_toArray, List.set_cons_zero, List.set_cons_succ]
  refine wpAnyH_ready (rs := [1]) (by kernel_rfl) (by simp) ?_
  refine AllReadyH.cons (o := _) rfl (fun K hK => ?_) AllReadyH.nil
  go_simp
  refine Calls.mono (KfAB.out w11.drew) (fun e w12 hp => ?_)
  obtain ⟨rfl, hb⟩ := hp
  have C12 : Kept (Below w.heap.size w w12 ∧ Below w4.heap.size w4 w12) := ⟨⟨KB0.out.1.trans (hb.mono KB0.out.1.size), KB0.out.2.trans (hb.mono KB0.out.2.size)⟩⟩
  refine hK.out _ _ (KDr.out _ C12.out.2) (fun hHeld1 => ?_)
  clear hK K hHeld hb KB0 hS0 C11
  have U := P3.out w12 C12.out.1
  have hbx := (Below.refl w12.heap.size w12).alloc (Nat.le_refl _) (.cells (DL ++ ABL).toArray 33)
  obtain ⟨w13, hw13⟩ : ∃ w13, w12.alloc (.cells (DL ++ ABL).toArray 33) = w13 := ⟨_, rfl⟩
  rw [hw13] at U hbx
  have Kwx := Kept.mk hw13
  have U := Kept.mk U
  have C13 : Kept (Below w.heap.size w w13 ∧ Below w4.heap.size w4 w13) := ⟨⟨C12.out.1.trans (hbx.mono C12.out.1.size), C12.out.2.trans (hbx.mono C12.out.2.size)⟩⟩
  clear hw13 hbx P3
  refine wpAnyH_ready (rs := [2]) (by kernel_rfl) (by simp) ?_
  refine AllReadyH.cons (o := _) rfl (fun K hK => ?_) AllReadyH.nil
  rw [if_pos (by rfl)]
  refine wp_slice2E _ _ rfl DL ABL KLs.out.2.2.2.1 KLs.out.2.2.1 rfl rfl ?_
  rw [Kwx.out]
  refine hK.out _ _ (KDr.out _ C13.out.2) (fun hHeld2 => ?_)
  simp only [Act.put, List.setIfInBounds_toArray]
  clear hK K hHeld1 Kwx C12
  refine wpAnyH_ready (rs := [3]) (by kernel_rfl) (by simp) ?_
  refine AllReadyH.cons (o := _) rfl (fun K hK => ?_) AllReadyH.nil
  go_simp
  refine Calls.mono U.out (fun e w14 hp => ?_)
  obtain ⟨t3, rfl, hb⟩ := hp
  have C14 : Kept (Below w.heap.size w w14 ∧ Below w4.heap.size w4 w14) := ⟨⟨C13.out.1.trans (hb.mono C13.out.1.size), C13.out.2.trans (hb.mono C13.out.2.size)⟩⟩
  refine hK.out _ _ (KDr.out _ C14.out.2) (fun hHeld3 => ?_)
  clear hK K hHeld2 hb U C13
  refine wpAnyH_takeD (i := 4) (d := some 49) (v := .tuple #[t3, .int .i64 4]) rfl rfl (by kernel_rfl) (by kernel_rfl) (by kernel_rfl) (fun _ _ _ h => h) (Or.inl ⟨by rfl, fun W hSw => by (try dsimp only at hSw); go_simp⟩) (by assumption) ?_
  simp only [Act.put, List.setIfInBounds_toArray, List.set_cons_zero, List.set_cons_succ]
  refine wpAnyH_takeD (i := 5) (d := some 54) (v := t3) rfl rfl (by kernel_rfl) (by kernel_rfl) (by kernel_rfl) (fun _ _ _ h => h) (Or.inl ⟨by rfl, fun W hSw => by (try dsimp only at hSw); go_simp⟩) (by assumption) ?_
  simp only [Act.put, List.setIfInBounds_toArray, List.set_cons_zero, List.set_cons_succ]
  refine wpAnyH_takeD (i := 6) (d := some 55) (v := .int .i64 4) rfl rfl (by kernel_rfl) (by kernel_rfl) (by kernel_rfl) (fun _ _ _ h => h) (Or.inl ⟨by rfl, fun W hSw => by (try dsimp only at hSw); go_simp⟩) (by assumption) ?_
  simp only [Act.put, List.setIfInBounds_toArray, List.set_cons_zero, List.set_cons_succ]
  refine wpAnyH_takeD (i := 7) (d := some 10) (v := t3) rfl rfl (by kernel_rfl) (by kernel_rfl) (by kernel_rfl) (fun _ _ _ h => h) (Or.inl ⟨by rfl, fun W hSw => by (try dsimp only at hSw); go_simp⟩) (by assumption) ?_
  simp only [Act.put, List.setIfInBounds_toArray, List.set_cons_zero, List.set_cons_succ]
  refine wpAnyH_takeD (i := 8) (d := some 11) (v := .int .i64 4) rfl rfl (by kernel_rfl) (by kernel_rfl) (by kernel_rfl) (fun _ _ _ h => h) (Or.inl ⟨by rfl, fun W hSw => by (try dsimp only at hSw); go_simp⟩) (by assumption) ?_
  simp only [Act.put, List.setIfInBounds_toArray, List.set_cons_zero, List.set_cons_succ]
  refine wpAnyH_done (by kernel_rfl) ?_ _
  refine NoPanic.normal ?_
  clear hHeld3
  go_upto_region 9 with fail
  have hB0 : Below w.heap.size w w14.drew ∧ Below w4.heap.size w4 w14.drew := ⟨C14.out.1.drew, C14.out.2.drew⟩
  have hS0 := KDr.out w14.drew hB0.2
  have KB0 := Kept.mk hB0
  clear hB0
  refine wp_region_noPanic ?_
  refine wp_region_held_drew (S := fun W => W.rangeAt gd 0 DL) (by kernel_rfl) hS0 (fun hHeld => ?_)
  refine wpAnyH_takeD (i := 1) (d := some 58) (v := .agg DL.toArray) rfl rfl (by kernel_rfl) (by kernel_rfl) (by kernel_rfl) (fun _ _ _ h => h) (yieldsIf_load_mid (by rfl) _ _ rfl _ _ rfl DL _ (fun W hSw => hSw) Tryz.underlying33 rfl KDi.out) (by assumption) ?_
  simp only [Act.put, List.setIfInBounds_toArray, List.set_cons_zero, List.set_cons_succ]
  refine wpAnyH_ready (rs := [0]) (by kernel_rfl) (by simp) ?_
  refine AllReadyH.cons (o := _) rfl (fun K hK => ?_) AllReadyH.nil
  go_simp
  refine Calls.mono (KfAB.out w14.drew) (fun e w15 hp => ?_)
  obtain ⟨rfl, hb⟩ := hp
  have C15 : Kept (Below w.heap.size w w15 ∧ Below w4.heap.size w4 w15) := ⟨⟨KB0.out.1.trans (hb.mono KB0.out.1.size), KB0.out.2.trans (hb.mono KB0.out.2.size)⟩⟩
  refine hK.out _ _ (KDr.out _ C15.out.2) (fun hHeld1 => ?_)
  clear hK K hHeld hb KB0 hS0 C14
  have U := P4.out w15 C15.out.1
  have hbx := (Below.refl w15.heap.size w15).alloc (Nat.le_refl _) (.cells (ABL ++ DL).toArray 33)
  obtain ⟨w16, hw16⟩ : ∃ w16, w15.alloc (.cells (ABL ++ DL).toArray 33) = w16 := ⟨_, rfl⟩
  rw [hw16] at U hbx
  have Kwx := Kept.mk hw16
  have U := Kept.mk U
  have C16 : Kept (Below w.heap.size w w16 ∧ Below w4.heap.size w4 w16) := ⟨⟨C15.out.1.trans (hbx.mono C15.out.1.size), C15.out.2.trans (hbx.mono C15.out.2.size)⟩⟩
  clear hw16 hbx P4
  refine wpAnyH_ready (rs := [2]) (by kernel_rfl) (by simp) ?_
  refine AllReadyH.cons (o := _) rfl (fun K hK => ?_) AllReadyH.nil
  rw [if_pos (by rfl)]
  refine wp_slice2E _ _ rfl ABL DL KLs.out.2.2.1 KLs.out.2.2.2.1 rfl rfl ?_
  rw [Kwx.out]
  refine hK.out _ _ (KDr.out _ C16.out.2) (fun hHeld2 => ?_)
  simp only [Act.put, List.setIfInBounds_toArray]
  clear hK K hHeld1 Kwx C15
  refine wpAnyH_ready (rs := [3]) (by kernel_rfl) (by simp) ?_
  refine AllReadyH.cons (o := _) rfl (fun K hK => ?_) AllReadyH.nil
  go_simp
  refine Calls.mono U.out (fun e w17 hp => ?_)
  obtain ⟨t4, rfl, hb⟩ := hp
  have C17 : Kept (Below w.heap.size w w17 ∧ Below w4.heap.size w4 w17) := ⟨⟨C16.out.1.trans (hb.mono C16.out.1.size), C16.out.2.trans (hb.mono C16.out.2.size)⟩⟩
  refine hK.out _ _ (KDr.out _ C17.out.2) (fun hHeld3 => ?_)
  clear hK K hHeld2 hb U C16
  refine wpAnyH_takeD (i := 4) (d := some 56) (v := .tuple #[t4, .int .i64 0]) rfl rfl (by kernel_rfl) (by kernel_rfl) (by kernel_rfl) (fun _ _ _ h => h) (Or.inl ⟨by rfl, fun W hSw => by (try dsimp only at hSw); go_simp⟩) (by assumption) ?_
  simp only [Act.put, List.setIfInBounds_toArray, List.set_cons_zero, List.set_cons_succ]
  refine wpAnyH_takeD (i := 5) (d := some 61) (v := t4) rfl rfl (by kernel_rfl) (by kernel_rfl) (by kernel_rfl) (fun _ _ _ h => h) (Or.inl ⟨by rfl, fun W hSw => by (try dsimp only at hSw); go_simp⟩) (by assumption) ?_
  simp only [Act.put, List.setIfInBounds_toArray, List.set_cons_zero, List.set_cons_succ]
  refine wpAnyH_takeD (i := 6) (d := some 62) (v := .int .i64 0) rfl rfl (by kernel_rfl) (by kernel_rfl) (by kernel_rfl) (fun _ _ _ h => h) (Or.inl ⟨by rfl, fun W hSw => by (try dsimp only at hSw); go_simp⟩) (by assumption) ?_
  simp only [Act.put, List.setIfInBounds_toArray, List.set_cons_zero, List.set_cons_succ]
  refine wpAnyH_takeD (i := 7) (d := some 12) (v := t4) rfl rfl (by kernel_rfl) (by kernel_rfl) (by kernel_rfl) (fun _ _ _ h => h) (Or.inl ⟨by rfl, fun W hSw => by (try dsimp only at hSw); go_simp⟩) (by assumption) ?_
  simp only [Act.put, List.setIfInBounds_toArray, List.set_cons_zero, List.set_cons_succ]
  refine wpAnyH_takeD (i := 8) (d := some 13) (v := .int .i64 0) rfl rfl (by kernel_rfl) (by kernel_rfl) (by kernel_rfl) (fun _ _ _ h => h) (Or.inl ⟨by rfl, fun W hSw => by (try dsimp only at hSw); go_simp⟩) (by assumption) ?_
  simp only [Act.put, List.setIfInBounds_toArray, List.set_cons_zero, List.set_cons_succ]
  refine wpAnyH_done (by kernel_rfl) ?_ _
  refine NoPanic.normal ?_
  clear hHeld3
  have B17 := Kept.mk C17.out.1
  have U := Kept.mk (KPc.out w17 B17.out)
  clear KfA KfAB KDr KDi KLs KPc C17
  go_wp2_with fail
  refine Calls.mono U.out (fun e w18 hp => ?_)
  obtain ⟨pv, rfl, hpv, hb⟩ := hp
  have B18 := Kept.mk (B17.out.trans (hb.mono B17.out.size))
  have hpo : pv.oneCell' = true := by
    obtain ⟨a, c, hv, -⟩ := hpv.rdP
    rw [hv]
    rfl
  have KI := Kept.mk (cm_info2 (pv := pv) cm0_ok)
  have KRs : Kept ((cm0.l pv).toArray.size = 42) := ⟨by rw [List.size_toArray]; exact CmC.len cm0_ok⟩
  have KRo : Kept ((cm0.l pv).toArray.all (·.oneCell') = true) := ⟨all_oneCell_toArray (CmC.ones hpo)⟩
  generalize cm0.l pv = RL at *
  have hbx := (Below.refl w18.heap.size w18).alloc (Nat.le_refl _) (.cells RL.toArray 40)
  obtain ⟨w19, hwx⟩ : ∃ w19, w18.alloc (.cells RL.toArray 40) = w19 := ⟨_, rfl⟩
  rw [hwx] at hbx
  have Kwx := Kept.mk hwx
  have B19 := Kept.mk (B18.out.trans (hbx.mono B18.out.size))
  clear hb hpv hpo U hbx hwx
  go_wp2_with (first | (refine BigFrame.wpList_want rfl (fun K hK => wp_store_row 40 _ _ rfl w18.heap.size RL.toArray rfl rfl 40 _ (heap_alloc_new w18 _) KI.out (by rw [KRs.out]; rfl) KRo.out (hK _ _ ?_)); rw [World.setRow_alloc_new]; rw [Kwx.out]) | (at_make; refine wpList_makeE _ rfl _ _ rfl rfl rfl ?_; intro w20 hown hgrow; have hb := (Below.refl w19.heap.size w19).grown hgrow (Nat.le_refl _) (by intro k hk; cases hk); have B20 := Kept.mk (B19.out.trans (hb.mono B19.out.size)); have U := Kept.mk (KPm.out w20 _ B20.out hown.rdE); clear hown hgrow hb))
  refine Calls.mono U.out (fun e w21 hp => ?_)
  obtain ⟨t5, rfl, hb⟩ := hp
  have B21 := Kept.mk (B20.out.trans (hb.mono B20.out.size))
  clear hb U KPm KI KRs KRo Kwx B19 B20
  go_wp2_with (first | (at_make; refine wpList_makeI 17 (by omega) _ rfl _ _ rfl rfl rfl ?_; intro w22 hown hgrow; have hb := (Below.refl w21.heap.size w21).grown hgrow (Nat.le_refl _) (by intro k hk; cases hk); have B22 := Kept.mk (B21.out.trans (hb.mono B21.out.size)); have U := Kept.mk (KC17.out w22 _ B22.out hown.rdP); have Kbt := Kept.mk (built_c17 (some ⟨w21.heap.size, 0, none⟩) 17 17); generalize (cmS 17 9999).l (.slice (some ⟨w21.heap.size, 0, none⟩) 17 17) = SL at *; clear hown hgrow hb) | (refine wpList_build2 rfl 40 1 2 _ _ rfl _ _ rfl rfl _ Kbt.out ?_))
  refine Calls.mono U.out (fun e w23 hp => ?_)
  obtain ⟨t6, rfl, hb⟩ := hp
  have B23 := Kept.mk (B22.out.trans (hb.mono B22.out.size))
  clear hb U KC17 Kbt B21 B22
  go_wp2_with (first | (at_make; refine wpList_makeI 16 (by omega) _ rfl _ _ rfl rfl rfl ?_; intro w24 hown hgrow; have hb := (Below.refl w23.heap.size w23).grown hgrow (Nat.le_refl _) (by intro k hk; cases hk); have B24 := Kept.mk (B23.out.trans (hb.mono B23.out.size)); have U := Kept.mk (KC16.out w24 _ B24.out hown.rdP); have Kbt := Kept.mk (built_c16 (some ⟨w23.heap.size, 0, none⟩) 16 16); generalize (cmS 16 0).l (.slice (some ⟨w23.heap.size, 0, none⟩) 16 16) = TL at *; clear hown hgrow hb) | (refine wpList_build1 rfl 40 1 _ rfl _ rfl _ Kbt.out ?_))
  refine Calls.mono U.out (fun e w25 hp => ?_)
  obtain ⟨t7, rfl, hb⟩ := hp
  have B25 := Kept.mk (B24.out.trans (hb.mono B24.out.size))
  have U := Kept.mk (KH9.out w25 B25.out)
  clear hb KC16 Kbt B23 B24
  go_wp2_with fail
  refine Calls.mono U.out (fun e w26 hp => ?_)
  obtain ⟨s9, rfl, hb⟩ := hp
  have B26 := Kept.mk (B25.out.trans (hb.mono B25.out.size))
  have U := Kept.mk (K5.out w26 B26.out)
  clear hb KH9 K5 B25
  go_wp2_with fail
  refine Calls.mono U.out (fun e w27 hp => ?_)
  obtain ⟨rfl, hb⟩ := hp
  have B27 := Kept.mk (B26.out.trans (hb.mono B26.out.size))
  have U := Kept.mk (K2'.out w27 B27.out)
  clear hb K2' B26
  go_wp2_with fail
  refine Calls.mono U.out (fun e w28 hp => ?_)
  obtain ⟨rfl, hb⟩ := hp
  have B28 := Kept.mk (B27.out.trans (hb.mono B27.out.size))
  clear hb U
  go_wp2
  go_ret
  exact ⟨rfl, B28.out⟩
end Go.Proofs.YtkbalngddlhlpaaGreatDoor
