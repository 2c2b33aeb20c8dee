/-
  IndexFixed's walk.
-/
import Derived.Test.YthkaohkondkhgaaDoorIA
namespace Go.Proofs.YthkaohkondkhgaaDoor
open Go.RowKit

theorem zS_len : zS.l.length = 37 := SlC.len zS_ok
set_option maxRecDepth 100000 in
theorem zeroZ2 : ∃ i z, Tryd.prog.info? 41 = some i ∧ i.zero = some z ∧ i.size = 37 ∧ (Array.range (2 * 37)).map (z.cells[· % z.cells.size]!) = (zS.l ++ zS.l).toArray := ⟨_, _, rfl, rfl, rfl, by kernel_rfl⟩
/-- A slice of two entries. -/
theorem wp_slice2Z {o : Oper} {a : Act} {w : World} {K : Act → World → Prop} {Q : Exit → Act → World → Prop} (o1 o2 : Operand) (ho : o.op = .buildSlice 22 2 #[(0, o1), (1, o2)])
    (I1 I2 : List Value) (l1 : I1.length = 37) (l2 : I2.length = 37) (h1 : a.eval o1 = .agg I1.toArray) (h2 : a.eval o2 = .agg I2.toArray)
    (h : K (a.put o.dst (.slice (some ⟨w.heap.size, 0, none⟩) 2 2)) (w.alloc (.cells (I1 ++ I2).toArray 41))) : o.wp Tryd.prog a w K Q := by
  obtain ⟨i, z, hi, hz, hs, hr⟩ := zeroZ2
  refine wp_buildSlice 22 41 2 _ ho (I1 ++ I2).toArray i z Tryd.underlying22 hi hz (by rw [hs]; decide) (by rw [hs]; decide) ?_ h
  rw [hs, hr]
  simp only [List.map_toArray, List.map_cons, List.map_nil, h1, h2]
  have e0 : zS.l ++ zS.l = [] ++ zS.l ++ zS.l := by simp
  have e1 : [] ++ I1 ++ zS.l = I1 ++ zS.l ++ [] := by simp
  rw [e0, fillE_cons _ 0 _ _ [] zS.l zS.l I1 (by rw [zS_len]; rfl) rfl (by rw [l1, zS_len]), e1, fillE_cons _ 1 _ _ I1 zS.l [] I2 (by rw [zS_len, l1]) rfl (by rw [l2, zS_len])]
  unfold Instr.fill
  simp
theorem rdZ2 (w : World) (e1 e2 : SlC) (k1 : e1.ok) (k2 : e2.ok) : RdZ (w.alloc (.cells (e1.l ++ e2.l).toArray 41)) (.slice (some ⟨w.heap.size, 0, none⟩) 2 2) [e1, e2] := by
  refine ⟨_, 2, rfl, Nat.le_refl _, fun e he => ?_, fun _ => ⟨w.heap.size, 0, rfl, by simp, fun i hi j u hu => ?_⟩⟩
  · rcases List.mem_cons.1 he with rfl | he
    · exact k1
    · obtain rfl := List.mem_singleton.1 he
      exact k2
  · have hrow := heap_alloc_new w (.cells (e1.l ++ e2.l).toArray 41)
    rw [cell_of_row _ w.heap.size _ _ _ (0, 0) hrow, List.getElem?_toArray, Nat.zero_add]
    match i, hi, hu with
    | 0, _, hu =>
      have hu' : e1.l[j]? = some u := hu
      have hj := (List.getElem?_eq_some_iff.1 hu').1
      rw [Nat.zero_mul, Nat.zero_add, List.getElem?_append_left hj]
      exact hu'
    | 1, _, hu =>
      have hu' : e2.l[j]? = some u := hu
      rw [Nat.one_mul, List.getElem?_append_right (by rw [SlC.len k1]; omega), SlC.len k1, Nat.add_sub_cancel_left]
      exact hu'
/-- Cells that make lays, row by row. -/
theorem made_rowsN (s : Nat) (z : Array Value) (hz : z.size = s) (hr : (List.range s).map (fun j => z[j]!) = z.toList) : ∀ n, (madeCells z (n * s)).toList = (List.replicate n z.toList).flatten
  | 0 => by simp [madeCells]
  | n + 1 => by
    have ih := made_rowsN s z hz hr n
    unfold madeCells at ih ⊢
    rw [Array.toList_map, Array.toList_range] at ih ⊢
    rw [show (n + 1) * s = n * s + s from Nat.succ_mul n s, List.range_add, List.map_append, ih, List.replicate_succ', List.flatten_append, List.flatten_singleton, List.map_map]
    congr 1
    rw [← hr]
    apply List.map_congr_left
    intro j hj
    have := List.mem_range.1 hj
    simp only [Function.comp, hz]
    rw [Nat.mul_comm, Nat.mul_add_mod, Nat.mod_eq_of_lt this]
set_option maxRecDepth 100000 in
theorem zeroMZ : ∃ i z, Tryd.prog.info? 41 = some i ∧ i.zero = some z ∧ i.size = 37 ∧ i.bytes ≤ 100 ∧ z.cells = zS.l.toArray := ⟨_, _, rfl, rfl, rfl, by decide, by kernel_rfl⟩
/-- make([]Slot, 4097). -/
theorem wp_makeZ (w : World) {o : Oper} {a : Act} {K : Act → World → Prop} {Q : Exit → Act → World → Prop} (l c : Operand) (hop : o.op = Op.makeSlice 22 l c) (hl : a.eval l = .int .i64 4097) (hc : a.eval c = .int .i64 4097)
    (hK : ∀ w', OwnZ w' w.heap.size (.slice (some ⟨w.heap.size, 0, none⟩) 4097 4097) (List.replicate 4097 zS) → w.grownBy w' none → K (a.put o.dst (.slice (some ⟨w.heap.size, 0, none⟩) 4097 4097)) w') : o.wp Tryd.prog a w K Q := by
  obtain ⟨i, z, hi, hz, hs, hb, hzc⟩ := zeroMZ
  obtain ⟨w', hrun, r1, r2⟩ := run_make_full (P := Tryd.prog) w w.heap.size 22 41 i z 37 Tryd.underlying22 hi hz hs .i64 .i64 4097 (by have := Nat.mul_le_mul_right 4097 hb; omega) (by unfold maxLen; omega) (Nat.le_refl _)
  have hr2 : (Instr.makeSlice 22 (.int .i64 4097) (.int .i64 4097)).run Tryd.prog w = .ok (.slice (some ⟨w.heap.size, 0, none⟩) 4097 4097) w' := hrun
  unfold Oper.wp execOp
  simp only [hop, hl, hc, Sem.run_bind]
  rw [hr2]
  refine hK w' ⟨?_, fun r hr => ?_⟩ r2
  · have e : (madeCells z.cells (4097 * 37)).toList = (List.replicate 4097 zS).flatMap SlC.l := by
      rw [made_rowsN 37 z.cells (by rw [hzc, List.size_toArray, zS_len]) (by rw [hzc]; kernel_rfl), hzc, List.flatMap_def, List.map_replicate]
    rw [e] at r1
    rw [List.length_replicate]
    exact r1
  · rw [List.eq_of_mem_replicate hr]
    exact zS_ok
theorem wpList_buildG {P : Program} {ops : Array Oper} {rest : List Oper} {o : Oper} {a : Act} {w : World} {Q : Exit → Act → World → Prop} (hg : o.guard = none) (t : TypeId) (parts : Array (Nat × Operand)) (ho : o.op = .build t parts) (vs : List (Nat × Value)) (hv : parts.map (fun p => (p.1, a.eval p.2)) = vs.toArray)
    (cells : Array Value) (hb : P.built t vs = some cells) (h : wpList P ops Q rest (a.put o.dst (.agg cells)) w) : wpList P ops Q (o :: rest) a w := by
  refine wpList_plain hg fun K hK => ?_
  have hr := run_build (P := P) w t vs.toArray cells (by simpa using hb)
  unfold Oper.wp execOp
  simp only [ho, Sem.run_bind]
  rw [show (parts.map fun x => match x with | (i, x) => (i, a.eval x)) = vs.toArray from hv]
  rw [hr]
  exact hK _ _ h
theorem wp_loadM {P : Program} {o : Oper} {a : Act} {w : World} {K : Act → World → Prop} {Q : Exit → Act → World → Prop} (ty : TypeId) (x : Operand) (ho : o.op = .load ty x) (b off : Nat) (hx : a.eval x = .pointer (some ⟨b, off, none⟩)) (cs : List Value) (d : TypeDesc) (hc : w.rangeAt b off cs)
    (hu : P.underlying ty = some d) (hd : d.isRow = true) (hi : (P.info? ty).map (·.size) = some cs.length) (hk : K (a.put o.dst (.agg cs.toArray)) w) : o.wp P a w K Q :=
  wp_exec (by
    unfold execOp
    simp only [ho, hx, Instr.loadAt, Instr.sureAddr, Sem.run_bind, Sem.run_pure, Result.andThen_ok, run_loadVar_mid w b off ty cs d hc hu hd hi]) hk
/-- A slice of one slot, where the operation may be guarded. -/
theorem wp_slice1Z {o : Oper} {a : Act} {w : World} {K : Act → World → Prop} {Q : Exit → Act → World → Prop} (o1 : Operand) (ho : o.op = .buildSlice 22 1 #[(0, o1)])
    (IL : List Value) (hl : IL.length = 37) (h1 : a.eval o1 = .agg IL.toArray)
    (h : K (a.put o.dst (.slice (some ⟨w.heap.size, 0, none⟩) 1 1)) (w.alloc (.cells IL.toArray 41))) : o.wp Tryd.prog a w K Q := by
  obtain ⟨i, z, hi, hz, hs, hr⟩ := zeroZ1
  refine wp_buildSlice 22 41 1 _ ho IL.toArray i z Tryd.underlying22 hi hz (by rw [hs]; decide) (by rw [hs]; decide) ?_ h
  rw [hs, hr]
  simp only [List.map_toArray, List.map_cons, List.map_nil, h1]
  have e0 : zS.l = [] ++ zS.l ++ [] := by simp
  rw [e0, fillE_cons _ 0 _ _ [] zS.l [] IL (by rw [zS_len]; rfl) rfl (by rw [hl, zS_len])]
  unfold Instr.fill
  simp
theorem range_row {w : World} {b : Nat} {L : List Value} {t : TypeId} (h : w.heap[b]? = some (.cells L.toArray t)) : w.rangeAt b 0 L := fun j u hu => by
  unfold World.cell?
  simp only [h]
  simpa using hu
theorem rdK_any {w : World} {b : Nat} {xs : List Int} (h : BlkK .u8 w b 5 xs) (hl : xs.length ≤ 3000000) : Rd .u8 anyB w (.slice (some ⟨b, 0, none⟩) xs.length xs.length) xs :=
  ⟨some ⟨b, 0, none⟩, xs.length, rfl, Nat.le_refl _, by unfold maxLen; omega, (fun h => by cases h), fun _ => ⟨b, 0, rfl, h.lt, trivial, fun i hi => by rw [Nat.zero_add]; exact h.cell i hi⟩⟩
theorem all_ones (e : SlC) : e.l.toArray.all (·.oneCell') = true := by rw [Array.all_eq_true_iff_forall_mem]; intro x hx; exact SlC.ones _ x (by simpa using hx)
def sl0 (p : ByteArray) (st md : Int) : SlC := ⟨p, st, md, List.replicate 32 0, 0, 0⟩
theorem sl0_ok (p : ByteArray) (st md : Int) (h1 : i64B st) (h2 : i64B md) (h3 : p.size ≤ 140737488355328) : (sl0 p st md).ok := ⟨rfl, (fun x hx => by unfold sl0 at hx; simp at hx; omega), h1, h2, by unfold i64B sl0; simp, by unfold i64B sl0; simp, h3⟩
theorem chk_nil : chkE [] = 0 := rfl
theorem put_nil_len : (putF []).length = 44 := by
  rw [put_len chk_nil]
  rfl
theorem prs_nil : prsE [] = 4 := by unfold prsE; simp
theorem prs_big : prsE (List.replicate 2097153 0) = 2 := by
  unfold prsE
  rw [if_pos (by rw [List.length_replicate]; omega)]
def fA : SlC := sl0 ⟨#[97]⟩ 0 33188
def fB : SlC := sl0 ⟨#[97]⟩ 2 33188
def fT : SlC := sl0 ⟨#[97]⟩ 0 16384
def fS : SlC := sl0 ⟨#[97]⟩ 4 33188
def fN : SlC := sl0 ⟨#[97, 47, 47, 98]⟩ 0 7
theorem fA_ok : fA.ok := sl0_ok _ _ _ (by unfold i64B; omega) (by unfold i64B; omega) (by decide)
theorem fB_ok : fB.ok := sl0_ok _ _ _ (by unfold i64B; omega) (by unfold i64B; omega) (by decide)
theorem fT_ok : fT.ok := sl0_ok _ _ _ (by unfold i64B; omega) (by unfold i64B; omega) (by decide)
theorem fS_ok : fS.ok := sl0_ok _ _ _ (by unfold i64B; omega) (by unfold i64B; omega) (by decide)
theorem fN_ok : fN.ok := sl0_ok _ _ _ (by unfold i64B; omega) (by unfold i64B; omega) (by decide)
set_option maxRecDepth 100000 in
theorem path_n : pathF ⟨#[97, 47, 47, 98]⟩ = false := by kernel_rfl
set_option maxRecDepth 100000 in
theorem built_fA : Tryd.prog.built 41 [(0, .string ⟨#[97]⟩), (2, .int .i64 33188)] = some fA.l.toArray := by kernel_rfl
set_option maxRecDepth 100000 in
theorem built_fB : Tryd.prog.built 41 [(0, .string ⟨#[97]⟩), (2, .int .i64 33188), (1, .int .i64 2)] = some fB.l.toArray := by kernel_rfl
set_option maxRecDepth 100000 in
theorem built_fT : Tryd.prog.built 41 [(0, .string ⟨#[97]⟩), (2, .int .i64 16384)] = some fT.l.toArray := by kernel_rfl
set_option maxRecDepth 100000 in
theorem built_fS : Tryd.prog.built 41 [(0, .string ⟨#[97]⟩), (2, .int .i64 33188), (1, .int .i64 4)] = some fS.l.toArray := by kernel_rfl
set_option maxRecDepth 100000 in
theorem built_fN : Tryd.prog.built 41 [(0, .string ⟨#[97, 47, 47, 98]⟩), (2, .int .i64 7)] = some fN.l.toArray := by kernel_rfl
theorem chkAB : chkE [fA, fB] = 4 := by
  unfold chkE
  rw [if_neg (by decide), if_neg (by simp), if_neg (by simp [unnF, fA, fB, sl0, path_a]), if_neg (by decide), if_neg (by decide)]
theorem chkBA : chkE [fB, fA] = 4 := by
  unfold chkE
  rw [if_neg (by decide), if_neg (by simp), if_neg (by simp [unnF, fA, fB, sl0, path_a]), if_neg (by decide), if_neg (by decide)]
theorem chkT : chkE [fT] = 4 := by
  unfold chkE
  rw [if_neg (by decide), if_neg (by simp), if_neg (by simp [unnF, fT, sl0, path_a]), if_pos (by decide)]
theorem chkS : chkE [fS] = 1 := by
  unfold chkE
  rw [if_pos (by decide)]
theorem chkN : chkE [fN] = 3 := by
  unfold chkE
  rw [if_neg (by decide), if_neg (by simp), if_pos (by simp [unnF, fN, sl0, path_n])]
theorem chkM : chkE (List.replicate 4097 zS) = 2 := by
  unfold chkE
  rw [if_neg (by
    rw [Bool.not_eq_true, List.any_eq_false]
    intro x hx
    rw [List.eq_of_mem_replicate hx]
    decide), if_pos (by rw [List.length_replicate]; omega)]
set_option maxHeartbeats 2000000 in
set_option maxRecDepth 100000 in
theorem ixfixed_walk (w : World) (hg : Gl w) : Calls Tryd.prog 7 #[] w fun e w' => e = .returned (.bool true) ∧ Below w.heap.size w w' := by
  have KA := Kept.mk (awake_any w hg)
  have KG := Kept.mk hg
  clear hg
  go_enter Tryd.func7, Tryd.ntmps7
  go_wp2_with fail
  refine Calls.mono KA.out (fun x w1 hp => ?_)
  obtain ⟨rfl, hb1⟩ := hp
  have KB1 := Kept.mk hb1
  have KP := Kept.mk (put_any (.slice none 0 0) [] w1 (KG.out.later hb1) (RdZ.nil _) (by simp))
  have hpl := put_nil_len
  rw [chk_nil] at KP
  generalize putF [] = Q at *
  have Kpl := Kept.mk hpl
  clear hb1 KA hpl
  go_wp2_with fail
  refine Calls.mono KP.out (fun x w2 hp => ?_)
  obtain ⟨v2, rfl, hO2, hb2⟩ := hp
  obtain ⟨a2, c2, rfl, -⟩ := hO2.rd.form
  have KB2 := Kept.mk (KB1.out.trans (hb2.mono KB1.out.size))
  have hql : (Q.length : Int) = 44 := by rw [Kpl.out]; rfl
  have KP2 := Kept.mk (parse_any (.slice none 0 0) [] w2 (KG.out.later KB2.out) (Rd.nil .u8 anyB w2) AllIn.nil)
  rw [prs_nil] at KP2
  clear hO2 hb2 KP
  go_wp2_with fail
  refine Calls.mono KP2.out (fun x w3 hp => ?_)
  obtain ⟨v3, rfl, -, hb3⟩ := hp
  have KB3 := Kept.mk (KB2.out.trans (hb3.mono KB2.out.size))
  clear hb3 KP2
  obtain ⟨x1, hx1, hBx1, hzx1, hbx1, -⟩ := SlC.box w3 fA_ok
  obtain ⟨x2, hx2, hBx2, hzx2, hbx2, -⟩ := SlC.box x1 fB_ok
  obtain ⟨x3, hx3, hBx3, hzx3, hbx3, -⟩ := SlC.box x2 fT_ok
  have KBx : Kept (Below w.heap.size w x3) := ⟨((KB3.out.trans (hBx1.mono KB3.out.size)).trans (hBx2.mono (by have := KB3.out.size; omega))).trans (hBx3.mono (by have := KB3.out.size; omega))⟩
  have KrA : Kept (∀ W, CC x3 W → W.heap[w3.heap.size]? = some (.cells fA.l.toArray 41)) := ⟨fun W hW => by rw [Below.block hW _ (by omega), hBx3.block _ (by omega), hBx2.block _ (by omega)]; exact hbx1⟩
  have KrB : Kept (∀ W, CC x3 W → W.heap[x1.heap.size]? = some (.cells fB.l.toArray 41)) := ⟨fun W hW => by rw [Below.block hW _ (by omega), hBx3.block _ (by omega)]; exact hbx2⟩
  have KrT : Kept (∀ W, CC x3 W → W.heap[x2.heap.size]? = some (.cells fT.l.toArray 41)) := ⟨fun W hW => by rw [Below.block hW _ (by omega)]; exact hbx3⟩
  have KLs : Kept (fA.l.toArray.size = 37 ∧ fB.l.toArray.size = 37 ∧ fT.l.toArray.size = 37) := ⟨by rw [List.size_toArray]; exact SlC.len fA_ok, by rw [List.size_toArray]; exact SlC.len fB_ok, by rw [List.size_toArray]; exact SlC.len fT_ok⟩
  have KIs : Kept (((Tryd.prog.info? 41).map (·.size) = some fA.l.toArray.size) ∧ ((Tryd.prog.info? 41).map (·.size) = some fB.l.toArray.size) ∧ ((Tryd.prog.info? 41).map (·.size) = some fT.l.toArray.size)) := ⟨by rw [KLs.out.1]; exact infoZ37, by rw [KLs.out.2.1]; exact infoZ37, by rw [KLs.out.2.2]; exact infoZ37⟩
  have KOs : Kept (fA.l.toArray.all (·.oneCell') = true ∧ fB.l.toArray.all (·.oneCell') = true ∧ fT.l.toArray.all (·.oneCell') = true) := ⟨all_ones fA, all_ones fB, all_ones fT⟩
  have Kb1 := Kept.mk built_fA
  have Kb2 := Kept.mk built_fB
  have Kb3 := Kept.mk built_fT
  obtain ⟨AL, hAL⟩ : ∃ AL, fA.l = AL := ⟨_, rfl⟩
  obtain ⟨BL, hBL⟩ : ∃ BL, fB.l = BL := ⟨_, rfl⟩
  obtain ⟨TL, hTL⟩ : ∃ TL, fT.l = TL := ⟨_, rfl⟩
  rw [hAL] at KrA KLs KIs KOs Kb1 hx1
  rw [hBL] at KrB KLs KIs KOs Kb2 hx2
  rw [hTL] at KrT KLs KIs KOs Kb3 hx3
  have Kx1 := Kept.mk hx1
  have Kx2 := Kept.mk hx2
  have Kx3 := Kept.mk hx3
  clear hx1 hx2 hx3 hBx1 hBx2 hBx3 hzx1 hzx2 hzx3 hbx1 hbx2 hbx3
  go_upto_region 5 with fail
  refine wp_region_lit ?_
  refine wpList_buildG rfl 41 _ rfl [(0, .string ⟨#[97]⟩), (2, .int .i64 33188)] (by simp only [List.map_toArray, List.map_cons, List.map_nil]; rfl) AL.toArray Kb1.out ?_
  simp only [Act.put, List.setIfInBounds_toArray, List.set_cons_zero, List.set_cons_succ]
  go_upto_region 6 with (first | (refine BigFrame.wpList_want rfl (fun K hK => wp_store_row 41 _ _ rfl w3.heap.size AL.toArray rfl rfl 41 _ (heap_alloc_new w3 _) KIs.out.1 (by rw [KLs.out.1]; rfl) KOs.out.1 (hK _ _ ?_)); rw [World.setRow_alloc_new, Kx1.out]))
  go_upto_region 6 with fail
  refine wp_region_lit ?_
  refine wpList_buildG rfl 41 _ rfl [(0, .string ⟨#[97]⟩), (2, .int .i64 33188), (1, .int .i64 2)] (by simp only [List.map_toArray, List.map_cons, List.map_nil]; rfl) BL.toArray Kb2.out ?_
  simp only [Act.put, List.setIfInBounds_toArray, List.set_cons_zero, List.set_cons_succ]
  go_upto_region 7 with (first | (refine BigFrame.wpList_want rfl (fun K hK => wp_store_row 41 _ _ rfl x1.heap.size BL.toArray rfl rfl 41 _ (heap_alloc_new x1 _) KIs.out.2.1 (by rw [KLs.out.2.1]; rfl) KOs.out.2.1 (hK _ _ ?_)); rw [World.setRow_alloc_new, Kx2.out]))
  go_upto_region 7 with fail
  refine wp_region_lit ?_
  refine wpList_buildG rfl 41 _ rfl [(0, .string ⟨#[97]⟩), (2, .int .i64 16384)] (by simp only [List.map_toArray, List.map_cons, List.map_nil]; rfl) TL.toArray Kb3.out ?_
  simp only [Act.put, List.setIfInBounds_toArray, List.set_cons_zero, List.set_cons_succ]
  go_upto_region 8 with (first | (refine BigFrame.wpList_want rfl (fun K hK => wp_store_row 41 _ _ rfl x2.heap.size TL.toArray rfl rfl 41 _ (heap_alloc_new x2 _) KIs.out.2.2 (by rw [KLs.out.2.2]; rfl) KOs.out.2.2 (hK _ _ ?_)); rw [World.setRow_alloc_new, Kx3.out]))
  go_wp2_with (at_make; refine wpList_make_u8 _ rfl _ _ rfl 2097153 2097153 2097153 rfl rfl rfl rfl (by omega) ?_; intro w4 hbk4 hgr4; have KK4 := Kept.mk hbk4; have KG4 := Kept.mk hgr4; clear hbk4 hgr4)
  have hB4 : Below x3.heap.size x3 w4 := (Below.refl _ _).grown KG4.out (Nat.le_refl _) (by intro k hk; cases hk)
  have KR4 : Kept (Rd .u8 anyB w4 (.slice (some ⟨x3.heap.size, 0, none⟩) 2097153 2097153) (List.replicate 2097153 0)) := ⟨by
    have h := rdK_any KK4.out (by rw [List.length_replicate]; omega)
    rw [List.length_replicate] at h
    exact h⟩
  have KB4 := Kept.mk (KBx.out.trans (hB4.mono KBx.out.size))
  have KX4 : Kept (CC x3 w4) := ⟨hB4⟩
  have KP4 := Kept.mk (parse_any _ _ w4 (KG.out.later KB4.out) KR4.out (all_rz 2097153))
  rw [prs_big] at KP4
  clear hB4 KK4 KG4 KR4
  refine Calls.mono KP4.out (fun x w5 hp => ?_)
  obtain ⟨v5, rfl, -, hb5⟩ := hp
  have KX5 : Kept (CC x3 w5) := ⟨KX4.out.trans (hb5.mono KX4.out.size)⟩
  have KB5 := Kept.mk (KB4.out.trans (hb5.mono KB4.out.size))
  clear hb5 KP4 KX4 KB4
  have KLl : Kept (AL.length = 37 ∧ BL.length = 37 ∧ TL.length = 37) := ⟨by rw [← hAL]; exact SlC.len fA_ok, by rw [← hBL]; exact SlC.len fB_ok, by rw [← hTL]; exact SlC.len fT_ok⟩
  have KIl : Kept (((Tryd.prog.info? 41).map (·.size) = some AL.length) ∧ ((Tryd.prog.info? 41).map (·.size) = some BL.length) ∧ ((Tryd.prog.info? 41).map (·.size) = some TL.length)) := ⟨by rw [KLl.out.1]; exact infoZ37, by rw [KLl.out.2.1]; exact infoZ37, by rw [KLl.out.2.2]; exact infoZ37⟩
  have KeA := Kept.mk hAL
  have KeB := Kept.mk hBL
  have KeT := Kept.mk hTL
  clear hAL hBL hTL
  obtain ⟨y5, hy⟩ : ∃ y, w5.alloc (.cells (AL ++ BL).toArray 41) = y := ⟨_, rfl⟩
  have hBy : Below w5.heap.size w5 y5 := by rw [← hy]; exact (Below.refl _ _).alloc (Nat.le_refl _) _
  have KBy := Kept.mk (KB5.out.trans (hBy.mono KB5.out.size))
  have KCk := Kept.mk (check_any _ [fA, fB] y5 (KG.out.later KBy.out) (by rw [← hy, ← KeA.out, ← KeB.out]; exact rdZ2 _ _ _ fA_ok fB_ok) (by simp))
  rw [chkAB] at KCk
  have KX := KX5
  have KXy : Kept (CC x3 y5) := ⟨KX5.out.trans (hBy.mono KX5.out.size)⟩
  have Khy := Kept.mk hy
  clear hy hBy
  go_wp2_with (first | (refine BigFrame.wpList_want rfl (fun K hK => wp_loadM 41 _ rfl w3.heap.size 0 rfl AL _ (range_row (KrA.out w5 KX.out)) Tryd.underlying41 rfl KIl.out.1 (hK _ _ ?_))) | (refine BigFrame.wpList_want rfl (fun K hK => wp_loadM 41 _ rfl x1.heap.size 0 rfl BL _ (range_row (KrB.out w5 KX.out)) Tryd.underlying41 rfl KIl.out.2.1 (hK _ _ ?_))) | (refine BigFrame.wpList_want rfl (fun K hK => wp_slice2Z _ _ rfl AL BL KLl.out.1 KLl.out.2.1 rfl rfl (hK _ _ ?_)); rw [Khy.out]))
  refine Calls.mono KCk.out (fun x w6 hp => ?_)
  obtain ⟨rfl, hbn⟩ := hp
  have KB6 := Kept.mk (KBy.out.trans (hbn.mono KBy.out.size))
  have KX6 : Kept (CC x3 w6) := ⟨KXy.out.trans (hbn.mono KXy.out.size)⟩
  clear hbn KCk KXy KBy Khy KX
  obtain ⟨y6, hy⟩ : ∃ y, w6.alloc (.cells (BL ++ AL).toArray 41) = y := ⟨_, rfl⟩
  have hBy : Below w6.heap.size w6 y6 := by rw [← hy]; exact (Below.refl _ _).alloc (Nat.le_refl _) _
  have KBy := Kept.mk (KB6.out.trans (hBy.mono KB6.out.size))
  have KCk := Kept.mk (check_any _ [fB, fA] y6 (KG.out.later KBy.out) (by rw [← hy, ← KeA.out, ← KeB.out]; exact rdZ2 _ _ _ fB_ok fA_ok) (by simp))
  rw [chkBA] at KCk
  have KX := KX6
  have KXy : Kept (CC x3 y6) := ⟨KX6.out.trans (hBy.mono KX6.out.size)⟩
  have Khy := Kept.mk hy
  clear hy hBy
  go_wp2_with (first | (refine BigFrame.wpList_want rfl (fun K hK => wp_loadM 41 _ rfl w3.heap.size 0 rfl AL _ (range_row (KrA.out w6 KX.out)) Tryd.underlying41 rfl KIl.out.1 (hK _ _ ?_))) | (refine BigFrame.wpList_want rfl (fun K hK => wp_loadM 41 _ rfl x1.heap.size 0 rfl BL _ (range_row (KrB.out w6 KX.out)) Tryd.underlying41 rfl KIl.out.2.1 (hK _ _ ?_))) | (refine BigFrame.wpList_want rfl (fun K hK => wp_slice2Z _ _ rfl BL AL KLl.out.2.1 KLl.out.1 rfl rfl (hK _ _ ?_)); rw [Khy.out]))
  refine Calls.mono KCk.out (fun x w7 hp => ?_)
  obtain ⟨rfl, hbn⟩ := hp
  have KB7 := Kept.mk (KBy.out.trans (hbn.mono KBy.out.size))
  have KX7 : Kept (CC x3 w7) := ⟨KXy.out.trans (hbn.mono KXy.out.size)⟩
  clear hbn KCk KXy KBy Khy KX
  obtain ⟨y7, hy⟩ : ∃ y, w7.alloc (.cells TL.toArray 41) = y := ⟨_, rfl⟩
  have hBy : Below w7.heap.size w7 y7 := by rw [← hy]; exact (Below.refl _ _).alloc (Nat.le_refl _) _
  have KBy := Kept.mk (KB7.out.trans (hBy.mono KB7.out.size))
  have KCk := Kept.mk (check_any _ [fT] y7 (KG.out.later KBy.out) (by rw [← hy, ← KeT.out]; exact rdZ_one fT_ok (heap_alloc_new _ _)) (by simp))
  rw [chkT] at KCk
  have KX := KX7
  have KXy : Kept (CC x3 y7) := ⟨KX7.out.trans (hBy.mono KX7.out.size)⟩
  have Khy := Kept.mk hy
  clear hy hBy
  go_wp2_with (first | (refine BigFrame.wpList_want rfl (fun K hK => wp_loadM 41 _ rfl x2.heap.size 0 rfl TL _ (range_row (KrT.out w7 KX.out)) Tryd.underlying41 rfl KIl.out.2.2 (hK _ _ ?_))) | (refine BigFrame.wpList_want rfl (fun K hK => wp_slice1Z _ rfl TL KLl.out.2.2 rfl (hK _ _ ?_)); rw [Khy.out]))
  refine Calls.mono KCk.out (fun x w8 hp => ?_)
  obtain ⟨rfl, hbn⟩ := hp
  have KB8 := Kept.mk (KBy.out.trans (hbn.mono KBy.out.size))
  have KX8 : Kept (CC x3 w8) := ⟨KXy.out.trans (hbn.mono KXy.out.size)⟩
  clear hbn KCk KXy KBy Khy KX
  obtain ⟨y8, hy, hBy, -, hby, -⟩ := SlC.box w8 fS_ok
  have KBy := Kept.mk (KB8.out.trans (hBy.mono KB8.out.size))
  have KCk := Kept.mk (check_any _ [fS] y8 (KG.out.later KBy.out) (rdZ_one fS_ok hby) (by simp))
  rw [chkS] at KCk
  have hy' : w8.alloc (.cells #[.string ⟨#[97]⟩, .int .i64 4, .int .i64 33188, .int .u8 0, .int .u8 0, .int .u8 0, .int .u8 0, .int .u8 0, .int .u8 0, .int .u8 0, .int .u8 0, .int .u8 0, .int .u8 0, .int .u8 0, .int .u8 0, .int .u8 0, .int .u8 0, .int .u8 0, .int .u8 0, .int .u8 0, .int .u8 0, .int .u8 0, .int .u8 0, .int .u8 0, .int .u8 0, .int .u8 0, .int .u8 0, .int .u8 0, .int .u8 0, .int .u8 0, .int .u8 0, .int .u8 0, .int .u8 0, .int .u8 0, .int .u8 0, .int .i64 0, .int .i64 0] 41) = y8 := hy
  clear hy hBy hby
  go_wp2_with fail
  try rw [hy']
  refine Calls.mono KCk.out (fun x w9 hp => ?_)
  obtain ⟨rfl, hbn⟩ := hp
  have KB9 := Kept.mk (KBy.out.trans (hbn.mono KBy.out.size))
  clear hbn KCk KBy hy'
  obtain ⟨y9, hy, hBy, -, hby, -⟩ := SlC.box w9 fN_ok
  have KBy := Kept.mk (KB9.out.trans (hBy.mono KB9.out.size))
  have KCk := Kept.mk (check_any _ [fN] y9 (KG.out.later KBy.out) (rdZ_one fN_ok hby) (by simp))
  rw [chkN] at KCk
  have hy' : w9.alloc (.cells #[.string ⟨#[97, 47, 47, 98]⟩, .int .i64 0, .int .i64 7, .int .u8 0, .int .u8 0, .int .u8 0, .int .u8 0, .int .u8 0, .int .u8 0, .int .u8 0, .int .u8 0, .int .u8 0, .int .u8 0, .int .u8 0, .int .u8 0, .int .u8 0, .int .u8 0, .int .u8 0, .int .u8 0, .int .u8 0, .int .u8 0, .int .u8 0, .int .u8 0, .int .u8 0, .int .u8 0, .int .u8 0, .int .u8 0, .int .u8 0, .int .u8 0, .int .u8 0, .int .u8 0, .int .u8 0, .int .u8 0, .int .u8 0, .int .u8 0, .int .i64 0, .int .i64 0] 41) = y9 := hy
  clear hy hBy hby
  go_wp2_with fail
  try rw [hy']
  refine Calls.mono KCk.out (fun x w10 hp => ?_)
  obtain ⟨rfl, hbn⟩ := hp
  have KB10 := Kept.mk (KBy.out.trans (hbn.mono KBy.out.size))
  clear hbn KCk KBy hy'
  go_wp2_with (first | (refine BigFrame.wpList_want rfl (fun K hK => wp_makeZ _ _ _ rfl rfl rfl ?_); intro y10 hown hgrow; refine hK _ _ ?_; have KOy := Kept.mk hown; have KGy := Kept.mk hgrow; clear hown hgrow))
  have hBy : Below w10.heap.size w10 y10 := (Below.refl _ _).grown KGy.out (Nat.le_refl _) (by intro k hk; cases hk)
  have KBy := Kept.mk (KB10.out.trans (hBy.mono KB10.out.size))
  have KCk := Kept.mk (check_any _ (List.replicate 4097 zS) y10 (KG.out.later KBy.out) KOy.out.rd (by rw [List.length_replicate]; omega))
  rw [chkM] at KCk
  clear hBy KOy KGy
  refine Calls.mono KCk.out (fun x w11 hp => ?_)
  obtain ⟨rfl, hbn⟩ := hp
  have KB11 := Kept.mk (KBy.out.trans (hbn.mono KBy.out.size))
  clear hbn KCk KBy
  go_wp2
  go_ret
  exact ⟨rfl, KB11.out⟩
end Go.Proofs.YthkaohkondkhgaaDoor
