/-
  The walk of ObjectTags.
-/
import Derived.Test.YtnepldeepapmlaaGreatDoorL14
import Derived.Test.YtnepldeepapmlaaGreatDoorO10B
import Derived.Test.YtnepldeepapmlaaGreatDoorO13
namespace Go.Proofs.YtnepldeepapmlaaGreatDoor
open Go.RowKit

set_option maxRecDepth 100000 in
theorem fsI : Tryz.prog.underlying 26 = some (.struct (Tryz.prog.fieldsOf 26)) ∧ Tryz.prog.stoodInHeld 26 = false ∧ (Tryz.prog.fieldsOf 26).toList.map (fun f => (f.name == "_", f.type, f.offset)) = [(false, 9, 0), (false, 9, 1), (false, 3, 2), (false, 3, 3)] := ⟨by kernel_rfl, by kernel_rfl, by kernel_rfl⟩
set_option maxRecDepth 100000 in
theorem fsLb : Tryz.prog.underlying 28 = some (.struct (Tryz.prog.fieldsOf 28)) ∧ Tryz.prog.stoodInHeld 28 = false ∧ (Tryz.prog.fieldsOf 28).toList.map (fun f => (f.name == "_", f.type, f.offset)) = [(false, 23, 0), (false, 24, 32), (false, 9, 33), (false, 26, 34), (false, 9, 38)] := ⟨by kernel_rfl, by kernel_rfl, by kernel_rfl⟩
set_option maxRecDepth 100000 in
theorem pk_kind : Tryz.prog.plainKey 24 = true := by kernel_rfl
theorem same_str (w : World) (d : Nat) (s : ByteArray) : (Op.equalIn (d + 1) 9 (.string s) (.string s)).run Tryz.prog w = .ok true w := by
  have := run_equalIn_string (P := Tryz.prog) w d 9 s s Tryz.underlying9
  simpa using this
theorem same_int (w : World) (d : Nat) (x : Int) : (Op.equalIn (d + 1) 3 (.int .i64 x) (.int .i64 x)).run Tryz.prog w = .ok true w := by
  have := run_equalIn_int (P := Tryz.prog) w d 3 .i64 .i64 x x Tryz.underlying3
  simpa using this
theorem same_kind (w : World) (d : Nat) (x : Int) : (Op.equalIn (d + 1) 24 (.int .i64 x) (.int .i64 x)).run Tryz.prog w = .ok true w := by
  have := run_equalIn_int (P := Tryz.prog) w d 24 .i64 .i64 x x Tryz.underlying24
  simpa using this
theorem eq_idt (w : World) (d : Nat) (i : Idt) : (Op.equalIn (d + 2) 26 (.agg (igL i).toArray) (.agg (igL i).toArray)).run Tryz.prog w = .ok true w := by
  obtain ⟨h1, h2, h3⟩ := fsI
  have h := run_equalIn_struct (P := Tryz.prog) w (d + 1) 26 (igL i).toArray (igL i).toArray h1 h2
  rw [h]
  refine oeqF_same _ _ h3 fun q hq => ?_
  simp only [List.mem_cons, List.not_mem_nil, or_false] at hq
  rcases hq with rfl | rfl | rfl | rfl
  · exact ⟨rfl, _, run_part_plain (P := Tryz.prog) (w := w) pk_str (by rw [List.getElem?_toArray]; rfl), same_str w d i.nm⟩
  · exact ⟨rfl, _, run_part_plain (P := Tryz.prog) (w := w) pk_str (by rw [List.getElem?_toArray]; rfl), same_str w d i.em⟩
  · exact ⟨rfl, _, run_part_plain (P := Tryz.prog) (w := w) pk_int (by rw [List.getElem?_toArray]; rfl), same_int w d i.tm⟩
  · exact ⟨rfl, _, run_part_plain (P := Tryz.prog) (w := w) pk_int (by rw [List.getElem?_toArray]; rfl), same_int w d i.zn⟩
set_option maxRecDepth 100000 in
theorem agg_idt (w : World) : (isAgg 26).run Tryz.prog w = .ok true w := by kernel_rfl
set_option maxRecDepth 100000 in
theorem size_idt (w : World) : (Go.sizeOf 26).run Tryz.prog w = .ok 4 w := by kernel_rfl
theorem part_idL (w : World) {c : LbC} (hc : c.ok) : (part 23 c.l.toArray 0).run Tryz.prog w = .ok (.agg (cellsK .u8 c.tg).toArray) w := by
  unfold part
  simp only [Sem.run_bind, agg_idE, Result.andThen_ok, if_true, size_idE, Sem.run_pure]
  congr 2
  rw [List.extract_toArray, List.extract_eq_take_drop]
  unfold LbC.l
  rw [List.drop_zero, List.take_append_of_le_length (by rw [cellsK_length, hc.1]; omega), List.take_of_length_le (by rw [cellsK_length, hc.1]; omega)]
theorem part_igL (w : World) {c : LbC} (hc : c.ok) : (part 26 c.l.toArray 34).run Tryz.prog w = .ok (.agg (igL c.ig).toArray) w := by
  unfold part
  simp only [Sem.run_bind, agg_idt, Result.andThen_ok, if_true, size_idt, Sem.run_pure]
  congr 2
  rw [List.extract_toArray, List.extract_eq_take_drop]
  have e : c.l = (cellsK .u8 c.tg ++ [.int .i64 c.k, .string c.nm]) ++ (igL c.ig ++ [.string c.ms]) := by
    unfold LbC.l LbC.tl igL
    simp
  have hl : (cellsK .u8 c.tg ++ [Value.int .i64 c.k, .string c.nm]).length = 34 := by rw [List.length_append, cellsK_length, hc.1]; rfl
  rw [e, List.drop_append_of_le_length (by omega), List.drop_of_length_le (by omega), List.nil_append]
  rfl
theorem at_L {c : LbC} (hc : c.ok) (j : Nat) (v : Value) (hv : c.tl[j]? = some v) : c.l.toArray[32 + j]? = some v := by
  rw [List.getElem?_toArray, LbC.at' hc]
  exact hv
theorem eq_lab (w : World) (d : Nat) {c : LbC} (hc : c.ok) : (Op.equalIn (d + 3) 28 (.agg c.l.toArray) (.agg c.l.toArray)).run Tryz.prog w = .ok true w := by
  obtain ⟨h1, h2, h3⟩ := fsLb
  have h := run_equalIn_struct (P := Tryz.prog) w (d + 2) 28 c.l.toArray c.l.toArray h1 h2
  rw [h]
  refine oeqF_same _ _ h3 fun q hq => ?_
  simp only [List.mem_cons, List.not_mem_nil, or_false] at hq
  rcases hq with rfl | rfl | rfl | rfl | rfl
  · exact ⟨rfl, _, part_idL w hc, eq_idE w d hc.1⟩
  · exact ⟨rfl, _, run_part_plain (P := Tryz.prog) (w := w) pk_kind (at_L hc 0 _ rfl), same_kind w (d + 1) c.k⟩
  · exact ⟨rfl, _, run_part_plain (P := Tryz.prog) (w := w) pk_str (at_L hc 1 _ rfl), same_str w (d + 1) c.nm⟩
  · exact ⟨rfl, _, part_igL w hc, eq_idt w d c.ig⟩
  · exact ⟨rfl, _, run_part_plain (P := Tryz.prog) (w := w) pk_str (at_L hc 6 _ rfl), same_str w (d + 1) c.ms⟩


theorem ptgL_bytes {c : LbC} (h : c.ok) : Sh.AllB (ptgL c) := by
  unfold ptgL
  split
  · exact tgL_bytes h
  · exact fun x hx => by cases hx
/-- A label stored in a block of its own. -/
structure LbS (w1 wa w2 : World) (R : LbC) : Prop where
  al : w1.alloc (.cells lb0.l.toArray 28) = wa
  st : wa.setCells w1.heap.size 0 R.l = w2
  th : wa.there w1.heap.size 0 R.l.toArray.size
  bl : LbB w2 w1.heap.size R
  be : Below w1.heap.size w1 w2
theorem lb_store (w1 : World) {R : LbC} (hok : R.ok) : ∃ wa w2, LbS w1 wa w2 R := by
  obtain ⟨wa, hwa, hBa, hLa⟩ := LbC.box w1 lb0
  exact ⟨wa, _, hwa, rfl, hLa.there lb0_ok _ (by rw [List.size_toArray, LbC.len hok]; exact Nat.le_refl _), hLa.over lb0_ok hok, Sh.below_cells (Nat.le_refl _) _ _ _ _ hBa⟩
theorem lb_info {R : LbC} (hok : R.ok) : (Tryz.prog.info? 28).map (·.size) = some R.l.length := by rw [LbC.len hok]; kernel_rfl
theorem lb_info2 {R : LbC} (hok : R.ok) : (Tryz.prog.info? 28).map (·.size) = some R.l.toArray.size := by rw [List.size_toArray]; exact lb_info hok
set_option maxHeartbeats 4000000 in
set_option maxRecDepth 100000 in
theorem tags_walk (c : LbC) (u : Value) (xs : List Int) (w : World) (hg : Gv w) (hgl : Gl w) (hok : c.ok) (hx : Rd .u8 anyB w u xs) (hA : Sh.AllB xs) (hl : xs.length ≤ 140737488355328) :
    Calls Tryz.prog 3 #[.agg c.l.toArray, u] w fun e w' => e = .returned (.bool true) ∧ Below w.heap.size w w' := by
  obtain ⟨w0, hw0, hB0, hL0⟩ := LbC.box w c
  have KB0 := Kept.mk hB0
  have KAw := Kept.mk (awake_any w0 (hg.later hB0))
  have KP : Kept (∀ w', Below w.heap.size w w' → Calls Tryz.prog 5 #[.agg c.l.toArray] w' fun e w2 => ∃ v', e = .returned (.tuple #[v', .int .i64 (teF c)]) ∧ Own .u8 5 w2 w'.heap.size v' (ptgL c) ∧ Below w'.heap.size w' w2) := ⟨fun w' h => putTag_any c w' (hgl.later h) hok⟩
  have KD : Kept (∀ w', Below w.heap.size w w' → Calls Tryz.prog 6 #[.agg c.l.toArray] w' fun e w2 => ∃ v', e = .returned (.tuple #[v', .int .i64 (teF c)]) ∧ Rd .u8 anyB w2 v' (ptgL c) ∧ Below w'.heap.size w' w2) := ⟨fun w' h => docPutTag_any c w' (hgl.later h) hok⟩
  have KT : Kept (∀ w', Below w.heap.size w w' → Calls Tryz.prog 8 #[u] w' fun e w2 => ∃ v', e = .returned v' ∧ Rd .u8 anyB w2 v' xs ∧ Below w'.heap.size w' w2) := ⟨fun w' h => (Sh.twin_any _ xs w' (shRd (hx.later h (Nat.le_refl _)) hA) hl).mono fun e w2 hp => by
    obtain ⟨v', h1, h2, h3⟩ := hp
    exact ⟨v', h1, (Own.rd (k := .u8) h2).any, h3⟩⟩
  have KPt : Kept (∀ w' v', Below w.heap.size w w' → Rd .u8 anyB w' v' xs → Calls Tryz.prog 7 #[v'] w' fun e w2 => ∃ R E, e = .returned (.tuple #[.agg R.l.toArray, .int .i64 E]) ∧ DgEnd xs R E ∧ Below w'.heap.size w' w2) := ⟨fun w' v' h hr' => parseTag_any v' xs w' (hgl.later h) hr'⟩
  have KDp : Kept (∀ w', Below w.heap.size w w' → Calls Tryz.prog 9 #[u] w' fun e w2 => ∃ R E, e = .returned (.tuple #[.agg R.l.toArray, .int .i64 E]) ∧ DgEnd xs R E ∧ Below w'.heap.size w' w2) := ⟨fun w' h => docParseTag_any u xs w' (hgl.later h) (hx.later h (Nat.le_refl _)) hA⟩
  have KRg : Kept (∀ W, Below w0.heap.size w0 W → W.rangeAt w.heap.size 0 c.l) := ⟨fun W hW => (hL0.far hW hL0.lt).range⟩
  have KIc := Kept.mk (lb_info hok)
  have KTb := Kept.mk (ptgL_bytes hok)
  generalize teF c = TE at *
  generalize ptgL c = PL at *
  generalize c.l = CL at *
  obtain ⟨ua, uc, rfl, -, -, -⟩ := hx.form
  clear hg hgl hx hA hok hl hB0 hL0
  go_enter Tryz.func3, Tryz.ntmps3
  go_upto_region 1 with fail
  try rw [hw0]
  clear hw0
  go_wp2_with fail
  refine Calls.mono KAw.out (fun e w1 hp => ?_)
  obtain ⟨rfl, hb⟩ := hp
  have K01 := Kept.mk hb
  have KB1 := Kept.mk (KB0.out.trans (hb.mono KB0.out.size))
  have KR1 := Kept.mk (KRg.out w1 hb)
  clear hb KAw
  go_wp2_with (first | (refine wpList_load_mid rfl 28 _ rfl w.heap.size 0 rfl CL _ KR1.out Tryz.underlying28 rfl KIc.out ?_))
  refine Calls.mono (KP.out w1 KB1.out) (fun e w2 hp => ?_)
  obtain ⟨v2, rfl, ho2, hb⟩ := hp
  have K02 := Kept.mk (K01.out.trans (hb.mono K01.out.size))
  have KB2 := Kept.mk (KB1.out.trans (hb.mono KB1.out.size))
  have KR2 := Kept.mk (KRg.out w2 K02.out)
  have KO2 := Kept.mk ho2.rd.any
  clear hb ho2 KP KR1
  go_wp2_with (first | (refine wpList_load_mid rfl 28 _ rfl w.heap.size 0 rfl CL _ KR2.out Tryz.underlying28 rfl KIc.out ?_))
  refine Calls.mono (KD.out w2 KB2.out) (fun e w3 hp => ?_)
  obtain ⟨v3, rfl, ho3, hb⟩ := hp
  have KB3 := Kept.mk (KB2.out.trans (hb.mono KB2.out.size))
  have KO2 := Kept.mk (KO2.out.later hb (Nat.le_refl _))
  have KO3 := Kept.mk ho3
  clear hb ho3 KD KR2 KRg K01 K02
  go_wp2_with fail
  refine Calls.mono (KT.out w3 KB3.out) (fun e w4 hp => ?_)
  obtain ⟨v4, rfl, hr4, hb⟩ := hp
  have hB4 := KB3.out.trans (hb.mono KB3.out.size)
  have KB4 := Kept.mk hB4
  have KO2 := Kept.mk (KO2.out.later hb (Nat.le_refl _))
  have KO3 := Kept.mk (KO3.out.later hb (Nat.le_refl _))
  have K5 := Kept.mk (KPt.out w4 v4 hB4 hr4)
  clear hb hr4 hB4 KT KPt
  go_wp2_with fail
  refine Calls.mono K5.out (fun e w5 hp => ?_)
  obtain ⟨R, E, rfl, hd5, hb⟩ := hp
  have hokR := dg_ok hd5
  obtain ⟨w5a, w6, hS6⟩ := lb_store w5 hokR
  have hb6 := hb.trans (hS6.be.mono hb.size)
  have KB6 := Kept.mk (KB4.out.trans (hb6.mono KB4.out.size))
  have KO2 := Kept.mk (KO2.out.later hb6 (Nat.le_refl _))
  have KO3 := Kept.mk (KO3.out.later hb6 (Nat.le_refl _))
  have KD5 := Kept.mk hd5
  have KS6 := Kept.mk hS6
  have Kok := Kept.mk hokR
  have KI1 := Kept.mk (lb_info hokR)
  have KI2 := Kept.mk (lb_info2 hokR)
  have KOl := Kept.mk R.all
  have Ka6 := Kept.mk hS6.al
  have Kt6 := Kept.mk hS6.st
  have Kh6 := Kept.mk hS6.th
  have KL6 := Kept.mk hS6.bl
  have KEq : Kept (∀ W, (Op.equalIn 10000 28 (.agg R.l.toArray) (.agg R.l.toArray)).run Tryz.prog W = .ok true W) := ⟨fun W => eq_lab W 9997 Kok.out⟩
  clear hb hd5 K5 hokR hS6 hb6
  obtain ⟨RL, hRL⟩ : ∃ RL, R.l = RL := ⟨_, rfl⟩
  have KRL := Kept.mk hRL
  rw [hRL] at KI1 KI2 KOl Kt6 Kh6 KEq
  rw [hRL]
  clear hRL
  go_wp2_with (first | (generalize hOb : Obj.cells (_ : Array Value) 28 = Ob; obtain rfl : Ob = Obj.cells lb0.l.toArray 28 := (by subst hOb; rfl); clear hOb; rw [Ka6.out]; refine wpList_store_mid rfl 28 _ _ rfl w5.heap.size 0 RL.toArray rfl rfl Kh6.out KI2.out KOl.out ?_; rw [Kt6.out]))
  refine Calls.mono (KDp.out w6 KB6.out) (fun e w7 hp => ?_)
  obtain ⟨R7, E7, rfl, hd7, hb⟩ := hp
  obtain ⟨rfl, rfl⟩ := dg_one KD5.out hd7
  obtain ⟨w7a, w8, hS8⟩ := lb_store w7 Kok.out
  have hb8 := hb.trans (hS8.be.mono hb.size)
  have KB8 := Kept.mk (KB6.out.trans (hb8.mono KB6.out.size))
  have KO2 := Kept.mk (KO2.out.later hb8 (Nat.le_refl _))
  have KO3 := Kept.mk (KO3.out.later hb8 (Nat.le_refl _))
  have KL8 := Kept.mk (KL6.out.far hb8 KL6.out.lt)
  have KL8b := Kept.mk hS8.bl
  have Ka8 := Kept.mk hS8.al
  have Kt8 := Kept.mk hS8.st
  have Kh8 := Kept.mk hS8.th
  have K9 := Kept.mk (Sh.same_any v2 v3 PL PL w8 (shRd KO2.out KTb.out) (shRd KO3.out KTb.out))
  rw [decide_eq_true rfl] at K9
  have KRa := Kept.mk KL8.out.range
  have KRb := Kept.mk KL8b.out.range
  clear hb hd7 hS8 hb8 KDp KD5 KS6 Ka6 Kt6 Kh6 KL6
  rw [KRL.out] at Kt8 Kh8 KRa KRb
  rw [KRL.out]
  go_wp2_with (first | (generalize hOb : Obj.cells (_ : Array Value) 28 = Ob; obtain rfl : Ob = Obj.cells lb0.l.toArray 28 := (by subst hOb; rfl); clear hOb; rw [Ka8.out]; refine wpList_store_mid rfl 28 _ _ rfl w7.heap.size 0 RL.toArray rfl rfl Kh8.out KI2.out KOl.out ?_; rw [Kt8.out]))
  refine Calls.mono K9.out (fun e w9 hp => ?_)
  obtain ⟨rfl, hw9⟩ := hp
  have hw9 := hw9.symm
  subst hw9
  clear K9 Ka8 Kt8 Kh8
  go_wp2_with (first | (refine BigFrame.wpList_want rfl (fun K hK => wp_load_mid 28 _ rfl w5.heap.size 0 rfl RL _ KRa.out Tryz.underlying28 rfl KI1.out (hK _ _ ?_)); clear hK K) | (refine BigFrame.wpList_want rfl (fun K hK => wp_load_mid 28 _ rfl w7.heap.size 0 rfl RL _ KRb.out Tryz.underlying28 rfl KI1.out (hK _ _ ?_)); clear hK K) | (refine BigFrame.wpList_want rfl (fun K hK => wp_exec (exec_eqlE 28 Tryz.eqGuardType28 rfl rfl rfl (KEq.out _)) (hK _ _ ?_)); clear hK K))
  go_ret
  exact ⟨rfl, KB8.out⟩
end Go.Proofs.YtnepldeepapmlaaGreatDoor
