/-
  Walks of the document: SameIds and SameCommit, of what is the same.
-/
import Derived.Test.YtdiamkfdhpjhoaaGreatDoorC2
import Derived.Test.YtdiamkfdhpjhoaaGreatDoorO10C
import Derived.Test.YtdiamkfdhpjhoaaGreatDoorC10
import Derived.Test.YtdiamkfdhpjhoaaGreatDoorO13
namespace Go.Proofs.YtdiamkfdhpjhoaaGreatDoor
open Go.RowKit

theorem exec_neqC {P : Program} (t : TypeId) (hg : P.eqGuardType P.depth t = false) {a : Act} {o : Oper} {x y : Operand} {t' : TypeId} (ho : o.op = .binOp .neq t x y t') {X Y : Array Value} (hx : a.eval x = .agg X) (hy : a.eval y = .agg Y) {q : Bool} {W : World} (hE : (Op.equalIn 10000 t (.agg X) (.agg Y)).run P W = .ok q W) : (execOp a.eval o).run P W = .ok (.value (.bool (!q))) W := by
  unfold execOp
  rw [ho]
  simp only [hx, hy, Sem.run_bind, run_eqGuard_agg W .neq t x y X Y hg, Result.andThen_ok, run_neq_struct W t X Y, hE, Sem.run_pure]
set_option maxHeartbeats 2000000 in
set_option maxRecDepth 100000 in
theorem sameIds_any (v u : Value) (es : List (List Int)) (w : World) (hr : RdP w v es) (hs : RdP w u es) (hl : es.length ≤ 1048576) :
    Calls Tryz.prog 27 #[v, u] w fun e w' => e = .returned (.bool true) ∧ Below w.heap.size w w' := by
  obtain ⟨a, c, rfl, hlc, hok, hrd⟩ := hr
  obtain ⟨a2, c2, rfl, hlc2, hok2, hrd2⟩ := hs
  have KR := Kept.mk hrd
  have KK := Kept.mk hok
  have KR2 := Kept.mk hrd2
  clear hrd hok hrd2 hok2
  go_enter Tryz.func27, Tryz.ntmps27
  go_wp2
  go_loopw [13] (fun iv wr => ∃ k : Nat, k ≤ es.length ∧ iv = .int .i64 k ∧ Below w.heap.size w wr) (fun iv _ => es.length - (intOf iv).toNat)
  case atStart => exact ⟨0, Nat.zero_le _, rfl, Below.refl _ _⟩
  case round =>
    obtain ⟨k, hk, rfl, hbel⟩ := hrel
    have KBr := Kept.mk hbel
    by_cases hlt : k < es.length
    · have hki : (k : Int) < (es.length : Int) := by omega
      obtain ⟨b, off, rfl, hbl, hrg⟩ := KR.out (by omega)
      obtain ⟨b2, off2, rfl, hbl2, hrg2⟩ := KR2.out (by omega)
      have hbr : b < wr.heap.size := Nat.lt_of_lt_of_le hbl hbel.size
      have hbr2 : b2 < wr.heap.size := Nat.lt_of_lt_of_le hbl2 hbel.size
      have hR1 : Kept (∀ W, CC wr W → W.rangeAt b (off + k * 32) (cellsK .u8 (es[k]'hlt))) := ⟨fun W hW j u hu => by
        rw [hW.cell (p := ⟨b, off + k * 32 + j, none⟩) hbr, hbel.cell (p := ⟨b, off + k * 32 + j, none⟩) hbl]
        exact hrg k hlt j u hu⟩
      have hR2 : Kept (∀ W, CC wr W → W.rangeAt b2 (off2 + k * 32) (cellsK .u8 (es[k]'hlt))) := ⟨fun W hW j u hu => by
        rw [hW.cell (p := ⟨b2, off2 + k * 32 + j, none⟩) hbr2, hbel.cell (p := ⟨b2, off2 + k * 32 + j, none⟩) hbl2]
        exact hrg2 k hlt j u hu⟩
      have hoA := KK.out _ (List.getElem_mem hlt)
      have KEq : Kept (∀ W, (Op.equalIn 10000 23 (.agg (cellsK .u8 (es[k]'hlt)).toArray) (.agg (cellsK .u8 (es[k]'hlt)).toArray)).run Tryz.prog W = .ok true W) := ⟨fun W => eq_idE W 9998 hoA.1⟩
      have KI1 : Kept ((Tryz.prog.info? 23).map (·.size) = some (cellsK .u8 (es[k]'hlt)).length) := ⟨by rw [idP_len hoA]; kernel_rfl⟩
      clear hbel hrg hrg2 hoA
      have e3 : IntKind.i64.wrap ((k : Int) + 1) = (k : Int) + 1 := by rw [IntKind.wrap_i64]; omega
      generalize (cellsK .u8 (es[k]'hlt)) = LA at *
      clear hbr hbl hbr2 hbl2
      go_upto_region 6 with fail
      refine wp_region_quietC (C := CC wr) (by kernel_rfl) (by kernel_rfl) (Below.refl _ _).drew ?_
      go_big_quiet_step ((intro _; rfl))
      go_big_quiet_step ((intro _; rfl))
      refine BigFrame.wpQuiet_want rfl (fun K hK => quiet_run (v := .pointer (some ⟨b, off + k * 32, none⟩)) (fun W hW => by go_simp; all_goals first | rfl | (intro hneg; exfalso; omega)) (hK _ ?_))
      clear hK K
      simp only [Act.put, List.setIfInBounds_toArray, List.set_cons_zero, List.set_cons_succ]
      refine BigFrame.wpQuiet_want rfl (fun K hK => quiet_load_mid 23 _ rfl b (off + k * 32) rfl LA _ hR1.out Tryz.underlying23 rfl KI1.out (hK _ ?_))
      clear hK K
      simp only [Act.put, List.setIfInBounds_toArray, List.set_cons_zero, List.set_cons_succ]
      go_big_quiet_step ((intro _; rfl))
      go_big_quiet_step ((intro _; rfl))
      refine BigFrame.wpQuiet_want rfl (fun K hK => quiet_run (v := .pointer (some ⟨b2, off2 + k * 32, none⟩)) (fun W hW => by go_simp; all_goals first | rfl | (intro hneg; exfalso; omega)) (hK _ ?_))
      clear hK K
      simp only [Act.put, List.setIfInBounds_toArray, List.set_cons_zero, List.set_cons_succ]
      refine BigFrame.wpQuiet_want rfl (fun K hK => quiet_load_mid 23 _ rfl b2 (off2 + k * 32) rfl LA _ hR2.out Tryz.underlying23 rfl KI1.out (hK _ ?_))
      clear hK K
      simp only [Act.put, List.setIfInBounds_toArray, List.set_cons_zero, List.set_cons_succ]
      refine BigFrame.wpQuiet_want rfl (fun K hK => quiet_run (v := .bool false) (fun W hW => exec_neqC 23 Tryz.eqGuardType23 rfl rfl rfl (KEq.out W)) (hK _ ?_))
      clear hK K
      simp only [Act.put, List.setIfInBounds_toArray, List.set_cons_zero, List.set_cons_succ]
      refine wpQuiet_nil ?_
      intro w3 hw3
      have KB3 := Kept.mk (KBr.out.trans (Below.mono hw3 KBr.out.size))
      clear hw3
      go_wp2
      go_roundw
      case rel => exact ⟨k + 1, by omega, by go_num, KB3.out⟩
      case measure => simp [intOf]; omega
    · have hki : ¬ (k : Int) < (es.length : Int) := by omega
      clear hbel
      go_wp2
      go_ret
      exact ⟨rfl, KBr.out⟩
set_option maxHeartbeats 2000000 in
set_option maxRecDepth 100000 in
theorem sameCommit_any (c : CmC) (pv qv : Value) (w : World) (hok : c.ok) (hp : RdP w pv c.ps) (hq : RdP w qv c.ps) (hl : c.ps.length ≤ 1048576) :
    Calls Tryz.prog 11 #[.agg (c.l pv).toArray, .agg (c.l qv).toArray] w fun e w' => e = .returned (.bool true) ∧ Below w.heap.size w w' := by
  obtain ⟨w1, hw1, hB1, hL1⟩ := CmC.box w c pv
  obtain ⟨w2, hw2, hB2, hL2⟩ := CmC.box w1 c qv
  have hs1 : w1.heap.size = w.heap.size + 1 := by rw [← hw1]; simp
  rw [hs1] at hL2
  have hL12 := hL1.far hB2 hL1.lt
  have KB2 := Kept.mk (hB1.trans (hB2.mono hB1.size))
  have KS := Kept.mk (sameIds_any pv qv c.ps w2 (hp.later KB2.out (Nat.le_refl _)) (hq.later KB2.out (Nat.le_refl _)) hl)
  have KBa : Kept (∀ W, Below w2.heap.size w2 W → CmB W w.heap.size c pv) := ⟨fun W hW => hL12.far hW hL12.lt⟩
  have KBb : Kept (∀ W, Below w2.heap.size w2 W → CmB W (w.heap.size + 1) c qv) := ⟨fun W hW => hL2.far hW hL2.lt⟩
  have Kok := Kept.mk hok
  have Ks1 := Kept.mk hs1
  obtain ⟨pa, pc, rfl, -, -, -⟩ := hp
  obtain ⟨qa, qc, rfl, -, -, -⟩ := hq
  have KR1 := Kept.mk hL12.rangeTg
  have KR2 := Kept.mk hL2.rangeTg
  have KIT := Kept.mk (id_infoL hok.1)
  have KEi : Kept (∀ W, (Op.equalIn 10000 23 (.agg (cellsK .u8 c.tg).toArray) (.agg (cellsK .u8 c.tg).toArray)).run Tryz.prog W = .ok true W) := ⟨fun W => eq_idE W 9998 Kok.out.1.1⟩
  have KEa : Kept (∀ W, (Op.equalIn 10000 26 (.agg (igL c.ia).toArray) (.agg (igL c.ia).toArray)).run Tryz.prog W = .ok true W) := ⟨fun W => eq_idt W 9998 c.ia⟩
  have KEc : Kept (∀ W, (Op.equalIn 10000 26 (.agg (igL c.ic).toArray) (.agg (igL c.ic).toArray)).run Tryz.prog W = .ok true W) := ⟨fun W => eq_idt W 9998 c.ic⟩
  have KIa := Kept.mk (igL_info c.ia)
  have KIc := Kept.mk (igL_info c.ic)
  have c32 := hL12.cell hok 0 _ rfl
  have d32 := hL2.cell hok 0 _ rfl
  obtain ⟨CA, hCA⟩ : ∃ CA, c.l (.slice pa c.ps.length pc) = CA := ⟨_, rfl⟩
  obtain ⟨CB, hCB⟩ : ∃ CB, c.l (.slice qa c.ps.length qc) = CB := ⟨_, rfl⟩
  rw [hCA] at hw1
  rw [hCB] at hw2
  rw [hCA, hCB]
  obtain ⟨TG, hTG⟩ : ∃ TG, cellsK .u8 c.tg = TG := ⟨_, rfl⟩
  rw [hTG] at KR1 KR2 KIT KEi
  clear hCA hCB hTG hB1 hB2 hL1 hL2 hL12 hs1 hok hl
  go_enter Tryz.func11, Tryz.ntmps11
  go_upto_region 1 with fail
  try rw [hw1]
  try rw [hw2]
  try rw [Ks1.out]
  clear hw1 hw2
  go_wp2_with (first | (refine wpList_load_mid rfl 23 _ rfl w.heap.size 0 rfl TG _ KR1.out Tryz.underlying23 rfl KIT.out ?_) | (refine wpList_load_mid rfl 23 _ rfl (w.heap.size + 1) 0 rfl TG _ KR2.out Tryz.underlying23 rfl KIT.out ?_) | (refine BigFrame.wpList_want rfl (fun K hK => wp_exec (exec_eqlE 23 Tryz.eqGuardType23 rfl rfl rfl (KEi.out _)) (hK _ _ ?_)); clear hK K))
  refine Calls.mono KS.out (fun e w3 hp => ?_)
  obtain ⟨rfl, hb⟩ := hp
  have KB3 := Kept.mk (KB2.out.trans (hb.mono KB2.out.size))
  have K1a := Kept.mk ((KBa.out w3 hb).rangeIa Kok.out)
  have K2a := Kept.mk ((KBb.out w3 hb).rangeIa Kok.out)
  have K1c := Kept.mk ((KBa.out w3 hb).rangeIc Kok.out)
  have K2c := Kept.mk ((KBb.out w3 hb).rangeIc Kok.out)
  have c41 := (KBa.out w3 hb).cell Kok.out 9 _ rfl
  have d41 := (KBb.out w3 hb).cell Kok.out 9 _ rfl
  obtain ⟨IA, hIA⟩ : ∃ IA, igL c.ia = IA := ⟨_, rfl⟩
  obtain ⟨IC, hIC⟩ : ∃ IC, igL c.ic = IC := ⟨_, rfl⟩
  rw [hIA] at K1a K2a KIa KEa
  rw [hIC] at K1c K2c KIc KEc
  clear hb KS c32 d32 hIA hIC KR1 KR2
  generalize c.ms = ms at *
  have hms : (ms.toList == ms.toList) = true := by simp
  go_wp2_with (first | (refine BigFrame.wpList_want rfl (fun K hK => wp_load_mid 26 _ rfl w.heap.size 33 rfl IA _ K1a.out Tryz.underlying26 rfl KIa.out (hK _ _ ?_)); clear hK K) | (refine BigFrame.wpList_want rfl (fun K hK => wp_load_mid 26 _ rfl (w.heap.size + 1) 33 rfl IA _ K2a.out Tryz.underlying26 rfl KIa.out (hK _ _ ?_)); clear hK K) | (refine BigFrame.wpList_want rfl (fun K hK => wp_load_mid 26 _ rfl w.heap.size 37 rfl IC _ K1c.out Tryz.underlying26 rfl KIc.out (hK _ _ ?_)); clear hK K) | (refine BigFrame.wpList_want rfl (fun K hK => wp_load_mid 26 _ rfl (w.heap.size + 1) 37 rfl IC _ K2c.out Tryz.underlying26 rfl KIc.out (hK _ _ ?_)); clear hK K) | (refine BigFrame.wpList_want rfl (fun K hK => wp_exec (exec_eqlE 26 Tryz.eqGuardType26 rfl rfl rfl (KEa.out _)) (hK _ _ ?_)); clear hK K) | (refine BigFrame.wpList_want rfl (fun K hK => wp_exec (exec_eqlE 26 Tryz.eqGuardType26 rfl rfl rfl (KEc.out _)) (hK _ _ ?_)); clear hK K))
  go_ret
  exact ⟨rfl, KB3.out⟩


theorem pcmL_bytes {c : CmC} (h : c.ok) : Sh.AllB (pcmL c) := by
  unfold pcmL
  split
  · exact cmL_bytes h
  · exact fun x hx => by cases hx
/-- A snapshot stored in a block of its own. -/
structure CmS (w1 wa w2 : World) (R : CmC) (pv : Value) : Prop where
  al : w1.alloc (.cells (cm0.l pv0).toArray 28) = wa
  st : wa.setCells w1.heap.size 0 (R.l pv) = w2
  th : wa.there w1.heap.size 0 (R.l pv).toArray.size
  bl : CmB w2 w1.heap.size R pv
  be : Below w1.heap.size w1 w2
theorem cm_store (w1 : World) {R : CmC} (pv : Value) (hok : R.ok) : ∃ wa w2, CmS w1 wa w2 R pv := by
  obtain ⟨wa, hwa, hBa, hLa⟩ := CmC.box w1 cm0 pv0
  exact ⟨wa, _, hwa, rfl, hLa.thereAt cm0_ok 0 _ (by rw [List.size_toArray, CmC.len hok]; omega), hLa.over cm0_ok hok, Sh.below_cells (Nat.le_refl _) _ _ _ _ hBa⟩
set_option maxHeartbeats 4000000 in
set_option maxRecDepth 100000 in
theorem commits_walk (c : CmC) (pv u : Value) (xs : List Int) (w : World) (hg : Gv w) (hgl : Gl w) (hok : c.ok) (hpv : RdP w pv c.ps) (hx : Rd .u8 anyB w u xs) (hA : Sh.AllB xs) (hl : xs.length ≤ 140737488355328) :
    Calls Tryz.prog 3 #[.agg (c.l pv).toArray, u] w fun e w' => e = .returned (.bool true) ∧ Below w.heap.size w w' := by
  obtain ⟨w0, hw0, hB0, hL0⟩ := CmC.box w c pv
  have KB0 := Kept.mk hB0
  have KAw := Kept.mk (awake_any w0 (hg.later hB0))
  have KP : Kept (∀ w', Below w.heap.size w w' → Calls Tryz.prog 5 #[.agg (c.l pv).toArray] w' fun e w2 => ∃ v', e = .returned (.tuple #[v', .int .i64 (ceF c)]) ∧ Own .u8 5 w2 w'.heap.size v' (pcmL c) ∧ Below w'.heap.size w' w2) := ⟨fun w' h => putCommit_any c pv w' (hgl.later h) hok (hpv.later h (Nat.le_refl _))⟩
  have KD : Kept (∀ w', Below w.heap.size w w' → Calls Tryz.prog 6 #[.agg (c.l pv).toArray] w' fun e w2 => ∃ v', e = .returned (.tuple #[v', .int .i64 (ceF c)]) ∧ Rd .u8 anyB w2 v' (pcmL c) ∧ Below w'.heap.size w' w2) := ⟨fun w' h => docPutCommit_any c pv w' (hgl.later h) hok (hpv.later h (Nat.le_refl _))⟩
  have KT : Kept (∀ w', Below w.heap.size w w' → Calls Tryz.prog 8 #[u] w' fun e w2 => ∃ v', e = .returned v' ∧ Rd .u8 anyB w2 v' xs ∧ Below w'.heap.size w' w2) := ⟨fun w' h => (Sh.twin_any _ xs w' (shRd (hx.later h (Nat.le_refl _)) hA) hl).mono fun e w2 hp => by
    obtain ⟨v', h1, h2, h3⟩ := hp
    exact ⟨v', h1, (Own.rd (k := .u8) h2).any, h3⟩⟩
  have KPt : Kept (∀ w' v', Below w.heap.size w w' → Rd .u8 anyB w' v' xs → Calls Tryz.prog 7 #[v'] w' fun e w2 => ∃ R qv E, e = .returned (.tuple #[.agg (R.l qv).toArray, .int .i64 E]) ∧ OwnP w2 w'.heap.size qv R.ps ∧ DcEnd xs R E ∧ Below w'.heap.size w' w2) := ⟨fun w' v' h hr' => parseCommit_any v' xs w' (hgl.later h) hr'⟩
  have KDp : Kept (∀ w', Below w.heap.size w w' → Calls Tryz.prog 9 #[u] w' fun e w2 => ∃ R qv E, e = .returned (.tuple #[.agg (R.l qv).toArray, .int .i64 E]) ∧ OwnP w2 w'.heap.size qv R.ps ∧ DcEnd xs R E ∧ Below w'.heap.size w' w2) := ⟨fun w' h => docParseCommit_any u xs w' (hgl.later h) (hx.later h (Nat.le_refl _)) hA⟩
  have KRg : Kept (∀ W, Below w0.heap.size w0 W → W.rangeAt w.heap.size 0 (c.l pv)) := ⟨fun W hW => (hL0.far hW hL0.lt).range⟩
  have KIc : Kept ((Tryz.prog.info? 28).map (·.size) = some (c.l pv).length) := ⟨cm_info hok⟩
  have KTb := Kept.mk (pcmL_bytes hok)
  generalize ceF c = TE at *
  generalize pcmL c = PL at *
  generalize c.l pv = CL at *
  obtain ⟨ua, uc, rfl, -, -, -⟩ := hx.form
  clear hg hgl hx hA hok hl hB0 hL0 hpv
  go_enter Tryz.func3, Tryz.ntmps3
  go_upto_region 1 with fail
  try rw [hw0]
  clear hw0
  go_wp2_with fail
  refine Calls.mono KAw.out (fun e w1 hp => ?_)
  obtain ⟨rfl, hb⟩ := hp
  have K01 := Kept.mk hb
  have KB1 := Kept.mk (KB0.out.trans (hb.mono KB0.out.size))
  have KR1 := Kept.mk (KRg.out w1 hb)
  clear hb KAw
  go_wp2_with (first | (refine wpList_load_mid rfl 28 _ rfl w.heap.size 0 rfl CL _ KR1.out Tryz.underlying28 rfl KIc.out ?_))
  refine Calls.mono (KP.out w1 KB1.out) (fun e w2 hp => ?_)
  obtain ⟨v2, rfl, ho2, hb⟩ := hp
  have K02 := Kept.mk (K01.out.trans (hb.mono K01.out.size))
  have KB2 := Kept.mk (KB1.out.trans (hb.mono KB1.out.size))
  have KR2 := Kept.mk (KRg.out w2 K02.out)
  have KO2 := Kept.mk ho2.rd.any
  clear hb ho2 KP KR1
  go_wp2_with (first | (refine wpList_load_mid rfl 28 _ rfl w.heap.size 0 rfl CL _ KR2.out Tryz.underlying28 rfl KIc.out ?_))
  refine Calls.mono (KD.out w2 KB2.out) (fun e w3 hp => ?_)
  obtain ⟨v3, rfl, ho3, hb⟩ := hp
  have KB3 := Kept.mk (KB2.out.trans (hb.mono KB2.out.size))
  have KO2 := Kept.mk (KO2.out.later hb (Nat.le_refl _))
  have KO3 := Kept.mk ho3
  clear hb ho3 KD KR2 KRg K01 K02
  go_wp2_with fail
  refine Calls.mono (KT.out w3 KB3.out) (fun e w4 hp => ?_)
  obtain ⟨v4, rfl, hr4, hb⟩ := hp
  have hB4 := KB3.out.trans (hb.mono KB3.out.size)
  have KB4 := Kept.mk hB4
  have KO2 := Kept.mk (KO2.out.later hb (Nat.le_refl _))
  have KO3 := Kept.mk (KO3.out.later hb (Nat.le_refl _))
  have K5 := Kept.mk (KPt.out w4 v4 hB4 hr4)
  clear hb hr4 hB4 KT KPt
  go_wp2_with fail
  refine Calls.mono K5.out (fun e w5 hp => ?_)
  obtain ⟨R, qv, E, rfl, how5, hd5, hb⟩ := hp
  have hokR := (dc_ok hd5).1
  obtain ⟨w5a, w6, hS6⟩ := cm_store w5 qv hokR
  have hb6 := hb.trans (hS6.be.mono hb.size)
  have KB6 := Kept.mk (KB4.out.trans (hb6.mono KB4.out.size))
  have KO2 := Kept.mk (KO2.out.later hb6 (Nat.le_refl _))
  have KO3 := Kept.mk (KO3.out.later hb6 (Nat.le_refl _))
  have KD5 := Kept.mk hd5
  have Kok := Kept.mk hokR
  have KI1 : Kept ((Tryz.prog.info? 28).map (·.size) = some (R.l qv).length) := ⟨cm_info hokR⟩
  have KI2 : Kept ((Tryz.prog.info? 28).map (·.size) = some (R.l qv).toArray.size) := ⟨cm_info2 hokR⟩
  have KOl : Kept ((R.l qv).toArray.all (·.oneCell') = true) := ⟨CmC.all how5.one⟩
  have Ka6 := Kept.mk hS6.al
  have Kt6 := Kept.mk hS6.st
  have Kh6 := Kept.mk hS6.th
  have KL6 := Kept.mk hS6.bl
  have KQ6 := Kept.mk (how5.rdP.later hS6.be (Nat.le_refl _))
  clear hb hd5 K5 hokR hS6 hb6 how5
  obtain ⟨RL, hRL⟩ : ∃ RL, R.l qv = RL := ⟨_, rfl⟩
  have KRL := Kept.mk hRL
  rw [hRL] at KI1 KI2 KOl Kt6 Kh6
  rw [hRL]
  clear hRL
  go_wp2_with (first | (generalize hOb : Obj.cells (_ : Array Value) 28 = Ob; obtain rfl : Ob = Obj.cells (cm0.l pv0).toArray 28 := (by subst hOb; rfl); clear hOb; rw [Ka6.out]; refine wpList_store_mid rfl 28 _ _ rfl w5.heap.size 0 RL.toArray rfl rfl Kh6.out KI2.out KOl.out ?_; rw [Kt6.out]))
  refine Calls.mono (KDp.out w6 KB6.out) (fun e w7 hp => ?_)
  obtain ⟨R7, rv, E7, rfl, how7, hd7, hb⟩ := hp
  obtain ⟨rfl, rfl⟩ := dc_one KD5.out hd7
  obtain ⟨w7a, w8, hS8⟩ := cm_store w7 rv Kok.out
  have hb8 := hb.trans (hS8.be.mono hb.size)
  have KB8 := Kept.mk (KB6.out.trans (hb8.mono KB6.out.size))
  have KO2 := Kept.mk (KO2.out.later hb8 (Nat.le_refl _))
  have KO3 := Kept.mk (KO3.out.later hb8 (Nat.le_refl _))
  have KL8 := Kept.mk (KL6.out.far hb8 KL6.out.lt)
  have KL8b := Kept.mk hS8.bl
  have Ka8 := Kept.mk hS8.al
  have Kt8 := Kept.mk hS8.st
  have Kh8 := Kept.mk hS8.th
  have K9 := Kept.mk (Sh.same_any v2 v3 PL PL w8 (shRd KO2.out KTb.out) (shRd KO3.out KTb.out))
  rw [decide_eq_true rfl] at K9
  have KRa := Kept.mk KL8.out.range
  have KRb := Kept.mk KL8b.out.range
  have KI3 : Kept ((Tryz.prog.info? 28).map (·.size) = some (R.l rv).length) := ⟨cm_info Kok.out⟩
  have KI4 : Kept ((Tryz.prog.info? 28).map (·.size) = some (R.l rv).toArray.size) := ⟨cm_info2 Kok.out⟩
  have KOm : Kept ((R.l rv).toArray.all (·.oneCell') = true) := ⟨CmC.all how7.one⟩
  have K10 := Kept.mk (sameCommit_any R qv rv w8 Kok.out (KQ6.out.later hb8 (Nat.le_refl _)) (how7.rdP.later hS8.be (Nat.le_refl _)) (by have := (dc_ok KD5.out).2; omega))
  clear hb hd7 hS8 hb8 KDp KD5 Ka6 Kt6 Kh6 KL6 how7
  rw [KRL.out] at KRa K10
  obtain ⟨RM, hRM⟩ : ∃ RM, R.l rv = RM := ⟨_, rfl⟩
  rw [hRM] at Kt8 Kh8 KRb KI3 KI4 KOm K10
  rw [hRM]
  clear hRM
  go_wp2_with (first | (generalize hOb : Obj.cells (_ : Array Value) 28 = Ob; obtain rfl : Ob = Obj.cells (cm0.l pv0).toArray 28 := (by subst hOb; rfl); clear hOb; rw [Ka8.out]; refine wpList_store_mid rfl 28 _ _ rfl w7.heap.size 0 RM.toArray rfl rfl Kh8.out KI4.out KOm.out ?_; rw [Kt8.out]))
  refine Calls.mono K9.out (fun e w9 hp => ?_)
  obtain ⟨rfl, hw9⟩ := hp
  have hw9 := hw9.symm
  subst hw9
  clear K9 Ka8 Kt8 Kh8
  go_wp2_with (first | (refine BigFrame.wpList_want rfl (fun K hK => wp_load_mid 28 _ rfl w5.heap.size 0 rfl RL _ KRa.out Tryz.underlying28 rfl KI1.out (hK _ _ ?_)); clear hK K) | (refine BigFrame.wpList_want rfl (fun K hK => wp_load_mid 28 _ rfl w7.heap.size 0 rfl RM _ KRb.out Tryz.underlying28 rfl KI3.out (hK _ _ ?_)); clear hK K))
  refine Calls.mono K10.out (fun e w10 hp => ?_)
  obtain ⟨rfl, hb⟩ := hp
  have KB10 := Kept.mk (KB8.out.trans (hb.mono KB8.out.size))
  clear hb K10
  go_wp2
  go_ret
  exact ⟨rfl, KB10.out⟩
end Go.Proofs.YtdiamkfdhpjhoaaGreatDoor
