/-
  What the document's reader of commits guesses. (Pure.)
-/
import Derived.Test.YtfdemmndbjaipaaGreatDoorC6
import Derived.Test.YtfdemmndbjaipaaGreatDoorC8
import Derived.Test.YtfdemmndbjaipaaGreatDoorC2
import Derived.Test.YtfdemmndbjaipaaGreatDoorO10C
namespace Go.Proofs.YtfdemmndbjaipaaGreatDoor
open Go.RowKit

/-- A line, or none. -/
def LnRC (t word a b : List UInt8) (ok : Bool) : Prop := (ok = true ∧ LnAt t word a b) ∨ (ok = false ∧ LnNo t word)
theorem ln_forceC {t word a b a' b' : List UInt8} {ok : Bool} (h : LnAt t word a' b') (g : LnRC t word a b ok) : ok = true ∧ a = a' ∧ b = b' := by
  rcases g with ⟨rfl, g⟩ | ⟨rfl, g⟩
  · have := ln_one g h
    exact ⟨rfl, this.1, this.2⟩
  · exact absurd h (g _ _)
theorem ln_at_sizeC {t word a b : ByteArray} (h : LnAt t.data.toList word.data.toList a.data.toList b.data.toList) : a.size ≤ t.size ∧ b.size ≤ t.size := by
  have := congrArg List.length h.1
  simp only [List.length_append, List.length_cons, ← Lib.size_eq] at this
  omega
/-- How line ends, in one form. -/
def LnGC (t word : ByteArray) (w : World) (e : Ending) (w' : World) : Prop := ∃ (a b : ByteArray) (ok : Bool), e = .returned (.tuple #[.string a, .string b, .bool ok]) ∧ LnRC t.data.toList word.data.toList a.data.toList b.data.toList ok ∧ a.size ≤ t.size ∧ b.size ≤ t.size ∧ Below w.heap.size w w'
/-- Parents' lines, as the document reads them. -/
def PlS : List UInt8 → List (List Int) → List UInt8 → Prop
  | t, [], t' => t' = t
  | t, p :: ps, t' => ∃ a b, LnAt t wP a b ∧ p = Sh.parF ⟨a.toArray⟩ ∧ PlS b ps t'
theorem PlS.snoc : ∀ {ps : List (List Int)} {t t' a b : List UInt8}, PlS t ps t' → LnAt t' wP a b → PlS t (ps ++ [Sh.parF ⟨a.toArray⟩]) b
  | [], t, t', a, b, h, hp => by
    have h : t' = t := h
    subst h
    exact ⟨a, b, hp, rfl, rfl⟩
  | p :: ps, t, t', a, b, h, hp => by
    obtain ⟨x, y, h1, h2, h3⟩ := h
    exact ⟨x, y, h1, h2, PlS.snoc h3 hp⟩
theorem pas_ln {p : List Int} (h : IdOk p) (r : List UInt8) : LnAt (wP ++ 32 :: (hexU p ++ 10 :: r)) wP (hexU p) r := ⟨rfl, hexU_no _ h.2⟩
theorem cmR_no (c : CmC) : LnNo (cmR c) wP := fun rest behind h => by
  have h1 := congrArg List.head? h.1
  unfold cmR wA wP at h1
  simp at h1
theorem pls_pre {r : List UInt8} (hr : LnNo r wP) : ∀ {ps : List (List Int)}, (∀ p ∈ ps, IdOk p) → ∀ {qs : List (List Int)} {t2 : List UInt8}, PlS (pasU ps r) qs t2 → ∃ rest, ps = qs ++ rest ∧ t2 = pasU rest r
  | ps, _, [], t2, h => ⟨ps, rfl, h⟩
  | [], _, q :: qs, t2, h => by
    obtain ⟨a, b, h1, -, -⟩ := h
    exact absurd h1 (hr a b)
  | p :: ps, hok, q :: qs, t2, h => by
    have hp := hok p List.mem_cons_self
    obtain ⟨a, b, h1, h2, h3⟩ := h
    obtain ⟨rfl, rfl⟩ := ln_one h1 (pas_ln hp (pasU ps r))
    rw [par_hex hp] at h2
    obtain ⟨rest, e1, e2⟩ := pls_pre hr (fun q hq => hok q (List.mem_cons_of_mem _ hq)) h3
    exact ⟨rest, by rw [h2, e1]; rfl, e2⟩
/-- What a commit's pieces are read as. -/
def pcC (a : ByteArray) (qs : List (List Int)) (a3 a4 m : ByteArray) : CmC := ⟨Sh.parF a, qs, (prsF a3).1, (prsF a4).1, m⟩
theorem cm_force {t : List UInt8} {a1 t1 t2 a3 t3 a4 t4 : ByteArray} {qs : List (List Int)} {k3 k4 : Bool} (h1 : LnAt t wTr a1.data.toList t1.data.toList) (h2 : PlS t1.data.toList qs t2.data.toList) (hx : qs.length = 17 ∨ LnNo t2.data.toList wP)
    (h3 : LnRC t2.data.toList wA a3.data.toList t3.data.toList k3) (h4 : LnRC t3.data.toList wCo a4.data.toList t4.data.toList k4) {c : CmC} (hc : c.ok) (h0 : ceF c = 0) (he : cmU c = t) :
    k3 = true ∧ k4 = true ∧ t4.data.toList ≠ [] ∧ ∀ m : ByteArray, m.data.toList = t4.data.toList.drop 1 → pcC a1 qs a3 a4 m = c := by
  obtain ⟨f1, f2, f3, f4, f5⟩ := ceF_ok h0
  obtain ⟨g1, g2, g3⟩ := cm_lines hc h0
  rw [he] at g1
  obtain ⟨e1, e2⟩ := ln_one h1 g1
  rw [e2] at h2
  obtain ⟨rest, e3, e4⟩ := pls_pre (cmR_no c) hc.2.1 h2
  have hrest : rest = [] := by
    rcases hx with hx | hx
    · have := congrArg List.length e3
      rw [List.length_append] at this
      omega
    · cases rest with
      | nil => rfl
      | cons p rs =>
        exfalso
        rw [e4] at hx
        exact hx _ _ (pas_ln (hc.2.1 p (by rw [e3]; simp)) (pasU rs (cmR c)))
  subst hrest
  rw [List.append_nil] at e3
  have e4 : t2.data.toList = cmR c := e4
  rw [e4] at h3
  obtain ⟨e5, e6, e7⟩ := ln_forceC g2 h3
  rw [e7] at h4
  obtain ⟨e8, e9, e10⟩ := ln_forceC g3 h4
  refine ⟨e5, e8, by rw [e10]; simp, fun m hm => ?_⟩
  rw [e10, List.drop_one, List.tail_cons] at hm
  have b1 : a1 = ⟨(hexU c.tg).toArray⟩ := by rw [← e1]
  have b3 : a3 = putB c.ia := by rw [← back_ba a3, e6]
  have b4 : a4 = putB c.ic := by rw [← back_ba a4, e9]
  have bm : m = c.ms := by rw [← back_ba m, hm]
  unfold pcC
  rw [b1, b3, b4, bm, par_hex hc.1, prs_put f3, prs_put f4, ← e3]
theorem dc_none1 {xs : List Int} (hl : xs.length ≤ 1048576) (h : LnNo (strOfNums xs).data.toList wTr) : DcEnd xs cm0 4 :=
  .inr ⟨hl, .inr ⟨fun c hc h0 he => by
    have := (cm_lines hc h0).1
    rw [he] at this
    exact h _ _ this, rfl, rfl⟩⟩
theorem dc_none {xs : List Int} (hl : xs.length ≤ 1048576) {a1 t1 t2 a3 t3 a4 t4 : ByteArray} {qs : List (List Int)} {k3 k4 : Bool} (h1 : LnAt (strOfNums xs).data.toList wTr a1.data.toList t1.data.toList) (h2 : PlS t1.data.toList qs t2.data.toList) (hx : qs.length = 17 ∨ LnNo t2.data.toList wP)
    (h3 : LnRC t2.data.toList wA a3.data.toList t3.data.toList k3) (h4 : LnRC t3.data.toList wCo a4.data.toList t4.data.toList k4) (h : ¬ (k3 = true ∧ k4 = true ∧ t4.data.toList ≠ [])) : DcEnd xs cm0 4 :=
  .inr ⟨hl, .inr ⟨fun c hc h0 he => by
    obtain ⟨e1, e2, e3, -⟩ := cm_force h1 h2 hx h3 h4 hc h0 he
    exact h ⟨e1, e2, e3⟩, rfl, rfl⟩⟩
theorem dc_bad {xs : List Int} (hl : xs.length ≤ 1048576) {a1 t1 t2 a3 t3 a4 t4 m : ByteArray} {qs : List (List Int)} {k3 k4 : Bool} (h1 : LnAt (strOfNums xs).data.toList wTr a1.data.toList t1.data.toList) (h2 : PlS t1.data.toList qs t2.data.toList) (hx : qs.length = 17 ∨ LnNo t2.data.toList wP)
    (h3 : LnRC t2.data.toList wA a3.data.toList t3.data.toList k3) (h4 : LnRC t3.data.toList wCo a4.data.toList t4.data.toList k4) (hm : m.data.toList = t4.data.toList.drop 1) (h : ¬ (ceF (pcC a1 qs a3 a4 m) = 0 ∧ cmU (pcC a1 qs a3 a4 m) = (strOfNums xs).data.toList)) : DcEnd xs cm0 4 :=
  .inr ⟨hl, .inr ⟨fun c hc h0 he => by
    obtain ⟨-, -, -, e⟩ := cm_force h1 h2 hx h3 h4 hc h0 he
    rw [e m hm] at h
    exact h ⟨h0, he⟩, rfl, rfl⟩⟩
theorem cmL_bytes {c : CmC} (hok : c.ok) : Sh.AllB (cmL c) := by
  have hh : ∀ p, IdOk p → Sh.AllB (Sh.hexF p) := fun p hp => Sh.hexF_allB (fun y hy => hp.2 y hy)
  have hpa : Sh.AllB (pasL c.ps) := by
    intro x hx
    unfold pasL at hx
    obtain ⟨p, hp, hx⟩ := List.mem_flatMap.1 hx
    unfold paL at hx
    rcases List.mem_append.1 hx with hx | hx
    · rcases List.mem_append.1 hx with hx | hx
      · have : x ∈ ([112, 97, 114, 101, 110, 116, 32] : List Int) := hx
        simp only [List.mem_cons, List.not_mem_nil, or_false] at this
        omega
      · exact hh p (hok.2.1 p hp) x hx
    · simp only [List.mem_cons, List.not_mem_nil, or_false] at hx
      omega
  have c1 : Sh.AllB [116, 114, 101, 101] := fun x hx => by simp at hx; omega
  have c2 : Sh.AllB [10] := fun x hx => by simp at hx; omega
  have c3 : Sh.AllB [97, 117, 116, 104, 111, 114] := fun x hx => by simp at hx; omega
  have c4 : Sh.AllB [32] := fun x hx => by simp at hx; omega
  have c5 : Sh.AllB [99, 111, 109, 109, 105, 116, 116, 101, 114] := fun x hx => by simp at hx; omega
  unfold cmL
  repeat' apply allB_cat
  all_goals first | assumption | exact hh _ hok.1 | exact strL_allB _
theorem cmL_eq {c : CmC} (hok : c.ok) {xs : List Int} (hA : Sh.AllB xs) : cmL c = xs ↔ cmU c = (strOfNums xs).data.toList := by
  constructor
  · rintro rfl
    exact (cmL_U c).symm
  · intro h
    rw [← cmL_U] at h
    have := strs_eq (cmL_bytes hok) hA
    have e : strOfNums (cmL c) = strOfNums xs := by
      apply ByteArray.ext
      apply Array.ext'
      exact h
    rw [e] at this
    simp at this
    exact this


theorem exec_neqC {P : Program} (t : TypeId) (hg : P.eqGuardType P.depth t = false) {a : Act} {o : Oper} {x y : Operand} {t' : TypeId} (ho : o.op = .binOp .neq t x y t') {X Y : Array Value} (hx : a.eval x = .agg X) (hy : a.eval y = .agg Y) {q : Bool} {W : World} (hE : (Op.equalIn 10000 t (.agg X) (.agg Y)).run P W = .ok q W) : (execOp a.eval o).run P W = .ok (.value (.bool (!q))) W := by
  unfold execOp
  rw [ho]
  simp only [hx, hy, Sem.run_bind, run_eqGuard_agg W .neq t x y X Y hg, Result.andThen_ok, run_neq_struct W t X Y, hE, Sem.run_pure]
set_option maxHeartbeats 2000000 in
set_option maxRecDepth 100000 in
theorem sameIds_any (v u : Value) (es : List (List Int)) (w : World) (hr : RdP w v es) (hs : RdP w u es) (hl : es.length ≤ 1048576) :
    Calls Tryz.prog 30 #[v, u] w fun e w' => e = .returned (.bool true) ∧ Below w.heap.size w w' := by
  obtain ⟨a, c, rfl, hlc, hok, hrd⟩ := hr
  obtain ⟨a2, c2, rfl, hlc2, hok2, hrd2⟩ := hs
  have KR := Kept.mk hrd
  have KK := Kept.mk hok
  have KR2 := Kept.mk hrd2
  clear hrd hok hrd2 hok2
  go_enter Tryz.func30, Tryz.ntmps30
  go_wp2
  go_loopw [13] (fun iv wr => ∃ k : Nat, k ≤ es.length ∧ iv = .int .i64 k ∧ Below w.heap.size w wr) (fun iv _ => es.length - (intOf iv).toNat)
  case atStart => exact ⟨0, Nat.zero_le _, rfl, Below.refl _ _⟩
  case round =>
    obtain ⟨k, hk, rfl, hbel⟩ := hrel
    have KBr := Kept.mk hbel
    by_cases hlt : k < es.length
    · have hki : (k : Int) < (es.length : Int) := by omega
      obtain ⟨b, off, rfl, hbl, hrg⟩ := KR.out (by omega)
      obtain ⟨b2, off2, rfl, hbl2, hrg2⟩ := KR2.out (by omega)
      have hbr : b < wr.heap.size := Nat.lt_of_lt_of_le hbl hbel.size
      have hbr2 : b2 < wr.heap.size := Nat.lt_of_lt_of_le hbl2 hbel.size
      have hR1 : Kept (∀ W, CC wr W → W.rangeAt b (off + k * 32) (cellsK .u8 (es[k]'hlt))) := ⟨fun W hW j u hu => by
        rw [hW.cell (p := ⟨b, off + k * 32 + j, none⟩) hbr, hbel.cell (p := ⟨b, off + k * 32 + j, none⟩) hbl]
        exact hrg k hlt j u hu⟩
      have hR2 : Kept (∀ W, CC wr W → W.rangeAt b2 (off2 + k * 32) (cellsK .u8 (es[k]'hlt))) := ⟨fun W hW j u hu => by
        rw [hW.cell (p := ⟨b2, off2 + k * 32 + j, none⟩) hbr2, hbel.cell (p := ⟨b2, off2 + k * 32 + j, none⟩) hbl2]
        exact hrg2 k hlt j u hu⟩
      have hoA := KK.out _ (List.getElem_mem hlt)
      have KEq : Kept (∀ W, (Op.equalIn 10000 24 (.agg (cellsK .u8 (es[k]'hlt)).toArray) (.agg (cellsK .u8 (es[k]'hlt)).toArray)).run Tryz.prog W = .ok true W) := ⟨fun W => eq_idE W 9998 hoA.1⟩
      have KI1 : Kept ((Tryz.prog.info? 24).map (·.size) = some (cellsK .u8 (es[k]'hlt)).length) := ⟨by rw [idP_len hoA]; kernel_rfl⟩
      clear hbel hrg hrg2 hoA
      have e3 : IntKind.i64.wrap ((k : Int) + 1) = (k : Int) + 1 := by rw [IntKind.wrap_i64]; omega
      generalize (cellsK .u8 (es[k]'hlt)) = LA at *
      clear hbr hbl hbr2 hbl2
      go_upto_region 6 with fail
      refine wp_region_quietC (C := CC wr) (by kernel_rfl) (by kernel_rfl) (Below.refl _ _).drew ?_
      go_big_quiet_step ((intro _; rfl))
      go_big_quiet_step ((intro _; rfl))
      refine BigFrame.wpQuiet_want rfl (fun K hK => quiet_run (v := .pointer (some ⟨b, off + k * 32, none⟩)) (fun W hW => by go_simp; all_goals first | rfl | (intro hneg; exfalso; omega)) (hK _ ?_))
      clear hK K
      simp only [Act.put, List.setIfInBounds_toArray, List.set_cons_zero, List.set_cons_succ]
      refine BigFrame.wpQuiet_want rfl (fun K hK => quiet_load_mid 24 _ rfl b (off + k * 32) rfl LA _ hR1.out Tryz.underlying24 rfl KI1.out (hK _ ?_))
      clear hK K
      simp only [Act.put, List.setIfInBounds_toArray, List.set_cons_zero, List.set_cons_succ]
      go_big_quiet_step ((intro _; rfl))
      go_big_quiet_step ((intro _; rfl))
      refine BigFrame.wpQuiet_want rfl (fun K hK => quiet_run (v := .pointer (some ⟨b2, off2 + k * 32, none⟩)) (fun W hW => by go_simp; all_goals first | rfl | (intro hneg; exfalso; omega)) (hK _ ?_))
      clear hK K
      simp only [Act.put, List.setIfInBounds_toArray, List.set_cons_zero, List.set_cons_succ]
      refine BigFrame.wpQuiet_want rfl (fun K hK => quiet_load_mid 24 _ rfl b2 (off2 + k * 32) rfl LA _ hR2.out Tryz.underlying24 rfl KI1.out (hK _ ?_))
      clear hK K
      simp only [Act.put, List.setIfInBounds_toArray, List.set_cons_zero, List.set_cons_succ]
      refine BigFrame.wpQuiet_want rfl (fun K hK => quiet_run (v := .bool false) (fun W hW => exec_neqC 24 Tryz.eqGuardType24 rfl rfl rfl (KEq.out W)) (hK _ ?_))
      clear hK K
      simp only [Act.put, List.setIfInBounds_toArray, List.set_cons_zero, List.set_cons_succ]
      refine wpQuiet_nil ?_
      intro w3 hw3
      have KB3 := Kept.mk (KBr.out.trans (Below.mono hw3 KBr.out.size))
      clear hw3
      go_wp2
      go_roundw
      case rel => exact ⟨k + 1, by omega, by go_num, KB3.out⟩
      case measure => simp [intOf]; omega
    · have hki : ¬ (k : Int) < (es.length : Int) := by omega
      clear hbel
      go_wp2
      go_ret
      exact ⟨rfl, KBr.out⟩
set_option maxHeartbeats 2000000 in
set_option maxRecDepth 100000 in
theorem sameCommit_any (c : CmC) (pv qv : Value) (w : World) (hok : c.ok) (hp : RdP w pv c.ps) (hq : RdP w qv c.ps) (hl : c.ps.length ≤ 1048576) :
    Calls Tryz.prog 11 #[.agg (c.l pv).toArray, .agg (c.l qv).toArray] w fun e w' => e = .returned (.bool true) ∧ Below w.heap.size w w' := by
  obtain ⟨w1, hw1, hB1, hL1⟩ := CmC.box w c pv
  obtain ⟨w2, hw2, hB2, hL2⟩ := CmC.box w1 c qv
  have hs1 : w1.heap.size = w.heap.size + 1 := by rw [← hw1]; simp
  rw [hs1] at hL2
  have hL12 := hL1.far hB2 hL1.lt
  have KB2 := Kept.mk (hB1.trans (hB2.mono hB1.size))
  have KS := Kept.mk (sameIds_any pv qv c.ps w2 (hp.later KB2.out (Nat.le_refl _)) (hq.later KB2.out (Nat.le_refl _)) hl)
  have KBa : Kept (∀ W, Below w2.heap.size w2 W → CmB W w.heap.size c pv) := ⟨fun W hW => hL12.far hW hL12.lt⟩
  have KBb : Kept (∀ W, Below w2.heap.size w2 W → CmB W (w.heap.size + 1) c qv) := ⟨fun W hW => hL2.far hW hL2.lt⟩
  have Kok := Kept.mk hok
  have Ks1 := Kept.mk hs1
  obtain ⟨pa, pc, rfl, -, -, -⟩ := hp
  obtain ⟨qa, qc, rfl, -, -, -⟩ := hq
  have KR1 := Kept.mk hL12.rangeTg
  have KR2 := Kept.mk hL2.rangeTg
  have KIT := Kept.mk (id_infoL hok.1)
  have KEi : Kept (∀ W, (Op.equalIn 10000 24 (.agg (cellsK .u8 c.tg).toArray) (.agg (cellsK .u8 c.tg).toArray)).run Tryz.prog W = .ok true W) := ⟨fun W => eq_idE W 9998 Kok.out.1.1⟩
  have KEa : Kept (∀ W, (Op.equalIn 10000 27 (.agg (igL c.ia).toArray) (.agg (igL c.ia).toArray)).run Tryz.prog W = .ok true W) := ⟨fun W => eq_idt W 9998 c.ia⟩
  have KEc : Kept (∀ W, (Op.equalIn 10000 27 (.agg (igL c.ic).toArray) (.agg (igL c.ic).toArray)).run Tryz.prog W = .ok true W) := ⟨fun W => eq_idt W 9998 c.ic⟩
  have KIa := Kept.mk (igL_info c.ia)
  have KIc := Kept.mk (igL_info c.ic)
  have c32 := hL12.cell hok 0 _ rfl
  have d32 := hL2.cell hok 0 _ rfl
  obtain ⟨CA, hCA⟩ : ∃ CA, c.l (.slice pa c.ps.length pc) = CA := ⟨_, rfl⟩
  obtain ⟨CB, hCB⟩ : ∃ CB, c.l (.slice qa c.ps.length qc) = CB := ⟨_, rfl⟩
  rw [hCA] at hw1
  rw [hCB] at hw2
  rw [hCA, hCB]
  obtain ⟨TG, hTG⟩ : ∃ TG, cellsK .u8 c.tg = TG := ⟨_, rfl⟩
  rw [hTG] at KR1 KR2 KIT KEi
  clear hCA hCB hTG hB1 hB2 hL1 hL2 hL12 hs1 hok hl
  go_enter Tryz.func11, Tryz.ntmps11
  go_upto_region 1 with fail
  try rw [hw1]
  try rw [hw2]
  try rw [Ks1.out]
  clear hw1 hw2
  go_wp2_with (first | (refine wpList_load_mid rfl 24 _ rfl w.heap.size 0 rfl TG _ KR1.out Tryz.underlying24 rfl KIT.out ?_) | (refine wpList_load_mid rfl 24 _ rfl (w.heap.size + 1) 0 rfl TG _ KR2.out Tryz.underlying24 rfl KIT.out ?_) | (refine BigFrame.wpList_want rfl (fun K hK => wp_exec (exec_eqlE 24 Tryz.eqGuardType24 rfl rfl rfl (KEi.out _)) (hK _ _ ?_)); clear hK K))
  refine Calls.mono KS.out (fun e w3 hp => ?_)
  obtain ⟨rfl, hb⟩ := hp
  have KB3 := Kept.mk (KB2.out.trans (hb.mono KB2.out.size))
  have K1a := Kept.mk ((KBa.out w3 hb).rangeIa Kok.out)
  have K2a := Kept.mk ((KBb.out w3 hb).rangeIa Kok.out)
  have K1c := Kept.mk ((KBa.out w3 hb).rangeIc Kok.out)
  have K2c := Kept.mk ((KBb.out w3 hb).rangeIc Kok.out)
  have c41 := (KBa.out w3 hb).cell Kok.out 9 _ rfl
  have d41 := (KBb.out w3 hb).cell Kok.out 9 _ rfl
  obtain ⟨IA, hIA⟩ : ∃ IA, igL c.ia = IA := ⟨_, rfl⟩
  obtain ⟨IC, hIC⟩ : ∃ IC, igL c.ic = IC := ⟨_, rfl⟩
  rw [hIA] at K1a K2a KIa KEa
  rw [hIC] at K1c K2c KIc KEc
  clear hb KS c32 d32 hIA hIC KR1 KR2
  generalize c.ms = ms at *
  have hms : (ms.toList == ms.toList) = true := by simp
  go_wp2_with (first | (refine BigFrame.wpList_want rfl (fun K hK => wp_load_mid 27 _ rfl w.heap.size 33 rfl IA _ K1a.out Tryz.underlying27 rfl KIa.out (hK _ _ ?_)); clear hK K) | (refine BigFrame.wpList_want rfl (fun K hK => wp_load_mid 27 _ rfl (w.heap.size + 1) 33 rfl IA _ K2a.out Tryz.underlying27 rfl KIa.out (hK _ _ ?_)); clear hK K) | (refine BigFrame.wpList_want rfl (fun K hK => wp_load_mid 27 _ rfl w.heap.size 37 rfl IC _ K1c.out Tryz.underlying27 rfl KIc.out (hK _ _ ?_)); clear hK K) | (refine BigFrame.wpList_want rfl (fun K hK => wp_load_mid 27 _ rfl (w.heap.size + 1) 37 rfl IC _ K2c.out Tryz.underlying27 rfl KIc.out (hK _ _ ?_)); clear hK K) | (refine BigFrame.wpList_want rfl (fun K hK => wp_exec (exec_eqlE 27 Tryz.eqGuardType27 rfl rfl rfl (KEa.out _)) (hK _ _ ?_)); clear hK K) | (refine BigFrame.wpList_want rfl (fun K hK => wp_exec (exec_eqlE 27 Tryz.eqGuardType27 rfl rfl rfl (KEc.out _)) (hK _ _ ?_)); clear hK K))
  go_ret
  exact ⟨rfl, KB3.out⟩
end Go.Proofs.YtfdemmndbjaipaaGreatDoor
