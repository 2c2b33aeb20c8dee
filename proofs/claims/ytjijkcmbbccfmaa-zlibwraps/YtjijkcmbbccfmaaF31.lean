/-
  Walks: the finder's add.
-/
import Derived.Test.YtjijkcmbbccfmaaF30
namespace Go.Proofs.Ytjijkcmbbccfmaa
open Go.RowKit Go.WideMaps

theorem oper_mapUpdate {H : Type} {P : Program} (w : World) {o : Oper} {a : Act} {K : Act → World → Prop} {Q : Exit → Act → World → Prop}
    (m x v : Operand) (t : TypeId) (hop : o.op = Op.mapUpdate t m x v)
    (k e : TypeId) (KK : Maps.Keyed P k) (ht : P.underlying t = some (.map k e)) (R : Value → Option (DataW H × List MemPlace)) (b n : Nat) (D : DataW H)
    (hm : a.eval m = .map (some b)) (hown : w.ownsMap P k R b n D) (hn : n < maxLen) (key val : Value) (kl : Lit) (hx : a.eval x = key) (hv : a.eval v = val) (hkey : keyOf P k key = some kl)
    (d : DataW H) (ps : List MemPlace) (hval : R val = some (d, ps))
    (hK : ∀ w', w'.ownsMap P k R b (n + 1) (D.put kl d) → w.grownBy w' (some b) → K (a.put o.dst undef) w') : Oper.wp P o a w K Q := by
  obtain ⟨w', hrun, r1, r2⟩ := hown.update KK ht hn hkey hval
  unfold Oper.wp
  simp [execOp, hop, hm, hx, hv, hrun, Result.andThen]
  exact hK w' r1 r2
theorem Fq.grown {mb : Nat} {bb : Option Nat} {w w' : World} (h : w.grownBy w' (some mb)) : Fq mb bb w w' := ⟨h.os, h.tape, h.output, h.size, fun k hk h1 _ => h.block k hk (fun e => h1 (by injection e))⟩
theorem Fq.below_ {mb : Nat} {bb : Option Nat} {w w' : World} (h : Below w.heap.size w w') : Fq mb bb w w' := ⟨h.os, h.tape, h.output, h.size, fun k hk _ _ => h.block k hk⟩

set_option maxHeartbeats 1000000 in
set_option maxRecDepth 100000 in
theorem add_any {W0 w : World} {fb mb : Nat} {bb : Option Nat} {pv : Value} {p : List Int} {t : Nat} (h : Fd W0 w fb mb bb pv p t) (hp : Rd .u8 anyB W0 pv p) (ha : AllB p) (ht : t < p.length) (hl : p.length ≤ 1073741824) :
    Calls Try.prog 25 #[.pointer (some ⟨fb, 0, none⟩), .int .i64 t] w fun e w' => e = .returned (.tuple #[]) ∧ Fd W0 w' fb mb bb pv p (t + 1) ∧ Fq mb bb w w' := by
  obtain ⟨backV, bk, n, D, h1, h2, h3, h4, h5, h6, h7⟩ := h.blk
  obtain ⟨pa, pc, rfl, -, -, -⟩ := hp.form
  have c0 : w.cell? ⟨fb, 0, none⟩ = some (.slice pa p.length pc) := by simp [World.cell?, h1]
  by_cases ht3 : t + 3 ≤ p.length
  · have hd0 : ¬ ((p.length : Int) - (t : Int) < 3) := by omega
    have hti : (t : Int) < (p.length : Int) := by omega
    have hpl : (p.length : Int) ≤ 1073741824 := by omega
    obtain ⟨ba, bc, rfl, -, -, -⟩ := h5.rd.form
    obtain ⟨bg, rfl, hbl, hbg, hbglt, hbc, hbf⟩ := h5.addrq (by rw [h7.1]; omega)
    have h71 := h7.1
    have hlt := h.lt
    have hbb : bb = some bg := by rw [← h6]; rfl
    subst hbb
    have hwz := h.bel.size
    have hfbg : fb ≠ bg := fun e => h.fbb (by rw [e])
    have hmbg : mb ≠ bg := fun e => h.mbb (by rw [e])
    have KC2 : Kept (∀ w', CC w w' → w'.cell? ⟨fb, 2, none⟩ = some (.slice (some ⟨bg, 0, none⟩) bk.length bc)) := ⟨fun w' hw => by
      rw [hw.cell (p := ⟨fb, 2, none⟩) hlt.1]
      simp [World.cell?, h1]⟩
    have KL : Kept (∀ w', CC w w' → Calls Try.prog 29 #[.pointer (some ⟨fb, 0, none⟩), .int .i64 t] w' fun e w'' => e = .returned (.int .i64 ((lsF p t t : Int) - 1)) ∧ CC w w'') := ⟨fun w' hw =>
      (lastLike_any t (h.later hw) ((hp.later h.bel (Nat.le_refl _)).later hw (Nat.le_refl _)) ha ht3 hl).mono fun e w'' hp2 => ⟨hp2.1, hw.on hp2.2⟩⟩
    have KX : Kept (∀ w', CC w w' → ∃ x, w'.cell? ⟨bg, t, none⟩ = some (.int .i64 x)) := ⟨fun w' hw => ⟨_, by
      rw [hw.cell (p := ⟨bg, t, none⟩) hbglt]
      exact hbc t (by rw [h71]; omega)⟩⟩
    have KF : Kept (∀ w', CC w w' → w'.frozen? ⟨bg, t, none⟩ = false) := ⟨fun w' hw => by
      have e := hw.block bg hbglt
      have := hbf t
      unfold World.frozen? at this ⊢
      simp only [e]
      exact this⟩
    have KS : Kept (∀ w', CC w w' → (w'.setCell ⟨bg, t, none⟩ (.int .i64 ((lsF p t t : Int) - 1))).heap[fb]? = some (.cells #[.slice pa p.length pc, .map (some mb), .slice (some ⟨bg, 0, none⟩) bk.length bc] 48) ∧ (w'.setCell ⟨bg, t, none⟩ (.int .i64 ((lsF p t t : Int) - 1))).ownsMap Try.prog 52 (plainElem Try.prog 3) mb n D ∧
        Own .i64 3 (w'.setCell ⟨bg, t, none⟩ (.int .i64 ((lsF p t t : Int) - 1))) W0.heap.size (.slice (some ⟨bg, 0, none⟩) bk.length bc) (bk.set t ((lsF p t t : Int) - 1)) ∧ Fq mb (some bg) w (w'.setCell ⟨bg, t, none⟩ (.int .i64 ((lsF p t t : Int) - 1))) ∧ Below W0.heap.size W0 (w'.setCell ⟨bg, t, none⟩ (.int .i64 ((lsF p t t : Int) - 1)))) := ⟨fun w' hw => by
      refine ⟨?_, ?_, ?_, ?_, ?_⟩
      · rw [Below.heap_setCell _ _ _ _ hfbg, hw.block fb hlt.1]
        exact h1
      · exact (ownsMap_far h2 (hw.block _ hlt.2.1)).setCell hmbg _
      · exact (h5.later hw (Nat.le_refl _)).setq t _
      · exact (Fq.below_ hw).own t _
      · exact (h.bel.trans (hw.mono hwz)).setCell hbg _⟩
    have KH := Kept.mk h
    have K4 := Kept.mk h4
    have K7 := Kept.mk h7
    have KP := Kept.mk hp
    have KA := Kept.mk ha
    have hn3 : n ≤ t := h3
    have hbk : (t : Int) < (bk.length : Int) := by rw [h71]; omega
    clear h h1 h2 h3 h4 h5 h6 h7 hp ha hbc hbf hlt hbl
    obtain ⟨y, hy⟩ : ∃ y : Int, (lsF p t t : Int) - 1 = y := ⟨_, rfl⟩
    rw [hy] at KL KS
    have KY := Kept.mk hy
    clear hy
    go_enter Try.func25, Try.ntmps25
    go_upto_region 1 with fail
    refine wp_region_lastC (C := CC w) _ 9 (by kernel_rfl) (by kernel_rfl) rfl rfl (Below.refl _ _).drew ?_
    simp only [List.take_succ_cons, List.take_zero]
    go_big_quiet_step ((intro _; rfl))
    go_big_quiet_step ((intro _; rfl))
    go_big_quiet_step ((intro _; rfl))
    refine BigFrame.wpQuiet_want rfl (fun K hK => quiet_run (v := .slice (some ⟨bg, 0, none⟩) bk.length bc) (fun W hW => by have hcm := KC2.out W hW; go_simp) (hK _ ?_))
    clear hK K
    simp only [Act.put, List.setIfInBounds_toArray, List.set_cons_zero, List.set_cons_succ]
    go_big_quiet_step ((intro _; rfl))
    go_big_quiet_step ((intro _; rfl))
    go_big_quiet_step ((intro _; rfl))
    go_big_quiet_step ((intro hCw; exact KL.out _ hCw))
    go_big_quiet_step ((intro _; rfl))
    refine wpQuiet_nil ?_
    intro w1 hw1
    obtain ⟨x, hx⟩ := KX.out w1 hw1
    have hf := KF.out w1 hw1
    have hS := KS.out w1 hw1
    clear hw1 KX KF KS KL KC2
    have KS := Kept.mk hS
    clear hS
    go_upto_region 2 with fail
    obtain ⟨w2, hw2, hS2⟩ : ∃ w2, w1.setCell ⟨bg, t, none⟩ (.int .i64 y) = w2 ∧ w2.heap[fb]? = some (.cells #[.slice pa p.length pc, .map (some mb), .slice (some ⟨bg, 0, none⟩) bk.length bc] 48) ∧ w2.ownsMap Try.prog 52 (plainElem Try.prog 3) mb n D ∧
        Own .i64 3 w2 W0.heap.size (.slice (some ⟨bg, 0, none⟩) bk.length bc) (bk.set t y) ∧ Fq mb (some bg) w w2 ∧ Below W0.heap.size W0 w2 := ⟨_, rfl, KS.out⟩
    rw [hw2]
    clear hw2 KS hx hf w1 x c0
    obtain ⟨e1, e2, e3, e4, e5⟩ := hS2
    have hlt2 := heap_lt e1
    have KC1 : Kept (∀ w', CC w2 w' → w'.cell? ⟨fb, 1, none⟩ = some (.map (some mb))) := ⟨fun w' hw => by
      rw [hw.cell (p := ⟨fb, 1, none⟩) hlt2]
      simp [World.cell?, e1]⟩
    have KT : Kept (∀ w', CC w2 w' → Calls Try.prog 33 #[.pointer (some ⟨fb, 0, none⟩), .int .i64 t] w' fun e w'' => e = .returned (aggF (thL p t)) ∧ CC w2 w'') := ⟨fun w' hw => by
      have hc0 : w'.cell? ⟨fb, 0, none⟩ = some (.slice pa p.length pc) := by
        rw [hw.cell (p := ⟨fb, 0, none⟩) hlt2]
        simp [World.cell?, e1]
      exact (three_any fb _ p t w' ((KP.out.later e5 (Nat.le_refl _)).later hw (Nat.le_refl _)) hc0 (Nat.lt_of_lt_of_le hlt2 (Below.size hw)) ht3 hl).mono fun e w'' hp2 => ⟨hp2.1, hw.on hp2.2⟩⟩
    have KE : Kept (∀ w', CC w2 w' → w'.ownsMap Try.prog 52 (plainElem Try.prog 3) mb n D) := ⟨fun w' hw => ownsMap_far e2 (hw.block _ e2.lt)⟩
    have hmb2 := e2.lt
    have hbl2 := (e3.lt bg rfl).2
    have K1 := Kept.mk (And.intro e1 (And.intro e3 (And.intro e4 e5)))
    clear e1 e2 e3 e4 e5
    refine wp_region_lastC (C := CC w2) _ 8 (by kernel_rfl) (by kernel_rfl) rfl rfl (Below.refl _ _).drew ?_
    simp only [List.take_succ_cons, List.take_zero]
    go_big_quiet_step ((intro _; rfl))
    go_big_quiet_step ((intro _; rfl))
    go_big_quiet_step ((intro _; rfl))
    refine BigFrame.wpQuiet_want rfl (fun K hK => quiet_run (v := .map (some mb)) (fun W hW => by have hcm := KC1.out W hW; go_simp) (hK _ ?_))
    clear hK K
    simp only [Act.put, List.setIfInBounds_toArray, List.set_cons_zero, List.set_cons_succ]
    go_big_quiet_step ((intro _; rfl))
    go_big_quiet_step ((intro _; rfl))
    go_big_quiet_step ((intro hCw; exact KT.out _ hCw))
    go_big_quiet_step ((intro _; rfl))
    refine wpQuiet_nil ?_
    intro w3 hw3
    have hwft : (Lit.int .i64 (t : Int)).wf = true := by
      have e1 : IntKind.i64.min = -9223372036854775808 := rfl
      have e2 : IntKind.i64.max = 9223372036854775807 := rfl
      simp only [Lit.wf, e1, e2, Bool.and_eq_true, decide_eq_true_eq]
      omega
    refine oper_mapUpdate w3 _ _ _ 45 rfl 52 3 keyed3 Try.underlying45 (plainElem Try.prog 3) mb n D rfl (KE.out w3 hw3) (by unfold maxLen; omega) _ _ _ rfl rfl (key_some _ (thL_length p t) (thL_all KA.out t)) _ _ (plainElem_int (H := Unit) (P := Try.prog) Try.underlying3 hwft) ?_
    intro w4 hown4 hgrow4
    have KZ : Kept (Fd W0 w4 fb mb (some bg) (.slice pa p.length pc) p (t + 1) ∧ Fq mb (some bg) w w4) := ⟨by
      obtain ⟨e1, e3, e4, e5⟩ := K1.out
      have hq := (Fq.below_ (mb := mb) (bb := some bg) hw3).trans (Fq.grown hgrow4)
      have hh := KH.out
      have hz3 := Below.size hw3
      have blk : ∀ k, k < w2.heap.size → k ≠ mb → w4.heap[k]? = w2.heap[k]? := fun k hk hne => by
        rw [hgrow4.block k (by omega) (fun e => hne (by injection e)), hw3.block k hk]
      refine ⟨⟨⟨_, bk.set t y, n + 1, _, by rw [blk fb hlt2 hh.fm]; exact e1, hown4, by omega, mapT_put K4.out KA.out ht3, e3.far fun g hg => blk g (e3.lt g hg).2 ?_, rfl, ?_⟩, hh.fge, hh.mge, hh.fm, hh.fbb, hh.mbb, ?_⟩, e4.trans hq⟩
      · intro e
        subst e
        simp [Value.ownBlock] at hg
        exact hmbg hg.symm
      · rw [← KY.out]
        exact bkT_set K7.out ht3
      · refine ⟨hgrow4.os.trans (hw3.os.trans e5.os), hgrow4.tape.trans (hw3.tape.trans e5.tape), hgrow4.output.trans (hw3.output.trans e5.output), ?_, fun k hk => ?_⟩
        · have := hgrow4.size; have := e5.size; omega
        · have := e5.size
          have := hh.mge
          rw [blk k (by omega) (by omega)]
          exact e5.block k hk⟩
    clear hown4 hgrow4 hw3 KE KT KC1 K1
    go_wp2
    refine bodyPost_end (results_none rfl _ _ _) rfl ?_
    exact ⟨rfl, KZ.out⟩
  · have hd0 : (p.length : Int) - (t : Int) < 3 := by omega
    have KZ : Kept (Fd W0 w fb mb bb (.slice pa p.length pc) p (t + 1)) := ⟨⟨backV, bk, n, D, h1, h2, by omega, mapT_skip h4 ht3, h5, h6, bkT_skip h7 ht3⟩, h.fge, h.mge, h.fm, h.fbb, h.mbb, h.bel⟩
    clear h h1 h2 h3 h4 h5 h6 h7 hp ha
    have hpl : (p.length : Int) ≤ 1073741824 := by omega
    go_enter Try.func25, Try.ntmps25
    go_wp2
    refine bodyPost_ret (results_none rfl _ _ _) rfl ?_
    exact ⟨rfl, KZ.out, Fq.refl _ _ _⟩
end Go.Proofs.Ytjijkcmbbccfmaa
