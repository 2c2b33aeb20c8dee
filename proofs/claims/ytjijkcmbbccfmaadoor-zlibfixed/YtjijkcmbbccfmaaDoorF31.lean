/-
  Walks: the finder's add.
-/
import Derived.Test.YtjijkcmbbccfmaaDoorF27
namespace Go.Proofs.YtjijkcmbbccfmaaDoor
open Go.RowKit Go.WideMaps

theorem oper_mapUpdate {H : Type} {P : Program} (w : World) {o : Oper} {a : Act} {K : Act → World → Prop} {Q : Exit → Act → World → Prop}
    (m x v : Operand) (t : TypeId) (hop : o.op = Op.mapUpdate t m x v)
    (k e : TypeId) (KK : Maps.Keyed P k) (ht : P.underlying t = some (.map k e)) (R : Value → Option (DataW H × List MemPlace)) (b n : Nat) (D : DataW H)
    (hm : a.eval m = .map (some b)) (hown : w.ownsMap P k R b n D) (hn : n < maxLen) (key val : Value) (kl : Lit) (hx : a.eval x = key) (hv : a.eval v = val) (hkey : keyOf P k key = some kl)
    (d : DataW H) (ps : List MemPlace) (hval : R val = some (d, ps))
    (hK : ∀ w', w'.ownsMap P k R b (n + 1) (D.put kl d) → w.grownBy w' (some b) → K (a.put o.dst undef) w') : Oper.wp P o a w K Q := by
  obtain ⟨w', hrun, r1, r2⟩ := hown.update KK ht hn hkey hval
  unfold Oper.wp
  simp [execOp, hop, hm, hx, hv, hrun, Result.andThen]
  exact hK w' r1 r2
theorem Fq.grown {mb : Nat} {bb : Option Nat} {w w' : World} (h : w.grownBy w' (some mb)) : Fq mb bb w w' := ⟨h.os, h.tape, h.output, h.size, fun k hk h1 _ => h.block k hk (fun e => h1 (by injection e))⟩
theorem Fq.below_ {mb : Nat} {bb : Option Nat} {w w' : World} (h : Below w.heap.size w w') : Fq mb bb w w' := ⟨h.os, h.tape, h.output, h.size, fun k hk _ _ => h.block k hk⟩

set_option maxHeartbeats 1000000 in
set_option maxRecDepth 100000 in
theorem add_any {W0 w : World} {fb mb : Nat} {bb : Option Nat} {pv : Value} {p : List Int} {t : Nat} (h : Fd W0 w fb mb bb pv p t) (hp : Rd .u8 anyB W0 pv p) (ha : AllB p) (ht : t < p.length) (hl : p.length ≤ 1073741824) :
    Calls Tryd.prog 44 #[.pointer (some ⟨fb, 0, none⟩), .int .i64 t] w fun e w' => e = .returned (.tuple #[]) ∧ Fd W0 w' fb mb bb pv p (t + 1) ∧ Fq mb bb w w' := by
  obtain ⟨backV, bk, n, D, h1, h2, h3, h4, h5, h6, h7⟩ := h.blk
  obtain ⟨pa, pc, rfl, -, -, -⟩ := hp.form
  have c0 : w.cell? ⟨fb, 0, none⟩ = some (.slice pa p.length pc) := by simp [World.cell?, h1]
  by_cases ht3 : t + 3 ≤ p.length
  · have hd0 : ¬ ((p.length : Int) - (t : Int) < 3) := by omega
    have hti : (t : Int) < (p.length : Int) := by omega
    have hpl : (p.length : Int) ≤ 1073741824 := by omega
    obtain ⟨ba, bc, rfl, -, -, -⟩ := h5.rd.form
    obtain ⟨bg, rfl, hbl, hbg, hbglt, hbc, hbf⟩ := h5.addrq (by rw [h7.1]; omega)
    have h71 := h7.1
    have hlt := h.lt
    have hbb : bb = some bg := by rw [← h6]; rfl
    subst hbb
    have hwz := h.bel.size
    have hfbg : fb ≠ bg := fun e => h.fbb (by rw [e])
    have hmbg : mb ≠ bg := fun e => h.mbb (by rw [e])
    have KC2 : Kept (∀ w', CC w w' → w'.cell? ⟨fb, 2, none⟩ = some (.slice (some ⟨bg, 0, none⟩) bk.length bc)) := ⟨fun w' hw => by
      rw [hw.cell (p := ⟨fb, 2, none⟩) hlt.1]
      simp [World.cell?, h1]⟩
    have KL : Kept (∀ w', CC w w' → Calls Tryd.prog 62 #[.pointer (some ⟨fb, 0, none⟩), .int .i64 t] w' fun e w'' => e = .returned (.int .i64 ((lsF p t t : Int) - 1)) ∧ CC w w'') := ⟨fun w' hw =>
      (lastLike_any t (h.later hw) ((hp.later h.bel (Nat.le_refl _)).later hw (Nat.le_refl _)) ha ht3 hl).mono fun e w'' hp2 => ⟨hp2.1, hw.on hp2.2⟩⟩
    have KX : Kept (∀ w', CC w w' → ∃ x, w'.cell? ⟨bg, t, none⟩ = some (.int .i64 x)) := ⟨fun w' hw => ⟨_, by
      rw [hw.cell (p := ⟨bg, t, none⟩) hbglt]
      exact hbc t (by rw [h71]; omega)⟩⟩
    have KF : Kept (∀ w', CC w w' → w'.frozen? ⟨bg, t, none⟩ = false) := ⟨fun w' hw => by
      have e := hw.block bg hbglt
      have := hbf t
      unfold World.frozen? at this ⊢
      simp only [e]
      exact this⟩
    have KS : Kept (∀ w', CC w w' → (w'.setCell ⟨bg, t, none⟩ (.int .i64 ((lsF p t t : Int) - 1))).heap[fb]? = some (.cells #[.slice pa p.length pc, .map (some mb), .slice (some ⟨bg, 0, none⟩) bk.length bc] 94) ∧ (w'.setCell ⟨bg, t, none⟩ (.int .i64 ((lsF p t t : Int) - 1))).ownsMap Tryd.prog 98 (plainElem Tryd.prog 3) mb n D ∧
        Own .i64 3 (w'.setCell ⟨bg, t, none⟩ (.int .i64 ((lsF p t t : Int) - 1))) W0.heap.size (.slice (some ⟨bg, 0, none⟩) bk.length bc) (bk.set t ((lsF p t t : Int) - 1)) ∧ Fq mb (some bg) w (w'.setCell ⟨bg, t, none⟩ (.int .i64 ((lsF p t t : Int) - 1))) ∧ Below W0.heap.size W0 (w'.setCell ⟨bg, t, none⟩ (.int .i64 ((lsF p t t : Int) - 1)))) := ⟨fun w' hw => by
      refine ⟨?_, ?_, ?_, ?_, ?_⟩
      · rw [Below.heap_setCell _ _ _ _ hfbg, hw.block fb hlt.1]
        exact h1
      · exact (ownsMap_far h2 (hw.block _ hlt.2.1)).setCell hmbg _
      · exact (h5.later hw (Nat.le_refl _)).setq t _
      · exact (Fq.below_ hw).own t _
      · exact (h.bel.trans (hw.mono hwz)).setCell hbg _⟩
    have KH := Kept.mk h
    have K4 := Kept.mk h4
    have K7 := Kept.mk h7
    have KP := Kept.mk hp
    have KA := Kept.mk ha
    have hn3 : n ≤ t := h3
    have hbk : (t : Int) < (bk.length : Int) := by rw [h71]; omega
    clear h h1 h2 h3 h4 h5 h6 h7 hp ha hbc hbf hlt hbl
    obtain ⟨y, hy⟩ : ∃ y : Int, (lsF p t t : Int) - 1 = y := ⟨_, rfl⟩
    rw [hy] at KL KS
    have KY := Kept.mk hy
    clear hy
    go_enter Tryd.func44, Tryd.ntmps44
    go_upto_region 1 with fail
    refine wp_region_lastC (C := CC w) _ 9 (by kernel_rfl) (by kernel_rfl) rfl rfl (Below.refl _ _).drew ?_
    simp only [List.take_succ_cons, List.take_zero]
    go_big_quiet_step ((intro _; rfl))
    go_big_quiet_step ((intro _; rfl))
    go_big_quiet_step ((intro _; rfl))
    refine BigFrame.wpQuiet_want rfl (fun K hK => quiet_run (v := .slice (some ⟨bg, 0, none⟩) bk.length bc) (fun W hW => by have hcm := KC2.out W hW; go_simp) (hK _ ?_))
    clear hK K
    simp only [Act.put, List.setIfInBounds_toArray, List.set_cons_zero, List.set_cons_succ]
    go_big_quiet_step ((intro _; rfl))
    go_big_quiet_step ((intro _; rfl))
    go_big_quiet_step ((intro _; rfl))
    go_big_quiet_step ((intro hCw; exact KL.out _ hCw))
    go_big_quiet_step ((intro _; rfl))
    refine wpQuiet_nil ?_
    intro w1 hw1
    obtain ⟨x, hx⟩ := KX.out w1 hw1
    have hf := KF.out w1 hw1
    have hS := KS.out w1 hw1
    clear hw1 KX KF KS KL KC2
    have KS := Kept.mk hS
    clear hS
    go_upto_region 2 with fail
    obtain ⟨w2, hw2, hS2⟩ : ∃ w2, w1.setCell ⟨bg, t, none⟩ (.int .i64 y) = w2 ∧ w2.heap[fb]? = some (.cells #[.slice pa p.length pc, .map (some mb), .slice (some ⟨bg, 0, none⟩) bk.length bc] 94) ∧ w2.ownsMap Tryd.prog 98 (plainElem Tryd.prog 3) mb n D ∧
        Own .i64 3 w2 W0.heap.size (.slice (some ⟨bg, 0, none⟩) bk.length bc) (bk.set t y) ∧ Fq mb (some bg) w w2 ∧ Below W0.heap.size W0 w2 := ⟨_, rfl, KS.out⟩
    rw [hw2]
    clear hw2 KS hx hf w1 x c0
    obtain ⟨e1, e2, e3, e4, e5⟩ := hS2
    have hlt2 := heap_lt e1
    have KC1 : Kept (∀ w', CC w2 w' → w'.cell? ⟨fb, 1, none⟩ = some (.map (some mb))) := ⟨fun w' hw => by
      rw [hw.cell (p := ⟨fb, 1, none⟩) hlt2]
      simp [World.cell?, e1]⟩
    have KT : Kept (∀ w', CC w2 w' → Calls Tryd.prog 66 #[.pointer (some ⟨fb, 0, none⟩), .int .i64 t] w' fun e w'' => e = .returned (aggF (thL p t)) ∧ CC w2 w'') := ⟨fun w' hw => by
      have hc0 : w'.cell? ⟨fb, 0, none⟩ = some (.slice pa p.length pc) := by
        rw [hw.cell (p := ⟨fb, 0, none⟩) hlt2]
        simp [World.cell?, e1]
      exact (three_any fb _ p t w' ((KP.out.later e5 (Nat.le_refl _)).later hw (Nat.le_refl _)) hc0 (Nat.lt_of_lt_of_le hlt2 (Below.size hw)) ht3 hl).mono fun e w'' hp2 => ⟨hp2.1, hw.on hp2.2⟩⟩
    have KE : Kept (∀ w', CC w2 w' → w'.ownsMap Tryd.prog 98 (plainElem Tryd.prog 3) mb n D) := ⟨fun w' hw => ownsMap_far e2 (hw.block _ e2.lt)⟩
    have hmb2 := e2.lt
    have hbl2 := (e3.lt bg rfl).2
    have K1 := Kept.mk (And.intro e1 (And.intro e3 (And.intro e4 e5)))
    clear e1 e2 e3 e4 e5
    refine wp_region_lastC (C := CC w2) _ 8 (by kernel_rfl) (by kernel_rfl) rfl rfl (Below.refl _ _).drew ?_
    simp only [List.take_succ_cons, List.take_zero]
    go_big_quiet_step ((intro _; rfl))
    go_big_quiet_step ((intro _; rfl))
    go_big_quiet_step ((intro _; rfl))
    refine BigFrame.wpQuiet_want rfl (fun K hK => quiet_run (v := .map (some mb)) (fun W hW => by have hcm := KC1.out W hW; go_simp) (hK _ ?_))
    clear hK K
    simp only [Act.put, List.setIfInBounds_toArray, List.set_cons_zero, List.set_cons_succ]
    go_big_quiet_step ((intro _; rfl))
    go_big_quiet_step ((intro _; rfl))
    go_big_quiet_step ((intro hCw; exact KT.out _ hCw))
    go_big_quiet_step ((intro _; rfl))
    refine wpQuiet_nil ?_
    intro w3 hw3
    have hwft : (Lit.int .i64 (t : Int)).wf = true := by
      have e1 : IntKind.i64.min = -9223372036854775808 := rfl
      have e2 : IntKind.i64.max = 9223372036854775807 := rfl
      simp only [Lit.wf, e1, e2, Bool.and_eq_true, decide_eq_true_eq]
      omega
    refine oper_mapUpdate w3 _ _ _ 92 rfl 98 3 keyed3 Tryd.underlying92 (plainElem Tryd.prog 3) mb n D rfl (KE.out w3 hw3) (by unfold maxLen; omega) _ _ _ rfl rfl (key_some _ (thL_length p t) (thL_all KA.out t)) _ _ (plainElem_int (H := Unit) (P := Tryd.prog) Tryd.underlying3 hwft) ?_
    intro w4 hown4 hgrow4
    have KZ : Kept (Fd W0 w4 fb mb (some bg) (.slice pa p.length pc) p (t + 1) ∧ Fq mb (some bg) w w4) := ⟨by
      obtain ⟨e1, e3, e4, e5⟩ := K1.out
      have hq := (Fq.below_ (mb := mb) (bb := some bg) hw3).trans (Fq.grown hgrow4)
      have hh := KH.out
      have hz3 := Below.size hw3
      have blk : ∀ k, k < w2.heap.size → k ≠ mb → w4.heap[k]? = w2.heap[k]? := fun k hk hne => by
        rw [hgrow4.block k (by omega) (fun e => hne (by injection e)), hw3.block k hk]
      refine ⟨⟨⟨_, bk.set t y, n + 1, _, by rw [blk fb hlt2 hh.fm]; exact e1, hown4, by omega, mapT_put K4.out KA.out ht3, e3.far fun g hg => blk g (e3.lt g hg).2 ?_, rfl, ?_⟩, hh.fge, hh.mge, hh.fm, hh.fbb, hh.mbb, ?_⟩, e4.trans hq⟩
      · intro e
        subst e
        simp [Value.ownBlock] at hg
        exact hmbg hg.symm
      · rw [← KY.out]
        exact bkT_set K7.out ht3
      · refine ⟨hgrow4.os.trans (hw3.os.trans e5.os), hgrow4.tape.trans (hw3.tape.trans e5.tape), hgrow4.output.trans (hw3.output.trans e5.output), ?_, fun k hk => ?_⟩
        · have := hgrow4.size; have := e5.size; omega
        · have := e5.size
          have := hh.mge
          rw [blk k (by omega) (by omega)]
          exact e5.block k hk⟩
    clear hown4 hgrow4 hw3 KE KT KC1 K1
    go_wp2
    refine bodyPost_end (results_none rfl _ _ _) rfl ?_
    exact ⟨rfl, KZ.out⟩
  · have hd0 : (p.length : Int) - (t : Int) < 3 := by omega
    have KZ : Kept (Fd W0 w fb mb bb (.slice pa p.length pc) p (t + 1)) := ⟨⟨backV, bk, n, D, h1, h2, by omega, mapT_skip h4 ht3, h5, h6, bkT_skip h7 ht3⟩, h.fge, h.mge, h.fm, h.fbb, h.mbb, h.bel⟩
    clear h h1 h2 h3 h4 h5 h6 h7 hp ha
    have hpl : (p.length : Int) ≤ 1073741824 := by omega
    go_enter Tryd.func44, Tryd.ntmps44
    go_wp2
    refine bodyPost_ret (results_none rfl _ _ _) rfl ?_
    exact ⟨rfl, KZ.out, Fq.refl _ _ _⟩

open Go.RowKit Go.WideMaps

set_option maxHeartbeats 2000000 in
set_option maxRecDepth 100000 in
theorem fmatch_any {W0 w : World} {fb mb : Nat} {bb : Option Nat} {pv : Value} {p : List Int} {i : Nat} (h : Fd W0 w fb mb bb pv p i) (hp : Rd .u8 anyB w pv p) (ha : AllB p) (hi : i < p.length) (hl : p.length ≤ 1073741824) :
    Calls Tryd.prog 40 #[.pointer (some ⟨fb, 0, none⟩), .int .i64 i] w fun e w' => e = .returned (.tuple #[.int .i64 (mchF p i).1, .int .i64 (mchF p i).2]) ∧ Below w.heap.size w w' := by
  obtain ⟨backV, bk, n, D, h1, h2, h3, h4, h5, h6, h7⟩ := h.blk
  obtain ⟨b, off, pc, rfl, hb, -, -, -, hcells⟩ := hp.open (by omega)
  obtain ⟨ba, bc, rfl, -, -, -⟩ := h5.rd.form
  obtain ⟨bg, rfl, hbl, hbg, hbglt, hbc, hbf⟩ := h5.addrq (by rw [h7.1]; omega)
  have hlt := h.lt.1
  have c0 : w.cell? ⟨fb, 0, none⟩ = some (.slice (some ⟨b, off, none⟩) p.length pc) := by simp [World.cell?, h1]
  have hpl : (p.length : Int) ≤ 1073741824 := by omega
  obtain ⟨F, hF⟩ : ∃ F, min 258 (p.length - i) = F := ⟨_, rfl⟩
  have hFi : (if (p.length : Int) - (i : Int) < 258 then (p.length : Int) - (i : Int) else 258) = (F : Int) := by split <;> omega
  have hF1 : F ≤ 258 := by omega
  have hF2 : i + F ≤ p.length := by omega
  by_cases h3F : F < 3
  · have KE : Kept (mchF p i = (0, 0)) := ⟨mchF_short (by omega)⟩
    have h3Fi : (F : Int) < 3 := by omega
    clear h h1 h2 h3 h4 h5 h6 h7 hp ha hbc hbf hcells
    go_enter Tryd.func40, Tryd.ntmps40
    go_wp2
    go_ret2
    rw [KE.out]
    exact ⟨rfl, Below.refl _ _⟩
  · have h3Fi : ¬ (F : Int) < 3 := by omega
    have hi3 : i + 3 ≤ p.length := by omega
    have KL := Kept.mk (lastLike_any i h hp ha hi3 hl)
    have h71 := h7.1
    have KB : Kept (∀ d, d < i → d + 3 ≤ p.length → w.cell? ⟨bg, d, none⟩ = some (.int .i64 ((lsF p d d : Int) - 1))) := ⟨fun d hd hd3 => by
      rw [hbc d (by rw [h71]; omega), h7.2 d hd hd3]⟩
    have c2 : w.cell? ⟨fb, 2, none⟩ = some (.slice (some ⟨bg, 0, none⟩) bk.length bc) := by simp [World.cell?, h1]
    have KC := Kept.mk (And.intro c0 (And.intro c2 hcells))
    have KP := Kept.mk hp
    have KS : Kept (∀ d, snF p i d = cmF p F i d) := ⟨fun d => by unfold snF; rw [hF]⟩
    have KM : Kept (∀ c best far : Nat, F ≤ best → mtF p i c best far = (best, far)) := ⟨fun c best far hb => mtF_most p i c best far (by omega)⟩
    clear h h1 h2 h3 h4 h5 h6 h7 hp ha hbc hbf hcells c2 hF
    go_enter Tryd.func40, Tryd.ntmps40
    go_upto_region 2 with fail
    clear hFi
    go_wp2_with (go_at_call 62; refine Calls.mono KL.out (fun e w1 hp => ?_); obtain ⟨rfl, hb1⟩ := hp; have KB1 := Kept.mk hb1; clear hb1)
    go_loopw [4, 5, 7] (fun bv fv jv wr => ∃ best far c : Nat, bv = .int .i64 best ∧ fv = .int .i64 far ∧ jv = .int .i64 ((c : Int) - 1) ∧ c ≤ i ∧ (∀ d, c = d + 1 → Lk p i d) ∧ best < F ∧ mtF p i c best far = mchF p i ∧ Below w.heap.size w wr) (fun _ _ jv _ => (intOf jv + 1).toNat)
    case atStart => exact ⟨0, 0, lsF p i i, rfl, rfl, rfl, lsF_le p i i, fun d hd => lsF_lk p i hd, by omega, mchF_start p i, KB1.out⟩
    case round =>
      obtain ⟨best, far, c, rfl, rfl, rfl, hc, hlk, hbest, he, hbel⟩ := hrel
      have KBel := Kept.mk hbel
      clear hbel
      by_cases h0 : c = 0
      · subst h0
        have KE : Kept (mchF p i = (best, far)) := ⟨by rw [← he, mtF]⟩
        clear he hlk
        go_wp2
        go_ret2
        rw [KE.out]
        exact ⟨rfl, KBel.out⟩
      · obtain ⟨d, rfl⟩ : ∃ d, c = d + 1 := ⟨c - 1, by omega⟩
        have hLk := hlk d rfl
        clear hlk
        rw [show ((d + 1 : Nat) : Int) - 1 = (d : Int) from by omega]
        have hdi : d < i := by omega
        have hd3 : d + 3 ≤ p.length := hLk.1
        have hdne : ¬ (d : Int) = -1 := by omega
        by_cases h3d : i - d ≤ 32768
        · have hd1 : decide ((i : Int) - (d : Int) ≤ 32768) = true := by simp; omega
          have hd1p : (i : Int) - (d : Int) ≤ 32768 := by omega
          obtain ⟨k0, k2, kc⟩ := KC.out
          have e0 : wr.cell? ⟨fb, 0, none⟩ = some (.slice (some ⟨b, off, none⟩) p.length pc) := by rw [KBel.out.cell (p := ⟨fb, 0, none⟩) hlt]; exact k0
          have e2 : wr.cell? ⟨fb, 2, none⟩ = some (.slice (some ⟨bg, 0, none⟩) bk.length bc) := by rw [KBel.out.cell (p := ⟨fb, 2, none⟩) hlt]; exact k2
          have ed : wr.cell? ⟨b, off + (d + best), none⟩ = some (.int .u8 (p.getD (d + best) 0)) := by rw [KBel.out.cell (p := ⟨b, off + (d + best), none⟩) hb]; exact kc (d + best) (by omega)
          have ei : wr.cell? ⟨b, off + (i + best), none⟩ = some (.int .u8 (p.getD (i + best) 0)) := by rw [KBel.out.cell (p := ⟨b, off + (i + best), none⟩) hb]; exact kc (i + best) (by omega)
          have eb : wr.cell? ⟨bg, d, none⟩ = some (.int .i64 ((lsF p d d : Int) - 1)) := by rw [KBel.out.cell (p := ⟨bg, d, none⟩) hbglt]; exact KB.out d hdi hd3
          have KCm : Kept (∀ m, Calls Tryd.prog 63 #[.pointer (some ⟨fb, 0, none⟩), .int .i64 d, .int .i64 i, .int .i64 F] (wr.drewN m) fun e w' => e = .returned (.int .i64 (snF p i d)) ∧ ∃ m', w' = (wr.drewN m).drewN m') := ⟨fun m => by
            rw [KS.out d]
            exact common_any fb _ p d i F (wr.drewN m) (KP.out.later (below_drewN KBel.out m) (Nat.le_refl _)) e0 hdi hF2 hl⟩
          clear k0 k2 kc
          have hwi : IntKind.i64.wrap ((i : Int) + (best : Int)) = (i : Int) + (best : Int) := by rw [IntKind.wrap_i64]; omega
          have hwd : IntKind.i64.wrap ((d : Int) + (best : Int)) = (d : Int) + (best : Int) := by rw [IntKind.wrap_i64]; omega
          have hx0 : (0 : Int) ≤ (i : Int) + (best : Int) := by omega
          have hy0 : (0 : Int) ≤ (d : Int) + (best : Int) := by omega
          have hii : (i : Int) + (best : Int) < (p.length : Int) := by omega
          have hdd : (d : Int) + (best : Int) < (p.length : Int) := by omega
          have hti : ((i : Int) + (best : Int)).toNat = i + best := by omega
          have htd : ((d : Int) + (best : Int)).toNat = d + best := by omega
          have hbk0 : (d : Int) < (bk.length : Int) := by omega
          have hls := lsF_le p d d
          have hlsk : Kept (∀ q, lsF p d d = q + 1 → Lk p i q) := ⟨fun q hq => by
            have := lsF_lk p d hq
            exact ⟨this.1, this.2.trans hLk.2⟩⟩
          by_cases heq : p.getD (d + best) 0 = p.getD (i + best) 0
          · have KW : Kept (snF p i d ≤ best → mtF p i (lsF p d d) best far = mchF p i) := ⟨fun hh => by rw [← he]; exact (mtF_worse hdi h3d hLk hh).symm⟩
            have KW2 : Kept (best < snF p i d → mtF p i (lsF p d d) (snF p i d) (i - d) = mchF p i) := ⟨fun hh => by rw [← he]; exact (mtF_better hdi h3d hi3 hLk hh).symm⟩
            have hsn : snF p i d ≤ F := by rw [KS.out d]; exact cmF_le p F i d
            rw [heq] at ed
            generalize p.getD (i + best) 0 = y at *
            generalize lsF p d d = q at *
            generalize snF p i d = s at *
            clear heq he hLk
            by_cases hsb : best < s
            · have hsbi : (best : Int) < (s : Int) := by omega
              by_cases hsF : s = F
              · subst hsF
                have KE : Kept (mchF p i = (s, i - d)) := ⟨by rw [← KW2.out hsb, KM.out _ _ _ (Nat.le_refl _)]⟩
                clear KW KW2
                go_upto_region 7 with fail
                go_quiet (fail)
                go_wp2_with (go_at_call 63; refine Calls.mono (KCm.out _) (fun e w2 hp => ?_); obtain ⟨rfl, m2, rfl⟩ := hp)
                go_ret2
                rw [KE.out]
                refine ⟨?_, below_drewN KBel.out _⟩
                have hid : ((i - d : Nat) : Int) = (i : Int) - (d : Int) := by omega
                rw [hid]
                rfl
              · have hsFi : ¬ (s : Int) = (F : Int) := by omega
                go_upto_region 7 with fail
                go_quiet (fail)
                go_wp2_with (go_at_call 63; refine Calls.mono (KCm.out _) (fun e w2 hp => ?_); obtain ⟨rfl, m2, rfl⟩ := hp)
                go_roundw
                case rel => exact ⟨s, i - d, q, rfl, by congr 1; omega, rfl, by omega, fun z hz => hlsk.out z hz, by omega, KW2.out hsb, below_drewN KBel.out _⟩
                case measure => simp [intOf]; omega
            · have hsbi : ¬ (best : Int) < (s : Int) := by omega
              have hbF : ¬ (best : Int) = (F : Int) := by omega
              go_upto_region 7 with fail
              go_quiet (fail)
              go_wp2_with (go_at_call 63; refine Calls.mono (KCm.out _) (fun e w2 hp => ?_); obtain ⟨rfl, m2, rfl⟩ := hp)
              go_roundw
              case rel => exact ⟨best, far, q, rfl, rfl, rfl, by omega, fun z hz => hlsk.out z hz, hbest, KW.out (by omega), below_drewN KBel.out _⟩
              case measure => simp [intOf]; omega
          · have KW : Kept (mtF p i (lsF p d d) best far = mchF p i) := ⟨by rw [← he]; exact (mtF_worse hdi h3d hLk (snF_ne heq)).symm⟩
            have hne : (p.getD (d + best) 0 == p.getD (i + best) 0) = false := by simpa using heq
            generalize p.getD (i + best) 0 = y at *
            generalize p.getD (d + best) 0 = x at *
            generalize lsF p d d = q at *
            clear he hLk KCm
            go_upto_region 7 with fail
            go_quiet (fail)
            go_wp2
            go_roundw
            case rel => exact ⟨best, far, q, rfl, rfl, rfl, by omega, fun z hz => hlsk.out z hz, hbest, KW.out, below_drewN KBel.out _⟩
            case measure => simp [intOf]; omega
        · have hd1 : decide ((i : Int) - (d : Int) ≤ 32768) = false := by simp; omega
          have hd1p : ¬ (i : Int) - (d : Int) ≤ 32768 := by omega
          have KE : Kept (mchF p i = (best, far)) := ⟨by rw [← he, mtF_far h3d]⟩
          clear he hLk
          go_wp2
          go_ret2
          rw [KE.out]
          exact ⟨rfl, KBel.out⟩

open Go.RowKit Go.WideMaps

theorem info64F : ∃ i, Tryd.prog.info? 3 = some i ∧ i.zero = some (.int .i64 0) ∧ i.size = 1 ∧ i.bytes = 8 := by
  have h : (Tryd.prog.info? 3).map (fun i => (i.zero, i.size, i.bytes)) = some (some (.int .i64 0), 1, 8) := by kernel_rfl
  cases h' : Tryd.prog.info? 3 with
  | none => rw [h'] at h; cases h
  | some i =>
    rw [h'] at h
    simp only [Option.map_some, Option.some.injEq, Prod.mk.injEq] at h
    exact ⟨i, rfl, h.1, h.2.1, h.2.2⟩
theorem made_ints (n : Nat) : (madeCells (Value.int .i64 0).cells (n * 1)).toList = cellsK .i64 (List.replicate n 0) := by
  have ec : (Value.int .i64 0).cells = #[.int .i64 0] := rfl
  rw [ec, Nat.mul_one]
  unfold madeCells cellsK
  rw [Array.toList_map, Array.toList_range, List.map_replicate]
  apply List.ext_getElem
  · simp
  · intro j h1 h2
    simp [Nat.mod_one]
theorem run_makeMapF (w : World) : (Instr.makeMap 92 none).run Tryd.prog w = .ok (.map (some w.heap.size)) (w.alloc (.map #[] 0)) := by
  simp [Instr.makeMap, newObj]
  rfl

set_option maxHeartbeats 1000000 in
set_option maxRecDepth 100000 in
theorem newFinder_any {W0 : World} (pv : Value) (p : List Int) (w : World) (hp : Rd .u8 anyB w pv p) (hl : p.length ≤ 16777216) (hbel : Below W0.heap.size W0 w) :
    Calls Tryd.prog 39 #[pv] w fun e w' => ∃ (fb mb : Nat) (bb : Option Nat), e = .returned (.pointer (some ⟨fb, 0, none⟩)) ∧ Fd W0 w' fb mb bb pv p 0 ∧ Below w.heap.size w w' ∧ w.heap.size ≤ fb ∧ w.heap.size ≤ mb ∧ ∀ k, bb = some k → w.heap.size ≤ k := by
  obtain ⟨pa, pc, rfl, -, -, -⟩ := hp.form
  obtain ⟨i0, hi, hz, hs, hb⟩ := info64F
  have hmm := run_makeMapF w
  have hown0 := Kept.mk (World.ownsMap_made (H := Unit) w Tryd.prog 98 (plainElem Tryd.prog 3))
  have hb1 : i0.bytes * p.length ≤ 281474976710656 := by rw [hb]; omega
  have hb2 : p.length ≤ maxLen := by unfold maxLen; omega
  have hwz := hbel.size
  have KW := Kept.mk hbel
  have hz1 : W0.heap.size ≤ (w.alloc (.map #[] 0)).heap.size := by simp; omega
  clear hp hbel
  go_enter Tryd.func39, Tryd.ntmps39
  go_wp2_with (at_make; refine wpList_make_full _ rfl _ _ 49 rfl W0.heap.size 3 i0 (.int .i64 0) 1 Tryd.underlying49 hi hz hs .i64 .i64 (p.length : Int) (p.length : Int) p.length rfl rfl rfl rfl hb1 hb2 hz1 ?_; intro w2 hown hgrow; have KO := Kept.mk hown; have KG := Kept.mk hgrow; clear hown hgrow)
  have ho : Own .i64 3 w2 W0.heap.size (.slice (some ⟨w.heap.size + 1, 0, none⟩) p.length p.length) (List.replicate p.length 0) := by
    have h1 := KO.out
    rw [made_ints] at h1
    unfold Own
    rw [List.length_replicate]
    have e : (w.alloc (.map #[] 0)).heap.size = w.heap.size + 1 := by simp
    rw [e] at h1
    exact h1
  have hlt2 : w.heap.size + 1 < w2.heap.size := (ho.lt _ rfl).2
  have hBa := (Below.refl w.heap.size w).alloc (Nat.le_refl _) (.map #[] 0)
  have hB2 : Below w.heap.size w w2 := hBa.grown KG.out (by simp) (by intro k hk; cases hk)
  have hm2 := KG.out.block w.heap.size (by simp) (by simp)
  have KZ : Kept (∀ o : Obj, o = .cells #[.slice pa p.length pc, .map (some w.heap.size), .slice (some ⟨w.heap.size + 1, 0, none⟩) p.length p.length] 94 → Fd W0 (w2.alloc o) w2.heap.size w.heap.size (some (w.heap.size + 1)) (.slice pa p.length pc) p 0 ∧ Below w.heap.size w (w2.alloc o)) := ⟨fun o hoo => by
    subst hoo
    refine ⟨⟨⟨_, List.replicate p.length 0, 0, .map [], heap_alloc_new _ _, (ownsMap_far hown0.out hm2).alloc _, Nat.le_refl _, mapT_empty p, ho.alloc _, rfl, by simp, fun c hc => absurd hc (by omega)⟩, by omega, by omega, by omega, by simp; omega, by simp, ?_⟩, hB2.alloc (by omega) _⟩
    exact (KW.out.trans (hB2.mono hwz)).alloc (by omega) _⟩
  clear hown0 KO KG ho hBa hB2 hm2
  go_ret
  exact ⟨_, _, _, rfl, (KZ.out _ rfl).1, (KZ.out _ rfl).2, by omega, by omega, fun k hk => by injection hk; omega⟩
end Go.Proofs.YtjijkcmbbccfmaaDoor
