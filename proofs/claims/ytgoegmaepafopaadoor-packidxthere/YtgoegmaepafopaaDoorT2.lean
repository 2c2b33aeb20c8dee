/-
  PackidxThere's walk. (By tools/gen_pxt2.py.)
-/
import Derived.Test.YtgoegmaepafopaaDoorT1
namespace Go.Proofs.YtgoegmaepafopaaDoor
open Go.RowKit Go.Sort

theorem wp_of_run {P : Program} {o : Oper} {a : Act} {w : World} {K : Act → World → Prop} {Q : Exit → Act → World → Prop} {v : Value} (h : (execOp a.eval o).run P w = .ok (.value v) w) (hk : K (a.put o.dst v) w) : o.wp P a w K Q := by
  unfold Oper.wp
  rw [h]
  exact hk
theorem wp_buildR {o : Oper} {a : Act} {w : World} {K : Act → World → Prop} {Q : Exit → Act → World → Prop} (t : TypeId) (o1 o2 o3 : Operand) (ho : o.op = .build t #[(0, o1), (1, o2), (2, o3)])
    (ht : ∀ X Y Z, Tryd.prog.built t [(0, X), (1, Y), (2, Z)] = Instr.fill ((#[(0, 32), (32, 1), (33, 1)] : Array (Nat × Nat))[·]?) z34.toArray [(0, X), (1, Y), (2, Z)])
    (IL : List Value) (hl : IL.length = 32) (c p : Int) (h1 : a.eval o1 = .agg IL.toArray) (h2 : a.eval o2 = .int .u32 c) (h3 : a.eval o3 = .int .u64 p) {R : List Value} (hR : IL ++ [Value.int .u32 c, Value.int .u64 p] = R)
    (h : K (a.put o.dst (.agg R.toArray)) w) : o.wp Tryd.prog a w K Q := by
  have hb : Tryd.prog.built t [(0, Value.agg IL.toArray), (1, Value.int .u32 c), (2, Value.int .u64 p)] = some (IL ++ [Value.int .u32 c, Value.int .u64 p]).toArray := by
    rw [ht]
    exact fill_row IL _ _ hl rfl rfl
  have hr := run_build (P := Tryd.prog) w t #[(0, Value.agg IL.toArray), (1, Value.int .u32 c), (2, Value.int .u64 p)] _ hb
  unfold Oper.wp execOp
  simp only [ho, Sem.run_bind, List.map_toArray, List.map_cons, List.map_nil, h1, h2, h3, hr, Result.andThen_ok]
  rw [hR]
  exact h
theorem range_of_block {w : World} {b : Nat} {cs : List Value} {t : TypeId} (h : w.heap[b]? = some (.cells cs.toArray t)) : w.rangeAt b 0 cs := fun j u hu => by
  rw [Nat.zero_add, cell_of_row w _ j _ _ (0, 0) h]
  simpa using hu
theorem any_take {rs : List RowC} {k : Nat} (hk : k < rs.length) (f : RowC → Bool) : (rs.take (k + 1)).any f = ((rs.take k).any f || f (rowI rs k)) := by
  rw [List.take_add_one, List.getElem?_eq_getElem hk, rowI_get hk, List.any_append]
  simp

set_option maxHeartbeats 8000000 in
set_option maxRecDepth 100000 in
theorem there_any (v : Value) (rs : List RowC) (pk ot : List Int) (w : World) (hT : Sh.Tab w Sh.ksK) (hr : RdR w v rs) (hp : pk.length = 32) (hA : AllB pk) (ho : ot.length = 32) (hAo : AllB ot) :
    Calls Tryd.prog 4 #[v, .agg (cellsK .u8 pk).toArray, .agg (cellsK .u8 ot).toArray] w fun e w' => e = .returned (.bool true) ∧ Below w.heap.size w w' := by
  obtain ⟨wa, hwa, hBa, hsa, hbka⟩ := box_id w pk
  obtain ⟨w1, hw1, hBb, hsb, hbkb⟩ := box_id wa ot
  have hB1 : Below w.heap.size w w1 := hBa.trans (hBb.mono hBa.size)
  have hbk1 := hbka.far hBb (by omega)
  have hps : (cellsK .u8 pk).toArray.size = 32 := by rw [List.size_toArray, cellsK_length, hp]
  have hos : (cellsK .u8 ot).toArray.size = 32 := by rw [List.size_toArray, cellsK_length, ho]
  have KPi := Kept.mk (id_infoL hp)
  have KOi := Kept.mk (id_infoL ho)
  have KA := Kept.mk hA
  have KAo := Kept.mk hAo
  have KT := Kept.mk hT
  have KAw := Kept.mk (awake_any w1 (Tab.later hT hB1 (Nat.le_refl _)))
  have KB1 := Kept.mk hB1
  have KP1 := Kept.mk hbk1
  have KQ1 := Kept.mk hbkb
  have KBA := Kept.mk (bldL_allB hr.ok hA)
  have KBl := Kept.mk (bldL_len hr.ok hp)
  have KOk := Kept.mk hr.ok
  have KH := Kept.mk hr
  have hu29 := Tryd.underlying24
  have KEq : Kept (∀ W, (Op.equalIn 10000 24 (.agg (cellsK .u8 pk).toArray) (.agg (cellsK .u8 pk).toArray)).run Tryd.prog W = .ok true W) := ⟨fun W => by rw [eq_id W 9998 hp hp, decide_eq_true rfl]⟩
  have KEo : Kept (∀ (r : RowC) W, r.ok → (Op.equalIn 10000 24 (.agg (cellsK .u8 r.ids).toArray) (.agg (cellsK .u8 ot).toArray)).run Tryd.prog W = .ok (decide (r.ids = ot)) W) := ⟨fun r W h => eq_id W 9998 h.1 ho⟩
  have KDB : Kept (∀ (V : Value) (W : World), Sh.Tab W Sh.ksK → RdR W V rs → Calls Tryd.prog 13 #[V, .agg (cellsK .u8 pk).toArray] W fun e w' => ∃ v', e = .returned (.tuple #[v', .int .i64 (bldE rs)]) ∧ Own .u8 5 w' W.heap.size v' (bldL rs pk) ∧ Below W.heap.size W w') := ⟨fun V W hT h => build_any V rs pk W hT h hp hA⟩
  have KDR : Kept (∀ (V : Value) (W : World), Sh.Tab W Sh.ksK → RdR W V rs.reverse → Calls Tryd.prog 13 #[V, .agg (cellsK .u8 pk).toArray] W fun e w' => ∃ v', e = .returned (.tuple #[v', .int .i64 (bldE rs)]) ∧ Own .u8 5 w' W.heap.size v' (bldL rs pk) ∧ Below W.heap.size W w') := ⟨fun V W hT h => by rw [← bldE_rev, ← bldL_rev]; exact build_any V rs.reverse pk W hT h hp hA⟩
  have KE0 : Kept (bldE rs = 0 → (prsE (bldL rs pk) = 0 ∧ prsL (bldL rs pk) = sortF rs ∧ prsP (bldL rs pk) = pk) ∧ (∀ x ∈ rs, fndE (bldL rs pk) x.ids = 0 ∧ ∀ r, r ∈ prsL (bldL rs pk) → r.ids = x.ids → r = x) ∧ fndE (bldL rs pk) ot = if rs.any (fun r => decide (r.ids = ot)) = true then 0 else 7) := ⟨fun h => ⟨parseBA hr.ok hp h, fun x hx => fnd_there hr.ok hp h hx, fnd_other hr.ok hp h ot⟩⟩
  have KEn : Kept (bldE rs ≠ 0 → bldL rs pk = []) := ⟨fun h => by unfold bldL; rw [if_neg h]⟩
  obtain ⟨a, c, rfl, -, -, -, -, -⟩ := hr
  clear hB1 hbk1 hbkb hbka hA hT hBa hBb hsa hsb hAo
  obtain ⟨IL, hIL⟩ : ∃ IL, cellsK .u8 pk = IL := ⟨_, rfl⟩
  obtain ⟨OL, hOL⟩ : ∃ OL, cellsK .u8 ot = OL := ⟨_, rfl⟩
  have KIL := Kept.mk hIL
  have KOL := Kept.mk hOL
  have Kpp : Kept (pk.length = 32 ∧ ot.length = 32) := ⟨hp, ho⟩
  rw [hIL] at hwa hps KPi KEq KDB KDR
  rw [hOL] at hw1 hos KOi KEo
  rw [hIL, hOL]
  generalize bldE rs = E at *
  generalize hBg : bldL rs pk = B at *
  clear hBg hp ho
  go_enter Tryd.func4, Tryd.ntmps4
  go_wp2_with fail
  refine Calls.mono KAw.out (fun e w2 hp2 => ?_)
  obtain ⟨rfl, hb2⟩ := hp2
  have hB2 := KB1.out.trans (hb2.mono KB1.out.size)
  have KB2 := Kept.mk hB2
  have KR2 := Kept.mk (KH.out.later hB2 (Nat.le_refl _))
  have KRg : Kept (∀ W, Below w2.heap.size w2 W → W.rangeAt w.heap.size 0 IL) := ⟨fun W hW => by
    rw [← KIL.out]
    exact (KP1.out.far (hb2.trans (hW.mono hb2.size)) KP1.out.lt).range⟩
  have KRo : Kept (∀ W, Below w2.heap.size w2 W → W.rangeAt wa.heap.size 0 OL) := ⟨fun W hW => by
    rw [← KOL.out]
    exact (KQ1.out.far (hb2.trans (hW.mono hb2.size)) KQ1.out.lt).range⟩
  clear hb2 hB2 KAw KP1 KQ1 KB1 KH hw1 hwa hIL hOL
  by_cases hl : 100 < rs.length
  · have hli : (100 : Int) < (rs.length : Int) := by omega
    go_wp2
    go_ret
    exact ⟨rfl, KB2.out⟩
  · have hli : ¬ (100 : Int) < (rs.length : Int) := by omega
    have Kl : Kept (rs.length ≤ 100) := ⟨by omega⟩
    clear hl
    have KRg0 := KRg.out w2.drew (Below.refl _ w2).drew
    have KRw := Kept.mk (rows_any _ rs w2.drew (KR2.out.later (Below.refl w2.heap.size w2).drew (Nat.le_refl _)) (by omega))
    go_wp2_with fail
    clear hli
    refine wp_region_noPanic ?_
    refine wp_region_held_drew (S := fun W => W.rangeAt w.heap.size 0 IL) (by kernel_rfl) KRg0 (fun hHeld => ?_)
    refine wpAnyH_takeD (i := 0) (d := some 25) (v := .slice a rs.length c) rfl rfl (by kernel_rfl) (by kernel_rfl) (by kernel_rfl) (fun _ _ _ h => h) (Or.inl ⟨by rfl, fun W hSw => by (try dsimp only at hSw); go_simp⟩) (by assumption) ?_
    simp only [Act.put, List.setIfInBounds_toArray, List.set_cons_zero, List.set_cons_succ]
    refine wpAnyH_takeD (i := 2) (d := some 27) (v := .agg IL.toArray) rfl rfl (by kernel_rfl) (by kernel_rfl) (by kernel_rfl) (fun _ _ _ h => h) (yieldsIf_load_mid (by rfl) _ _ rfl _ _ rfl IL _ (fun W hSw => hSw) hu29 rfl KPi.out) (by assumption) ?_
    simp only [Act.put, List.setIfInBounds_toArray, List.set_cons_zero, List.set_cons_succ]
    refine wpAnyH_ready (rs := [1]) (by kernel_rfl) (by simp) ?_
    refine AllReadyH.cons (o := _) rfl (fun K hK => ?_) AllReadyH.nil
    go_simp
    refine Calls.mono KRw.out (fun e w3 hp3 => ?_)
    obtain ⟨v3, rfl, hO3, hb3⟩ := hp3
    have hb23 : Below w2.heap.size w2 w3 := (Below.refl _ w2).drew.trans hb3
    have hB3 := KB2.out.trans (hb23.mono KB2.out.size)
    have KC := Kept.mk (KDB.out v3 w3 (Tab.later KT.out hB3 (Nat.le_refl _)) hO3.rdR)
    have KB23 := Kept.mk hb23
    have hRg3 := KRg.out w3 hb23
    have KB3 := Kept.mk hB3
    clear hb23 hB3
    refine hK.out _ _ hRg3 (fun hHeld1 => ?_)
    clear hK K hHeld hO3 hb3 hRg3 KRw
    refine wpAnyH_ready (rs := [3]) (by kernel_rfl) (by simp) ?_
    refine AllReadyH.cons (o := _) rfl (fun K hK => ?_) AllReadyH.nil
    go_simp
    refine Calls.mono KC.out (fun e w4 hp4 => ?_)
    obtain ⟨v4, rfl, hO4, hb4⟩ := hp4
    have hb24 := KB23.out.trans (hb4.mono KB23.out.size)
    have KB4 := Kept.mk (KB3.out.trans (hb4.mono KB3.out.size))
    have KO4 := Kept.mk hO4
    have KB24 := Kept.mk hb24
    have hRg4 := KRg.out w4 hb24
    clear hb24
    refine hK.out _ _ hRg4 (fun hHeld2 => ?_)
    clear hK K hHeld1 hO4 hb4 hRg4 KC
    refine wpAnyH_takeD (i := 4) (d := some 24) (v := .tuple #[v4, .int .i64 E]) rfl rfl (by kernel_rfl) (by kernel_rfl) (by kernel_rfl) (fun _ _ _ h => h) (Or.inl ⟨by rfl, fun W hSw => by (try dsimp only at hSw); go_simp⟩) (by assumption) ?_
    simp only [Act.put, List.setIfInBounds_toArray, List.set_cons_zero, List.set_cons_succ]
    refine wpAnyH_takeD (i := 5) (d := some 29) (v := v4) rfl rfl (by kernel_rfl) (by kernel_rfl) (by kernel_rfl) (fun _ _ _ h => h) (Or.inl ⟨by rfl, fun W hSw => by (try dsimp only at hSw); go_simp⟩) (by assumption) ?_
    simp only [Act.put, List.setIfInBounds_toArray, List.set_cons_zero, List.set_cons_succ]
    refine wpAnyH_takeD (i := 6) (d := some 30) (v := .int .i64 E) rfl rfl (by kernel_rfl) (by kernel_rfl) (by kernel_rfl) (fun _ _ _ h => h) (Or.inl ⟨by rfl, fun W hSw => by (try dsimp only at hSw); go_simp⟩) (by assumption) ?_
    simp only [Act.put, List.setIfInBounds_toArray, List.set_cons_zero, List.set_cons_succ]
    refine wpAnyH_takeD (i := 7) (d := some 7) (v := v4) rfl rfl (by kernel_rfl) (by kernel_rfl) (by kernel_rfl) (fun _ _ _ h => h) (Or.inl ⟨by rfl, fun W hSw => by (try dsimp only at hSw); go_simp⟩) (by assumption) ?_
    simp only [Act.put, List.setIfInBounds_toArray, List.set_cons_zero, List.set_cons_succ]
    refine wpAnyH_takeD (i := 8) (d := some 8) (v := .int .i64 E) rfl rfl (by kernel_rfl) (by kernel_rfl) (by kernel_rfl) (fun _ _ _ h => h) (Or.inl ⟨by rfl, fun W hSw => by (try dsimp only at hSw); go_simp⟩) (by assumption) ?_
    simp only [Act.put, List.setIfInBounds_toArray, List.set_cons_zero, List.set_cons_succ]
    refine wpAnyH_done (by kernel_rfl) ?_ _
    refine NoPanic.normal ?_
    clear hHeld2
    clear KRg0
    obtain ⟨a4, c4, rfl, -, -, -⟩ := KO4.out.rd.form
    by_cases hE : E = 0
    · subst hE
      obtain ⟨⟨q1, q2, q3⟩, q4, q5⟩ := KE0.out rfl
      have Kq1 := Kept.mk q1
      have Kq2 := Kept.mk q2
      have Kq3 := Kept.mk q3
      have Kq4 := Kept.mk q4
      have Kq5 := Kept.mk q5
      clear q1 q2 q3 q4 q5 KE0 KEn
      obtain ⟨i0, z0, hi, hz, hs, hb0, hc⟩ := infoR2
      have hln := Kl.out
      have e0 : IntKind.i64.wrap ((rs.length : Int) - 1) = (rs.length : Int) - 1 := wr64 (by omega) (by omega)
      clear hln
      go_wp2
      clear e0
      go_loopw [9, 10] (fun mv iv wr => ∃ (j : Nat) (i : Int), i = (j : Int) - 1 ∧ j ≤ rs.length ∧ iv = .int .i64 i ∧ OwnR 42 wr w4.heap.size mv (rs.reverse.take (rs.length - j)) ∧ Below w4.heap.size w4 wr) (fun _ iv _ => (intOf iv + 1).toNat)
      case atStart => exact ⟨rs.length, _, rfl, Nat.le_refl _, rfl, by rw [Nat.sub_self, List.take_zero]; exact OwnR.nil _ _ _, Below.refl _ _⟩
      case round =>
        obtain ⟨j, i, hij, hj, rfl, how, hbel⟩ := hrel
        have KBr := Kept.mk hbel
        obtain ⟨ma, mc, rfl, -⟩ := how.rdR
        by_cases hj0 : j = 0
        · obtain rfl : i = -1 := by omega
          subst hj0
          have KRv : Kept (OwnR 42 wr w4.heap.size (.slice ma (rs.reverse.take (rs.length - 0)).length mc) rs.reverse) := ⟨by
            have e : rs.reverse.take (rs.length - 0) = rs.reverse := by rw [Nat.sub_zero, ← List.length_reverse, List.take_length]
            rw [e] at how ⊢
            exact how⟩
          have hlr : (rs.reverse.take (rs.length - 0)).length = rs.length := by rw [Nat.sub_zero, List.length_take, List.length_reverse, Nat.min_self]
          rw [hlr] at KRv ⊢
          clear hlr how hbel hij hj
          have hb2r := KB24.out.trans (KBr.out.mono KB24.out.size)
          have KB2r := Kept.mk hb2r
          have KRg0 := KRg.out wr.drew hb2r.drew
          have KRw := Kept.mk (rows_any _ rs.reverse wr.drew (KRv.out.rdR.later (Below.refl wr.heap.size wr).drew (Nat.le_refl _)) (by rw [List.length_reverse]; have := Kl.out; omega))
          clear hb2r KRv
          go_wp2_with fail
          refine wp_region_noPanic ?_
          refine wp_region_held_drew (S := fun W => W.rangeAt w.heap.size 0 IL) (by kernel_rfl) KRg0 (fun hHeld => ?_)
          refine wpAnyH_takeD (i := 0) (d := some 51) (v := .slice ma rs.length mc) rfl rfl (by kernel_rfl) (by kernel_rfl) (by kernel_rfl) (fun _ _ _ h => h) (Or.inl ⟨by rfl, fun W hSw => by (try dsimp only at hSw); go_simp⟩) (by assumption) ?_
          simp only [Act.put, List.setIfInBounds_toArray, List.set_cons_zero, List.set_cons_succ]
          refine wpAnyH_takeD (i := 2) (d := some 53) (v := .agg IL.toArray) rfl rfl (by kernel_rfl) (by kernel_rfl) (by kernel_rfl) (fun _ _ _ h => h) (yieldsIf_load_mid (by rfl) _ _ rfl _ _ rfl IL _ (fun W hSw => hSw) hu29 rfl KPi.out) (by assumption) ?_
          simp only [Act.put, List.setIfInBounds_toArray, List.set_cons_zero, List.set_cons_succ]
          refine wpAnyH_ready (rs := [1]) (by kernel_rfl) (by simp) ?_
          refine AllReadyH.cons (o := _) rfl (fun K hK => ?_) AllReadyH.nil
          go_simp
          refine Calls.mono KRw.out (fun e w6 hp3 => ?_)
          obtain ⟨v3, rfl, hO3, hb3⟩ := hp3
          have hb46 : Below w4.heap.size w4 w6 := KBr.out.trans (((Below.refl _ wr).drew.trans hb3).mono KBr.out.size)
          have hb26 := KB24.out.trans (hb46.mono KB24.out.size)
          have hB6 := KB2.out.trans (hb26.mono KB2.out.size)
          have KC := Kept.mk (KDR.out v3 w6 (Tab.later KT.out hB6 (Nat.le_refl _)) hO3.rdR)
          have KB46 := Kept.mk hb46
          have KB26 := Kept.mk hb26
          have hRg3 := KRg.out w6 hb26
          clear hb46 hb26 hB6
          refine hK.out _ _ hRg3 (fun hHeld1 => ?_)
          clear hK K hHeld hO3 hb3 hRg3 KRw
          refine wpAnyH_ready (rs := [3]) (by kernel_rfl) (by simp) ?_
          refine AllReadyH.cons (o := _) rfl (fun K hK => ?_) AllReadyH.nil
          go_simp
          refine Calls.mono KC.out (fun e w7 hp4 => ?_)
          obtain ⟨v7, rfl, hO4, hb4⟩ := hp4
          have hb27 := KB26.out.trans (hb4.mono KB26.out.size)
          have KB27 := Kept.mk hb27
          have KB47 := Kept.mk (KB46.out.trans (hb4.mono KB46.out.size))
          have KO7 := Kept.mk hO4
          have hRg4 := KRg.out w7 hb27
          clear hb27
          refine hK.out _ _ hRg4 (fun hHeld2 => ?_)
          clear hK K hHeld1 hO4 hb4 hRg4 KC
          refine wpAnyH_takeD (i := 4) (d := some 50) (v := .tuple #[v7, .int .i64 0]) rfl rfl (by kernel_rfl) (by kernel_rfl) (by kernel_rfl) (fun _ _ _ h => h) (Or.inl ⟨by rfl, fun W hSw => by (try dsimp only at hSw); go_simp⟩) (by assumption) ?_
          simp only [Act.put, List.setIfInBounds_toArray, List.set_cons_zero, List.set_cons_succ]
          refine wpAnyH_takeD (i := 5) (d := some 55) (v := v7) rfl rfl (by kernel_rfl) (by kernel_rfl) (by kernel_rfl) (fun _ _ _ h => h) (Or.inl ⟨by rfl, fun W hSw => by (try dsimp only at hSw); go_simp⟩) (by assumption) ?_
          simp only [Act.put, List.setIfInBounds_toArray, List.set_cons_zero, List.set_cons_succ]
          refine wpAnyH_takeD (i := 6) (d := some 56) (v := .int .i64 0) rfl rfl (by kernel_rfl) (by kernel_rfl) (by kernel_rfl) (fun _ _ _ h => h) (Or.inl ⟨by rfl, fun W hSw => by (try dsimp only at hSw); go_simp⟩) (by assumption) ?_
          simp only [Act.put, List.setIfInBounds_toArray, List.set_cons_zero, List.set_cons_succ]
          refine wpAnyH_takeD (i := 7) (d := some 11) (v := v7) rfl rfl (by kernel_rfl) (by kernel_rfl) (by kernel_rfl) (fun _ _ _ h => h) (Or.inl ⟨by rfl, fun W hSw => by (try dsimp only at hSw); go_simp⟩) (by assumption) ?_
          simp only [Act.put, List.setIfInBounds_toArray, List.set_cons_zero, List.set_cons_succ]
          refine wpAnyH_takeD (i := 8) (d := some 8) (v := .int .i64 0) rfl rfl (by kernel_rfl) (by kernel_rfl) (by kernel_rfl) (fun _ _ _ h => h) (Or.inl ⟨by rfl, fun W hSw => by (try dsimp only at hSw); go_simp⟩) (by assumption) ?_
          simp only [Act.put, List.setIfInBounds_toArray, List.set_cons_zero, List.set_cons_succ]
          refine wpAnyH_done (by kernel_rfl) ?_ _
          refine NoPanic.normal ?_
          clear hHeld2
          clear KRg0
          have KS := Kept.mk (Sh.same_any _ v7 B B w7 (shRd (KO4.out.later KB47.out (Nat.le_refl _)).rd KBA.out) (shRd KO7.out.rd KBA.out))
          rw [decide_eq_true rfl] at KS
          clear KO7
          go_wp2_with fail
          refine Calls.mono KS.out (fun e w8 hp8 => ?_)
          obtain ⟨rfl, rfl⟩ := hp8
          clear KS
          have KP7 := Kept.mk (KO4.out.later KB47.out (Nat.le_refl _))
          go_wp2_with fail
          go_loopw [12, 67] (fun kv iv wr => ∃ (k : Nat) (bb : Bool), k ≤ rs.length ∧ bb = (rs.take k).any (fun r => decide (r.ids = ot)) ∧ kv = .bool bb ∧ iv = .int .i64 k ∧ Below w8.heap.size w8 wr) (fun _ iv _ => rs.length - (intOf iv).toNat)
          case atStart => exact ⟨0, false, Nat.zero_le _, rfl, rfl, rfl, Below.refl _ _⟩
          case round =>
            obtain ⟨k, bb, hk, hbb, rfl, rfl, hbel⟩ := hrel
            have Kbb := Kept.mk hbb
            have KBq := Kept.mk hbel
            have hBq := KB27.out.trans (hbel.mono KB27.out.size)
            have KB2q := Kept.mk hBq
            have hBw := KB2.out.trans (hBq.mono KB2.out.size)
            clear hbb
            by_cases hlt : k < rs.length
            · have hki : (k : Int) < (rs.length : Int) := by omega
              obtain ⟨a', c', hv', -, -, -, hok', hrd'⟩ := KR2.out.later hBq (Nat.le_refl _)
              obtain ⟨b, off, hab, hbl, hrg⟩ := hrd' (by omega)
              have haa : a = some ⟨b, off, none⟩ := by injection hv' with h1 _ _; rw [h1, hab]
              clear hv' hab hrd'
              subst haa
              have hoR := rowI_ok hok' hlt
              have hmem : rowI rs k ∈ rs := by rw [rowI_get hlt]; exact List.getElem_mem hlt
              have KR : Kept (wr.rangeAt b (off + k * 34) (rowI rs k).l) := ⟨hrg k hlt⟩
              obtain ⟨w9, hw9, hB9, hlt9, hh9, hcI, hcC, hcP, -⟩ := box_row wr 42 hoR
              have KL2 := Kept.mk (row_size hoR)
              have KI2 : Kept ((Tryd.prog.info? 42).map (·.size) = some (rowI rs k).l.toArray.size) := ⟨by rw [KL2.out]; exact info_row2⟩
              have KI : Kept ((Tryd.prog.info? 42).map (·.size) = some (rowI rs k).l.length) := ⟨by rw [RowC.len hoR]; exact info_row2⟩
              have KO : Kept ((rowI rs k).l.toArray.all (·.oneCell') = true) := ⟨all_oneCell_toArray (RowC.ones _)⟩
              have hB29 := hBq.trans (hB9.mono hBq.size)
              have hb79 := hbel.trans (hB9.mono hbel.size)
              have KF := Kept.mk (find_any _ B (rowI rs k).ids w9 (Tab.later KT.out (KB2.out.trans (hB29.mono KB2.out.size)) (Nat.le_refl _)) (KP7.out.later hb79 (Nat.le_refl _)).rd KBA.out (by have := KBl.out; omega) hoR.1 hoR.2.1)
              have KId : Kept (w9.rangeAt wr.heap.size 0 (cellsK .u8 (rowI rs k).ids)) := ⟨row_range32 (range_of_block hh9)⟩
              have KIi := Kept.mk (id_infoL hoR.1)
              have KIl : Kept ((cellsK .u8 (rowI rs k).ids).length = 32) := ⟨by rw [cellsK_length, hoR.1]⟩
              have KCL : Kept (cellsK .u8 (rowI rs k).ids ++ [.int .u32 (rowI rs k).crc, .int .u64 (rowI rs k).pl] = (rowI rs k).l) := ⟨rfl⟩
              have Kh9 := Kept.mk hh9
              have Klt := Kept.mk hlt9
              have KcC := Kept.mk hcC
              have KcP := Kept.mk hcP
              have KB9 := Kept.mk hB9
              have KB79 := Kept.mk hb79
              have Kq4' := Kept.mk (Kq4.out _ hmem)
              have Kok := Kept.mk hoR
              have KQe : Kept (∀ W, (Op.equalIn 10000 39 (.agg (rowI rs k).l.toArray) (.agg (rowI rs k).l.toArray)).run Tryd.prog W = .ok true W) := ⟨fun W => by rw [eq_row W 9997 fs1 hoR hoR, decide_eq_true rfl]⟩
              have KEk := Kept.mk (fun W => KEo.out (rowI rs k) W hoR)
              have Kan := Kept.mk (any_take hlt (fun r => decide (r.ids = ot)))
              have e2 : IntKind.i64.wrap ((k : Int) + 1) = (k : Int) + 1 := wr64 (by omega) (by have := Kl.out; omega)
              clear hbel hBq hBw hok' hrg hbl hB9 hlt9 hh9 hcI hcC hcP hB29 hb79 hmem hoR
              obtain ⟨CL, hCL⟩ : ∃ CL, (rowI rs k).l = CL := ⟨_, rfl⟩
              obtain ⟨RI, hRI⟩ : ∃ RI, cellsK .u8 (rowI rs k).ids = RI := ⟨_, rfl⟩
              have KrI := Kept.mk hRI
              have KrC := Kept.mk hCL
              rw [hCL] at hw9 KR KL2 KI2 KI KO KCL Kh9 KQe
              rw [hRI] at KF KId KIi KIl KCL KEk
              clear hCL hRI
              go_upto_region 20 with (first | (refine wpList_load_mid rfl 42 _ rfl b (off + k * 34) rfl CL _ KR.out Tryd.underlying42 rfl KI.out ?_) | (refine BigFrame.wpList_want rfl (fun K hK => wp_store_row 42 _ _ rfl wr.heap.size CL.toArray rfl rfl 42 _ (heap_alloc_new wr _) KI2.out (by rw [KL2.out]; rfl) KO.out (hK _ _ ?_)); rw [World.setRow_alloc_new]))
              try rw [hw9]
              clear hw9
              go_wp2_with (refine wpList_load_mid rfl 24 _ rfl wr.heap.size 0 rfl RI _ KId.out Tryd.underlying24 rfl KIi.out ?_)
              refine Calls.mono KF.out (fun e w10 hp10 => ?_)
              obtain ⟨r, rfl, hrok, hr0, -, hb10⟩ := hp10
              rw [Kq4'.out.1] at hr0 ⊢
              obtain ⟨hr1, hr2⟩ := hr0 rfl
              obtain rfl := Kq4'.out.2 r hr1 hr2
              clear hr0 hr1 hr2 hrok KF
              obtain ⟨w11, hw11, hB11, hlt11, hh11, -⟩ := box_row w10 39 Kok.out
              have hb911 := hb10.trans (hB11.mono hb10.size)
              have KId' : Kept (w11.rangeAt wr.heap.size 0 RI) := ⟨by
                have h9 : w11.heap[wr.heap.size]? = some (.cells CL.toArray 42) := by rw [hb911.block _ Klt.out]; exact Kh9.out
                rw [← KrI.out]
                rw [← KrC.out] at h9
                exact row_range32 (range_of_block h9)⟩
              have KRl : Kept (w11.rangeAt w10.heap.size 0 CL) := ⟨by rw [← KrC.out]; exact range_of_block hh11⟩
              have hcC := (hb911.cell (p := ⟨wr.heap.size, 32, none⟩) Klt.out).trans KcC.out
              have hcP := (hb911.cell (p := ⟨wr.heap.size, 33, none⟩) Klt.out).trans KcP.out
              have KI2' : Kept ((Tryd.prog.info? 39).map (·.size) = some CL.toArray.size) := ⟨by rw [KL2.out]; exact info_row1⟩
              have KI' : Kept ((Tryd.prog.info? 39).map (·.size) = some CL.length) := ⟨by rw [← KrC.out, RowC.len Kok.out]; exact info_row1⟩
              have KBk := Kept.mk (KB79.out.trans (hb911.mono KB79.out.size))
              have hBo := KB2q.out.trans ((KB9.out.trans (hb911.mono KB9.out.size)).mono KB2q.out.size)
              have KRo' := Kept.mk (KRo.out w11 hBo)
              clear hb10 hB11 hlt11 hh11 hb911 hBo
              rw [KrC.out] at hw11 ⊢
              clear Kq4' KB9 KB79 Kh9
              generalize (rowI rs k).crc = cr at *
              generalize (rowI rs k).pl = pl at *
              generalize hq : decide ((rowI rs k).ids = ot) = q at *
              clear hq
              go_upto_region 21 with (refine BigFrame.wpList_want rfl (fun K hK => wp_store_row 39 _ _ rfl w10.heap.size CL.toArray rfl rfl 39 _ (heap_alloc_new w10 _) KI2'.out (by rw [KL2.out]; rfl) KO.out (hK _ _ ?_)); rw [World.setRow_alloc_new])
              try rw [hw11]
              clear hw11
              go_upto_region 23 with (first | (refine BigFrame.wpList_want rfl (fun K hK => wp_load_mid 39 _ rfl w10.heap.size 0 rfl CL _ KRl.out Tryd.underlying39 rfl KI'.out (hK _ _ ?_))) | (refine BigFrame.wpList_want rfl (fun K hK => wp_load_mid 24 _ rfl wr.heap.size 0 rfl RI _ KId'.out Tryd.underlying24 rfl KIi.out (hK _ _ ?_))) | (refine BigFrame.wpList_want rfl (fun K hK => wp_buildR 39 _ _ _ rfl built1 RI KIl.out cr pl rfl rfl rfl KCL.out (hK _ _ ?_))) | (refine BigFrame.wpList_want rfl (fun K hK => wp_of_run (exec_neqR 39 Tryd.eqGuardType39 rfl rfl rfl (KQe.out _)) (hK _ _ ?_))))
              cases bb with
              | true =>
                go_wp2
                go_roundw
                case rel => exact ⟨k + 1, true, by omega, by rw [Kan.out, ← Kbb.out, Bool.true_or], rfl, by go_num, KBk.out⟩
                case measure => simp [intOf]; omega
              | false =>
                have hEk := KEk.out
                go_wp2_with (first | (refine BigFrame.wpList_want rfl (fun K hK => wp_load_mid 24 _ rfl wr.heap.size 0 rfl RI _ KId'.out Tryd.underlying24 rfl KIi.out (hK _ _ ?_))) | (refine BigFrame.wpList_want rfl (fun K hK => wp_load_mid 24 _ rfl wa.heap.size 0 rfl OL _ KRo'.out Tryd.underlying24 rfl KOi.out (hK _ _ ?_))))
                go_roundw
                case rel => exact ⟨k + 1, q, by omega, by rw [Kan.out, ← Kbb.out, Bool.false_or], rfl, by go_num, KBk.out⟩
                case measure => simp [intOf]; omega
            · have hki : ¬ (k : Int) < (rs.length : Int) := by omega
              obtain rfl : k = rs.length := by omega
              have Kbb' : Kept (bb = rs.any (fun r => decide (r.ids = ot))) := ⟨by have := Kbb.out; rwa [List.take_length] at this⟩
              have KOo := Kept.mk (KRo.out wr hBq)
              have KF := Kept.mk (find_any _ B ot wr (Tab.later KT.out hBw (Nat.le_refl _)) (KP7.out.later hbel (Nat.le_refl _)).rd KBA.out (by have := KBl.out; omega) Kpp.out.2 KAo.out)
              rw [KOL.out] at KF
              have KEE : Kept (fndE B ot = if bb = true then 0 else 7) := ⟨by rw [Kq5.out, Kbb'.out]⟩
              have KBw := Kept.mk hBw
              clear hbel hBq hBw hlt hk Kbb
              go_wp2_with (refine wpList_load_mid rfl 24 _ rfl wa.heap.size 0 rfl OL _ KOo.out Tryd.underlying24 rfl KOi.out ?_)
              clear hki
              refine Calls.mono KF.out (fun e w12 hp12 => ?_)
              obtain ⟨r, rfl, -, -, -, hb12⟩ := hp12
              rw [KEE.out]
              have hB12 := KBw.out.trans (hb12.mono KBw.out.size)
              have KB12 := Kept.mk hB12
              have hb712 := KBq.out.trans (hb12.mono KBq.out.size)
              have KC13 := Kept.mk (parse_any _ B w12 (Tab.later KT.out hB12 (Nat.le_refl _)) (KP7.out.later hb712 (Nat.le_refl _)).rd KBA.out (by have := KBl.out; omega))
              rw [Kq1.out, Kq2.out, Kq3.out, KIL.out] at KC13
              have hb212 := KB2q.out.trans (hb12.mono KB2q.out.size)
              have KB212 := Kept.mk hb212
              generalize r.l.toArray = RA
              clear hb12 hB12 hb712 hb212 KF
              have hTail : ∀ (bq : Bool), bb = bq → Kept (bb = bq) := fun _ h => ⟨h⟩
              clear hTail
              cases bb with
              | true =>
                go_wp2_with fail
                refine Calls.mono KC13.out (fun e w13 hp13 => ?_)
                obtain ⟨v13, rfl, hO13, hb13⟩ := hp13
                obtain ⟨w14, hw14, hB14, -, hbk14⟩ := box_id w13 pk
                rw [KIL.out] at hw14
                have hb1214 := hb13.trans (hB14.mono hb13.size)
                have KB1214 := Kept.mk hb1214
                have hB14' := KB12.out.trans (hb1214.mono KB12.out.size)
                have KB14 := Kept.mk hB14'
                have hb214 := KB212.out.trans (hb1214.mono KB212.out.size)
                have KZ : Kept (w14.rangeAt w13.heap.size 0 IL) := ⟨by rw [← KIL.out]; exact hbk14.range⟩
                have KPk := Kept.mk (KRg.out w14 hb214)
                have hsl : (sortF rs).length ≤ 1000000 := by rw [(sortF_perm rs).length_eq]; have := Kl.out; omega
                have Ksl := Kept.mk hsl
                have KC15 := Kept.mk (of_any v13 (sortF rs) w14 (hO13.later hB14 (Nat.le_refl _)).rdR (by omega))
                have KIz : Kept ((Tryd.prog.info? 24).map (·.size) = some IL.toArray.size) := ⟨by rw [← KIL.out]; exact id_info Kpp.out.1⟩
                have KIo : Kept (IL.toArray.all (·.oneCell') = true) := ⟨by rw [← KIL.out]; exact cellsK_all .u8 pk⟩
                have hEq := KEq.out
                have Kps := Kept.mk hps
                clear hO13 hb13 hB14 hbk14 hb1214 hB14' hb214 hsl KC13 hps hos
                go_upto_region 29 with (refine BigFrame.wpList_want rfl (fun K hK => wp_store_row 24 _ _ rfl w13.heap.size IL.toArray rfl rfl 24 _ (heap_alloc_new w13 _) KIz.out (by rw [Kps.out]; rfl) KIo.out (hK _ _ ?_)); rw [World.setRow_alloc_new])
                try rw [hw14]
                clear hw14
                go_wp2_with (first | (refine BigFrame.wpList_want rfl (fun K hK => wp_load_mid 24 _ rfl w13.heap.size 0 rfl IL _ KZ.out Tryd.underlying24 rfl KPi.out (hK _ _ ?_))) | (refine BigFrame.wpList_want rfl (fun K hK => wp_load_mid 24 _ rfl w.heap.size 0 rfl IL _ KPk.out Tryd.underlying24 rfl KPi.out (hK _ _ ?_))))
                refine Calls.mono KC15.out (fun e w15 hp15 => ?_)
                obtain ⟨v15, rfl, hO15, hb15⟩ := hp15
                have hB15 := KB14.out.trans (hb15.mono KB14.out.size)
                have KO15 := Kept.mk hO15
                have KB15 := Kept.mk hB15
                have hb1215 := KB1214.out.trans (hb15.mono KB1214.out.size)
                have KC16 := Kept.mk (sorted_any _ rs w15 (KR2.out.later (KB212.out.trans (hb1215.mono KB212.out.size)) (Nat.le_refl _)) (by have := Kl.out; omega))
                clear hO15 hb15 hB15 hb1215 KC15
                go_wp2_with fail
                refine Calls.mono KC16.out (fun e w16 hp16 => ?_)
                obtain ⟨v16, rfl, hO16, hb16⟩ := hp16
                have KB16 := Kept.mk (KB15.out.trans (hb16.mono KB15.out.size))
                have KC17 := Kept.mk (sameR_any v15 v16 (sortF rs) (sortF rs) w16 (KO15.out.later hb16 (Nat.le_refl _)).rdR hO16.rdR Ksl.out Ksl.out)
                rw [decide_eq_true rfl] at KC17
                clear hO16 hb16 KC16
                go_wp2_with fail
                refine Calls.mono KC17.out (fun e w17 hp17 => ?_)
                obtain ⟨rfl, hb17⟩ := hp17
                have KB17 := Kept.mk (KB16.out.trans (hb17.mono KB16.out.size))
                clear hb17
                go_wp2
                go_ret
                exact ⟨by simp, KB17.out⟩
              | false =>
                go_wp2_with fail
                refine Calls.mono KC13.out (fun e w13 hp13 => ?_)
                obtain ⟨v13, rfl, hO13, hb13⟩ := hp13
                obtain ⟨w14, hw14, hB14, -, hbk14⟩ := box_id w13 pk
                rw [KIL.out] at hw14
                have hb1214 := hb13.trans (hB14.mono hb13.size)
                have KB1214 := Kept.mk hb1214
                have hB14' := KB12.out.trans (hb1214.mono KB12.out.size)
                have KB14 := Kept.mk hB14'
                have hb214 := KB212.out.trans (hb1214.mono KB212.out.size)
                have KZ : Kept (w14.rangeAt w13.heap.size 0 IL) := ⟨by rw [← KIL.out]; exact hbk14.range⟩
                have KPk := Kept.mk (KRg.out w14 hb214)
                have hsl : (sortF rs).length ≤ 1000000 := by rw [(sortF_perm rs).length_eq]; have := Kl.out; omega
                have Ksl := Kept.mk hsl
                have KC15 := Kept.mk (of_any v13 (sortF rs) w14 (hO13.later hB14 (Nat.le_refl _)).rdR (by omega))
                have KIz : Kept ((Tryd.prog.info? 24).map (·.size) = some IL.toArray.size) := ⟨by rw [← KIL.out]; exact id_info Kpp.out.1⟩
                have KIo : Kept (IL.toArray.all (·.oneCell') = true) := ⟨by rw [← KIL.out]; exact cellsK_all .u8 pk⟩
                have hEq := KEq.out
                have Kps := Kept.mk hps
                clear hO13 hb13 hB14 hbk14 hb1214 hB14' hb214 hsl KC13 hps hos
                go_upto_region 29 with (refine BigFrame.wpList_want rfl (fun K hK => wp_store_row 24 _ _ rfl w13.heap.size IL.toArray rfl rfl 24 _ (heap_alloc_new w13 _) KIz.out (by rw [Kps.out]; rfl) KIo.out (hK _ _ ?_)); rw [World.setRow_alloc_new])
                try rw [hw14]
                clear hw14
                go_wp2_with (first | (refine BigFrame.wpList_want rfl (fun K hK => wp_load_mid 24 _ rfl w13.heap.size 0 rfl IL _ KZ.out Tryd.underlying24 rfl KPi.out (hK _ _ ?_))) | (refine BigFrame.wpList_want rfl (fun K hK => wp_load_mid 24 _ rfl w.heap.size 0 rfl IL _ KPk.out Tryd.underlying24 rfl KPi.out (hK _ _ ?_))))
                refine Calls.mono KC15.out (fun e w15 hp15 => ?_)
                obtain ⟨v15, rfl, hO15, hb15⟩ := hp15
                have hB15 := KB14.out.trans (hb15.mono KB14.out.size)
                have KO15 := Kept.mk hO15
                have KB15 := Kept.mk hB15
                have hb1215 := KB1214.out.trans (hb15.mono KB1214.out.size)
                have KC16 := Kept.mk (sorted_any _ rs w15 (KR2.out.later (KB212.out.trans (hb1215.mono KB212.out.size)) (Nat.le_refl _)) (by have := Kl.out; omega))
                clear hO15 hb15 hB15 hb1215 KC15
                go_wp2_with fail
                refine Calls.mono KC16.out (fun e w16 hp16 => ?_)
                obtain ⟨v16, rfl, hO16, hb16⟩ := hp16
                have KB16 := Kept.mk (KB15.out.trans (hb16.mono KB15.out.size))
                have KC17 := Kept.mk (sameR_any v15 v16 (sortF rs) (sortF rs) w16 (KO15.out.later hb16 (Nat.le_refl _)).rdR hO16.rdR Ksl.out Ksl.out)
                rw [decide_eq_true rfl] at KC17
                clear hO16 hb16 KC16
                go_wp2_with fail
                refine Calls.mono KC17.out (fun e w17 hp17 => ?_)
                obtain ⟨rfl, hb17⟩ := hp17
                have KB17 := Kept.mk (KB16.out.trans (hb17.mono KB16.out.size))
                clear hb17
                go_wp2
                go_ret
                exact ⟨by simp, KB17.out⟩
        · obtain ⟨q, rfl⟩ : ∃ q, j = q + 1 := ⟨j - 1, by omega⟩
          obtain rfl : i = (q : Int) := by omega
          have hq0 : (q : Int) ≥ 0 := by omega
          have hqn : (q : Int) < (rs.length : Int) := by omega
          have hlt : q < rs.length := by omega
          have hb2r := KB24.out.trans (KBr.out.mono KB24.out.size)
          obtain ⟨a', c', hv', -, -, -, hok', hrd'⟩ := KR2.out.later hb2r (Nat.le_refl _)
          obtain ⟨b, off, hab, hbl, hrg⟩ := hrd' (by omega)
          have haa : a = some ⟨b, off, none⟩ := by injection hv' with h1 _ _; rw [h1, hab]
          clear hv' hab hrd'
          subst haa
          have hoR := rowI_ok hok' hlt
          have KR : Kept (wr.rangeAt b (off + q * 34) (rowI rs q).l) := ⟨hrg q hlt⟩
          have KI : Kept ((Tryd.prog.info? 42).map (·.size) = some (rowI rs q).l.length) := ⟨by rw [RowC.len hoR]; exact info_row2⟩
          have K34 := Kept.mk (RowC.len hoR)
          obtain ⟨w3', hw3⟩ : ∃ w3', wr.alloc (.cells (rowI rs q).l.toArray 42) = w3' := ⟨_, rfl⟩
          have hB23 : Below wr.heap.size wr w3' := by rw [← hw3]; exact (Below.refl _ _).alloc (Nat.le_refl _) _
          have KR3 : Kept (RdR w3' (.slice (some ⟨wr.heap.size, 0, none⟩) 1 1) [rowI rs q]) := ⟨by rw [← hw3]; exact rdR_one wr hoR 42⟩
          have KO3 := Kept.mk (how.later hB23 (Nat.le_refl _))
          have KB3' := Kept.mk (hbel.trans (hB23.mono hbel.size))
          have hs3 : w4.heap.size ≤ w3'.heap.size := Nat.le_trans hbel.size hB23.size
          have htl : (rs.reverse.take (rs.length - (q + 1))).length = rs.length - (q + 1) := by rw [List.length_take, List.length_reverse]; omega
          have KLn : Kept (((rs.reverse.take (rs.length - (q + 1))).length + [rowI rs q].length) * 48 ≤ 140737488355328) := ⟨by rw [htl]; have := Kl.out; simp; omega⟩
          have KSt : Kept (rs.reverse.take (rs.length - (q + 1)) ++ [rowI rs q] = rs.reverse.take (rs.length - q)) := ⟨by
            have h := rev_take (rs := rs) (k := rs.length - (q + 1)) (by omega)
            rw [show rs.length - 1 - (rs.length - (q + 1)) = q by omega, show rs.length - (q + 1) + 1 = rs.length - q by omega] at h
            exact h⟩
          have e2 : IntKind.i64.wrap ((q : Int) - 1) = (q : Int) - 1 := wr64 (by omega) (by have := Kl.out; omega)
          clear hij hj hj0 how hbel hb2r hok' hrg hbl hoR hB23 htl hlt
          generalize (rowI rs q).l = CL at *
          generalize rowI rs q = RR at *
          generalize rs.reverse.take (rs.length - (q + 1)) = TK at *
          go_wp2_with (first | (refine wpList_load_mid rfl 42 _ rfl b (off + q * 34) rfl CL _ KR.out Tryd.underlying42 rfl KI.out ?_) | (refine wpList_sliceR rfl 31 42 _ rfl Tryd.underlying31 zeroR2 CL K34.out rfl ?_; rw [hw3]) | (at_builtin; refine wpList_append_rows _ rfl _ _ 31 rfl w4.heap.size 42 i0 z0 Tryd.underlying31 hi hz hs hb0 hc (.slice ma TK.length mc) TK rfl KO3.out _ [RR] rfl KR3.out KLn.out hs3 ?_; intro v4' w4' hown hgrow hat; have KO4' := Kept.mk hown; have KG4 := Kept.mk hgrow; clear hown hgrow hat))
          go_roundw
          case rel => exact ⟨q, _, rfl, by omega, rfl, by rw [← KSt.out]; exact KO4'.out, KB3'.out.trans ((Below.refl _ w3').grown KG4.out hs3 (fun g hg => (KO3.out.lt g hg).1))⟩
          case measure => simp [intOf]
    · have hd : (E != 0) = true := by simpa using hE
      obtain rfl := KEn.out hE
      clear hE
      go_wp2
      go_ret
      exact ⟨by simp, KB4.out⟩
end Go.Proofs.YtgoegmaepafopaaDoor
