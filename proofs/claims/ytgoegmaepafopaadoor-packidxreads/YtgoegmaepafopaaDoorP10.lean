/-
  Walks: Build.
-/
import Derived.Test.YtgoegmaepafopaaDoorP9
namespace Go.Proofs.YtgoegmaepafopaaDoor
open Go.RowKit Go.Sort

/-- The bytes of a text that the program has. -/
theorem lit_step (w : World) (xs : List Int) (h : xs.length ≤ 1000) : ∃ wa, (convert 22 22 (.slice (some ⟨w.heap.size, 0, none⟩) xs.length xs.length)).run Tryd.prog (w.alloc (.cells (cellsK .u8 xs).toArray 5)) = .ok (.slice (some ⟨w.heap.size, 0, none⟩) xs.length xs.length) wa ∧
    Rd .u8 anyB wa (.slice (some ⟨w.heap.size, 0, none⟩) xs.length xs.length) xs ∧ Below w.heap.size w wa ∧ wa.heap.size = w.heap.size + 1 := by
  refine ⟨_, Lib.run_convert_bytes_const (P := Tryd.prog) w 22 5 _ _ _ Tryd.underlying22 Tryd.underlying5, ?_, (Below.refl w.heap.size w).alloc (Nat.le_refl _) _, by simp⟩
  refine ⟨some ⟨w.heap.size, 0, none⟩, xs.length, rfl, Nat.le_refl _, by unfold maxLen; omega, (fun h => by cases h), fun _ => ⟨w.heap.size, 0, rfl, by simp, trivial, fun i hi => ?_⟩⟩
  rw [Nat.zero_add, cell_of_row _ w.heap.size i _ _ _ (heap_alloc_new w _)]
  exact cellsK_at .u8 xs i hi
theorem srt_of {l : List RowC} (h : l.Pairwise fun a b => 0 ≤ Sh.cmpZ b.ids a.ids) : Srt l := h.imp fun {a b} hab => by rw [cmpZ_flip]; omega

set_option maxHeartbeats 2000000 in
set_option maxRecDepth 100000 in
theorem build_any (v : Value) (rs : List RowC) (pk : List Int) (w : World) (hT : Sh.Tab w Sh.ksK) (hr : RdR w v rs) (hp : pk.length = 32) (hA : AllB pk) :
    Calls Tryd.prog 13 #[v, .agg (cellsK .u8 pk).toArray] w fun e w' => ∃ v', e = .returned (.tuple #[v', .int .i64 (bldE rs)]) ∧ Own .u8 5 w' w.heap.size v' (bldL rs pk) ∧ Below w.heap.size w w' := by
  obtain ⟨i0, z0, hi, hz, hs, hb0, hc⟩ := info8
  obtain ⟨w1, hw1, hB1, hs1, hbk1⟩ := box_id w pk
  have hr1 := hr.later hB1 (Nat.le_refl _)
  have KT1 := Kept.mk (Tab.later hT hB1 (Nat.le_refl _))
  have KB1 := Kept.mk hB1
  have KR1 := Kept.mk hr1
  have KP1 := Kept.mk hbk1
  have KA := Kept.mk hA
  have KE : Kept (bldE rs = if 4096 < rs.length then 2 else if riseB (sortF rs) = true then 0 else 8) := ⟨rfl⟩
  have KL : Kept (bldL rs pk = if bldE rs = 0 then buildL (sortF rs) (lngs (sortF rs)) pk else []) := ⟨rfl⟩
  obtain ⟨a, c, rfl, hlc, hcm, hac, hok, hrd⟩ := hr
  clear hok hrd hr1 hT hB1 hbk1 hA
  have hps : (cellsK .u8 pk).toArray.size = 32 := by rw [List.size_toArray, cellsK_length, hp]
  generalize bldE rs = E at *
  generalize bldL rs pk = L at *
  by_cases h4 : 4096 < rs.length
  · have hd : decide ((4096 : Int) < (rs.length : Int)) = true := decide_eq_true (by omega)
    have KV : Kept (E = 2) := ⟨by rw [KE.out, if_pos h4]⟩
    have KW : Kept (L = []) := ⟨by rw [KL.out, KV.out, if_neg (by decide)]⟩
    clear h4
    go_enter Tryd.func13, Tryd.ntmps13
    go_wp2
    go_ret2
    exact ⟨_, by rw [KV.out]; rfl, by rw [KW.out]; exact Own.nil _ _ _ _, KB1.out⟩
  · have hd : decide ((4096 : Int) < (rs.length : Int)) = false := decide_eq_false (by omega)
    have KE2 : Kept (E = if riseB (sortF rs) = true then 0 else 8) := ⟨by rw [KE.out, if_neg h4]⟩
    have hn4 : rs.length ≤ 4096 := by omega
    have KC := Kept.mk (cloneR_any _ rs w1 KR1.out (by omega))
    clear h4 KE KR1
    go_enter Tryd.func13, Tryd.ntmps13
    go_wp2_with fail
    refine Calls.mono KC.out (fun e w2 hp2 => ?_)
    obtain ⟨v2, rfl, hO2, hB2⟩ := hp2
    have KS := Kept.mk (sort_any v2 rs w2 _ hO2 (by omega))
    have KO2 := Kept.mk hO2
    have KB2 := Kept.mk hB2
    clear hO2 hB2
    go_wp2_with fail
    refine Calls.mono KS.out (fun e w3 hp3 => ?_)
    obtain ⟨rfl, l, hpm, hpw, hR3, hG3⟩ := hp3
    have hsm := sort_same hpm (srt_of hpw)
    have hll : l.length = rs.length := hpm.length_eq
    have hB13 : Below w1.heap.size w1 w3 := KB2.out.trans (hG3.below KB2.out.size (fun k hk => (KO2.out.lt k hk).1))
    have KB3 := Kept.mk hB13
    have KRi := Kept.mk (rise_any v2 l w3 hR3 (by omega))
    have KR3 := Kept.mk hR3
    have hbl2 : ∀ g, v2.ownBlock = some g → g < w3.heap.size := fun g hg => Nat.lt_of_lt_of_le (KO2.out.lt g hg).2 hG3.size
    have KBl := Kept.mk hbl2
    have KSm := Kept.mk hsm
    have KLl := Kept.mk hll
    clear hpm hpw hR3 hG3 hsm hll hB13 hbl2 KS KC
    go_wp2_with fail
    refine Calls.mono KRi.out (fun e w4 hp4 => ?_)
    obtain ⟨rfl, hB4⟩ := hp4
    have KB14 := Kept.mk (KB3.out.trans (hB4.mono KB3.out.size))
    have KR4 := Kept.mk (KR3.out.later hB4 (Nat.le_refl _))
    have KBl4 : Kept (∀ g, v2.ownBlock = some g → g < w4.heap.size) := ⟨fun g hg => Nat.lt_of_lt_of_le (KBl.out g hg) hB4.size⟩
    clear hB4 KBl KR3 KRi
    by_cases hri : riseB l = true
    · have KEq : Kept (l = sortF rs) := ⟨KSm.out.2 hri⟩
      have KV : Kept (E = 0) := ⟨by rw [KE2.out, ← KSm.out.1, if_pos hri]⟩
      have KW : Kept (L = buildL l (lngs l) pk) := ⟨by rw [KL.out, KV.out, if_pos rfl, KEq.out]⟩
      obtain ⟨w5, cv5, rd5, hB45, hs5⟩ := lit_step w4 headB (by decide)
      have hl4 : l.length ≤ 4096 := by rw [KLl.out]; exact hn4
      have hO5 : Apd w5 w4.heap.size (.slice (some ⟨w4.heap.size, 0, none⟩) 8 8) headB := .inr ⟨rd5, by decide, w4.heap.size, rfl, Nat.le_refl _, by omega⟩
      have hR5 := KR4.out.later hB45 (Nat.le_refl _)
      have KF := Kept.mk (appendFan_any v2 _ headB l w5 w4.heap.size hO5 (by omega) hR5 hl4 (by decide))
      have KR5 := Kept.mk hR5
      have KB15 := Kept.mk (KB14.out.trans (hB45.mono KB14.out.size))
      have cv5' : (convert 22 22 (.slice (some ⟨w4.heap.size, 0, none⟩) 8 8)).run Tryd.prog (w4.alloc (.cells #[.int .u8 255, .int .u8 116, .int .u8 79, .int .u8 99, .int .u8 0, .int .u8 0, .int .u8 0, .int .u8 2] 5)) = .ok (.slice (some ⟨w4.heap.size, 0, none⟩) 8 8) w5 := cv5
      have Kl4 := Kept.mk hl4
      clear hO5 hR5 hB45 hl4 cv5 rd5
      rw [hri]
      go_wp2_with (rw [cv5'])
      refine Calls.mono KF.out (fun e w6 hp6 => ?_)
      obtain ⟨v6, rfl, hO6, hG6⟩ := hp6
      have hR6 : RdR w6 v2 l := KR5.out.far hG6.size (fun b off n c hv hb => hG6.block b hb (fun e => by
        simp only [Value.ownBlock] at e
        injection e with e
        have := KBl4.out b (by rw [hv]; rfl)
        omega))
      have hb56 := hG6.below (B := w4.heap.size) (by omega) (fun k hk => by simp only [Value.ownBlock] at hk; injection hk with hk; omega)
      have hB16 := KB15.out.trans (hb56.mono KB14.out.size)
      have hfl := fanB_len l 256
      have hv6 : ∀ g, v6.ownBlock = some g → w4.heap.size ≤ g := fun g hg => (hO6.lt g hg).1
      have KAr := Kept.mk (appendRows_any v2 v6 (headB ++ fanB l 256) l w6 w4.heap.size hO6 (by have := hG6.size; omega) hR6 Kl4.out (by rw [List.length_append, hfl]; decide) (fun b off c hv e => by
        have h1 := hv6 b e
        have h2 := KBl4.out b (by rw [hv]; rfl)
        omega))
      have KB16 := Kept.mk hB16
      have Kv6 := Kept.mk hv6
      have hsz6 : w4.heap.size ≤ w6.heap.size := by have := hG6.size; omega
      obtain ⟨a6, c6, rfl, -, -, -⟩ := hO6.rd.form
      clear hO6 hG6 hR6 hb56 hB16 hfl hv6 KF cv5'
      go_wp2_with fail
      refine Calls.mono KAr.out (fun e w7 hp7 => ?_)
      obtain ⟨v7, rfl, hO7, hG7⟩ := hp7
      have hb67 := hG7.below (B := w4.heap.size) hsz6 Kv6.out
      have hB17 := KB16.out.trans (hb67.mono KB14.out.size)
      have hlenX : (headB ++ fanB l 256 ++ idsB l l.length ++ crcB l l.length ++ accL (shortI l (lngs l)) l.length ++ accL (longI l (lngs l)) l.length).length ≤ 1000000 := by
        have := nl_le (lngs l) l.length
        have := Kl4.out
        have hok := KR4.out.ok
        simp only [List.length_append, fanB_len, idsB_len hok (Nat.le_refl _), crcB_len, shorts_len, longs_len]
        rw [show headB.length = 8 from rfl]
        omega
      have KBody : Kept (bodyL l (lngs l) pk = headB ++ fanB l 256 ++ idsB l l.length ++ crcB l l.length ++ accL (shortI l (lngs l)) l.length ++ accL (longI l (lngs l)) l.length ++ pk) := ⟨rfl⟩
      have KAll := Kept.mk (bodyL_allB KR4.out.ok (lngs l) KA.out)
      generalize headB ++ fanB l 256 ++ idsB l l.length ++ crcB l l.length ++ accL (shortI l (lngs l)) l.length ++ accL (longI l (lngs l)) l.length = X at *
      obtain ⟨a7, c7, rfl, -, -, -⟩ := hO7.rd.form
      have hP7 : Rd .u8 anyB w7 (.slice (some ⟨w.heap.size, 0, none⟩) 32 32) pk := by
        have := (KP1.out.far hB17 (by omega)).rd (by omega)
        rwa [hp] at this
      have KO7 := Kept.mk hO7
      have KP7 := Kept.mk hP7
      have KB17 := Kept.mk hB17
      have hsz7 : w4.heap.size ≤ w7.heap.size := Nat.le_trans hsz6 hG7.size
      have KX : Kept ((X.length + pk.length) * 1 ≤ 140737488355328) := ⟨by omega⟩
      clear hO7 hG7 hb67 hB17 hP7 KAr
      go_wp2_with (at_builtin; refine wpList_append_rd _ rfl _ _ 22 rfl .u8 anyB 1 w4.heap.size 5 i0 z0 Tryd.underlying22 hi hz hs hb0 hc (by omega) (.slice a7 X.length c7) X rfl KO7.out _ pk rfl KP7.out KX.out hsz7 ?_; intro v8 w8 hown hgrow hat2; have KO8 := Kept.mk hown; have KG8 := Kept.mk hgrow; clear hown hgrow hat2)
      have hb78 : Below w4.heap.size w7 w8 := (Below.refl _ w7).grown KG8.out hsz7 (fun k hk => (KO7.out.lt k hk).1)
      have hB18 := KB17.out.trans (hb78.mono KB14.out.size)
      have hY : Own .u8 5 w8 w4.heap.size v8 (bodyL l (lngs l) pk) := KO8.out.eq KBody.out.symm
      have hlY : (bodyL l (lngs l) pk).length ≤ 1000032 := by rw [KBody.out, List.length_append, hp]; omega
      have KW8 : Kept (L = bodyL l (lngs l) pk ++ sumB (bodyL l (lngs l) pk)) := ⟨KW.out⟩
      have KSl := Kept.mk (sumB_length (bodyL l (lngs l) pk))
      have KSu := Kept.mk (Sh.sum_any v8 (bodyL l (lngs l) pk) Sh.ksK w8 (shRd hY.rd KAll.out) Sh.ksK_length (Tab.later KT1.out hB18 (Nat.le_refl _)))
      have KSu2 : Kept (Calls Tryd.prog 20 #[v8] w8 fun e w' => e = .returned (.agg (cellsK .u8 (sumB (bodyL l (lngs l) pk))).toArray) ∧ Below w8.heap.size w8 w') := KSu
      generalize sumB (bodyL l (lngs l) pk) = D at *
      generalize bodyL l (lngs l) pk = Y at *
      obtain ⟨a8, c8, rfl, -, -, -⟩ := hY.rd.form
      have KY := Kept.mk hY
      have KB18 := Kept.mk hB18
      have hsz8 : w4.heap.size ≤ w8.heap.size := Nat.le_trans hsz7 KG8.out.size
      clear hY hb78 hB18 KSu KO8 KAll
      go_wp2_with fail
      refine Calls.mono KSu2.out (fun e w9 hp9 => ?_)
      obtain ⟨rfl, hB9⟩ := hp9
      obtain ⟨w10, hw10, hB10, hs10, hbk10⟩ := box_id w9 D
      have KDz : Kept ((cellsK .u8 D).toArray.size = 32) := ⟨by rw [List.size_toArray, cellsK_length, KSl.out]⟩
      have KDi : Kept ((Tryd.prog.info? 24).map (·.size) = some (cellsK .u8 D).toArray.size) := ⟨by rw [KDz.out]; exact info_id⟩
      have KDo := Kept.mk (cellsK_all .u8 D)
      have KY10 := Kept.mk ((KY.out.later hB9 (Nat.le_refl _)).later hB10 (Nat.le_refl _))
      have hD10 : Rd .u8 anyB w10 (.slice (some ⟨w9.heap.size, 0, none⟩) 32 32) D := by
        have := hbk10.rd (by rw [KSl.out]; omega)
        rwa [KSl.out] at this
      have KD10 := Kept.mk hD10
      have hB110 := (KB18.out.trans (hB9.mono KB18.out.size)).trans (hB10.mono (Nat.le_trans KB18.out.size hB9.size))
      have KB110 := Kept.mk hB110
      have hsz10 : w4.heap.size ≤ w10.heap.size := by have := hB9.size; omega
      have KX2 : Kept ((Y.length + D.length) * 1 ≤ 140737488355328) := ⟨by rw [KSl.out]; omega⟩
      clear hB9 hB10 hbk10 hD10 hB110
      generalize hcd : (cellsK .u8 D).toArray = CD at *
      clear hcd
      go_wp2_with (first | (refine BigFrame.wpList_want rfl (fun K hK => wp_store_row 24 _ _ rfl w9.heap.size CD rfl rfl 24 _ (heap_alloc_new w9 _) KDi.out (by rw [KDz.out]; rfl) KDo.out (hK _ _ ?_)); rw [World.setRow_alloc_new]) | (at_builtin; refine wpList_append_rd _ rfl _ _ 22 rfl .u8 anyB 1 w4.heap.size 5 i0 z0 Tryd.underlying22 hi hz hs hb0 hc (by omega) (.slice a8 Y.length c8) Y rfl KY10.out _ D rfl KD10.out KX2.out hsz10 ?_; intro v11 w11 hown hgrow hat2; have KO11 := Kept.mk hown; have KG11 := Kept.mk hgrow; clear hown hgrow hat2))
      go_ret2
      have hb1011 : Below w4.heap.size w10 w11 := (Below.refl _ w10).grown KG11.out hsz10 (fun k hk => (KY10.out.lt k hk).1)
      refine ⟨v11, by rw [KV.out]; rfl, (KO11.out.eq KW8.out.symm).mono (Nat.le_trans KB1.out.size KB14.out.size), KB1.out.trans ((KB110.out.trans (hb1011.mono KB14.out.size)).mono KB1.out.size)⟩
    · have hri2 : riseB l = false := by simpa using hri
      have KV : Kept (E = 8) := ⟨by rw [KE2.out, ← KSm.out.1, if_neg hri]⟩
      have KW : Kept (L = []) := ⟨by rw [KL.out, KV.out, if_neg (by decide)]⟩
      rw [hri2]
      go_wp2
      go_ret2
      exact ⟨_, by rw [KV.out]; rfl, by rw [KW.out]; exact Own.nil _ _ _ _, KB1.out.trans (KB14.out.mono KB1.out.size)⟩
end Go.Proofs.YtgoegmaepafopaaDoor
