/-
  The document's DocParse.
-/
import Derived.Test.YthkaohkondkhgaaDoorIS
namespace Go.Proofs.YthkaohkondkhgaaDoor
open Go.RowKit

/-- Is each list found so far in form? -/
def SmS (l : List SlC) : Prop := ∀ e ∈ l, e.pt.size ≤ 10000
theorem ds_size {R : List Int} (h : R.length ≤ 10000) : (dsF R).pt.size ≤ 10000 := by
  show (strOfNums _).size ≤ _
  rw [strOfNums_size, List.length_take, List.length_drop]
  omega
set_option maxHeartbeats 4000000 in
set_option maxRecDepth 100000 in
theorem docParse_any {S : Nat → Prop} (v : Value) (xs : List Int) (w : World) (h : Rd .u8 S w v xs) (hA : AllIn 0 256 xs) (hl : xs.length ≤ 10000) :
    Calls Tryd.prog 16 #[v] w fun e w' => ∃ v', e = .returned (.tuple #[v', .int .i64 (prsE xs)]) ∧ OwnZ w' w.heap.size v' (prsL xs) ∧ Below w.heap.size w w' := by
  obtain ⟨hdE, hdL⟩ := dp_prs hA
  obtain ⟨a, c, rfl, hac, hlc, hcm⟩ := h.form
  have hbi : ¬ (2097152 : Int) < (xs.length : Int) := by omega
  have KDE := Kept.mk hdE
  have KDL := Kept.mk hdL
  by_cases hsm : xs.length < 44
  · have e1 : IntKind.i64.wrap ((xs.length : Int) - 32) = (xs.length : Int) - 32 := wr64 (by omega) (by omega)
    have hsi : (xs.length : Int) - 32 < 12 := by omega
    have KE2 : Kept (prsE xs = 4) := ⟨by rw [← KDE.out]; unfold dpE; rw [if_neg (by omega), if_pos hsm]⟩
    have KL2 : Kept (prsL xs = []) := ⟨by unfold prsL; rw [KE2.out, if_neg (by decide)]⟩
    clear h hA hdE hdL
    go_enter Tryd.func16, Tryd.ntmps16
    go_wp2
    go_ret2
    exact ⟨_, by rw [KE2.out]; rfl, by rw [KL2.out]; exact OwnZ.nil _ _, Below.refl _ _⟩
  · obtain ⟨n, hn⟩ : ∃ n, xs.length = n + 32 := ⟨xs.length - 32, by omega⟩
    have hn' : xs.length - 32 = n := by omega
    have e1 : IntKind.i64.wrap ((xs.length : Int) - 32) = (n : Int) := by rw [wr64 (by omega) (by omega)]; omega
    have hsi : ¬ (n : Int) < 12 := by omega
    obtain ⟨Q, hQ⟩ : ∃ Q, xs.take n = Q := ⟨_, rfl⟩
    have hQl : Q.length = n := by rw [← hQ, List.length_take]; omega
    have hQA : AllIn 0 256 Q := hQ ▸ hA.take n
    have hQA0 := Kept.mk hQA
    obtain ⟨a1, c1, hr1, hd1⟩ := sub_h (pa := a) (pc := c) (L := xs) (hi := n) (by omega) hlc
    have KRq : Kept (Rd .u8 S w (.slice a1 n c1) Q) := ⟨hQ ▸ hd1 S w h⟩
    have KR1 := Kept.mk hr1
    have KRx := Kept.mk h
    have KA := Kept.mk hA
    have KQ := Kept.mk hQ
    have KQl := Kept.mk hQl
    have KDp : Kept (dpE xs = match dSlots (Q.drop 12) with
      | none => 4
      | some l => if ¬ chkE l = 0 then 4 else if ¬ bodL l = Q then 4 else if ¬ bodL l ++ sumB (bodL l) = xs then 6 else 0) := ⟨by
        unfold dpE dpD
        rw [if_neg (by omega), if_neg hsm, hn', hQ]
        cases dSlots (Q.drop 12) <;> rfl⟩
    have Kn := Kept.mk hn
    have hnb : n ≤ 9968 ∧ 12 ≤ n := by omega
    clear h hA hdE hdL hQ hQl hQA hr1 hd1 hn hn' hac hcm hsm hlc
    go_enter Tryd.func16, Tryd.ntmps16
    go_wp2
    go_loopw [5, 6] (fun lv tv wr => ∃ (t : Nat) (L : List SlC), 12 + 80 * L.length ≤ t ∧ t ≤ n + 20000 ∧ tv = .int .i64 t ∧ (∃ a2 c2, lv = .slice a2 L.length c2) ∧ OwnZ wr w.heap.size lv L ∧ dSlots (Q.drop 12) = (dSlots (Q.drop t)).map (L ++ ·) ∧ SmS L ∧ Below w.heap.size w wr) (fun _ tv _ => n - (intOf tv).toNat)
    case atStart => exact ⟨12, [], by simp, by omega, rfl, ⟨none, 0, rfl⟩, OwnZ.nil _ _, by simp, (fun _ h => by cases h), Below.refl _ _⟩
    case round =>
      obtain ⟨t, L, ht, ht2, rfl, ⟨a2, c2, rfl⟩, hO, hds, hsm, hbel⟩ := hrel
      have KO := Kept.mk hO
      have KB := Kept.mk hbel
      have KDs := Kept.mk hds
      have KSm := Kept.mk hsm
      clear hO hbel hds hsm
      by_cases htn : t < n
      · have hti : (t : Int) < (n : Int) := by omega
        have KS := Kept.mk (slot_doc (.slice a1 n c1) Q t wr (KRq.out.later KB.out (Nat.le_refl _)) hQA0.out (by rw [KQl.out]; omega) (by rw [KQl.out]; omega))
        rw [KQl.out] at KS
        have hRl : (Q.drop t).length = n - t := by rw [List.length_drop, KQl.out]
        by_cases h75 : 75 ≤ n - t
        · rw [if_pos h75, if_pos h75, decide_eq_true h75] at KS
          have hok := ds_ok (hQA0.out.drop t) (by omega) (by omega)
          have KDs2 : Kept (dSlots (Q.drop 12) = (dSlots (Q.drop (t + slz (zn (Q.drop t))))).map ((L ++ [dsF (Q.drop t)]) ++ ·)) := ⟨by
            rw [KDs.out, dSlots_step (by omega), List.drop_drop, Option.map_map]
            congr 1
            funext l
            simp⟩
          have KSm2 : Kept (SmS (L ++ [dsF (Q.drop t)])) := ⟨fun e he => by
            rcases List.mem_append.1 he with he | he
            · exact KSm.out e he
            · rw [List.mem_singleton.1 he]
              exact ds_size (by omega)⟩
          have hst := slz_ge (zn (Q.drop t))
          have hs80 := slz_80 (zn (Q.drop t))
          have hzn := zn_le (Q.drop t)
          obtain ⟨T, hT⟩ : ∃ T, t + slz (zn (Q.drop t)) = T := ⟨_, rfl⟩
          rw [hT] at KS KDs2
          have hT2 : t + 80 ≤ T ∧ T ≤ n + 20000 := by omega
          have KT2 := Kept.mk hT2
          obtain ⟨e, he⟩ : ∃ e, dsF (Q.drop t) = e := ⟨_, rfl⟩
          rw [he] at KS hok KDs2 KSm2
          clear hst hs80 hzn hT hT2 he hRl
          have Kok := Kept.mk hok
          have KfL := Kept.mk (SlC.len hok)
          have KI : Kept ((Tryd.prog.info? 41).map (·.size) = some e.l.length) := ⟨SlC.info hok⟩
          have KI2 : Kept ((Tryd.prog.info? 41).map (·.size) = some e.l.toArray.size) := ⟨by rw [List.size_toArray]; exact KI.out⟩
          have KSz : Kept (e.l.toArray.size = 37) := ⟨by rw [List.size_toArray]; exact KfL.out⟩
          have KOn : Kept (e.l.toArray.all (·.oneCell') = true) := ⟨by rw [Array.all_eq_true_iff_forall_mem]; intro x hx; exact SlC.ones _ x (by simpa using hx)⟩
          clear hok
          have hLl : ¬ (L.length : Int) = 4096 := by omega
          have hLb : ((L.length : Int) == 4096) = false := by simpa using hLl
          go_upto_region 9 with fail
          go_upto_region 10 with (first | (refine wpList_sliceB rfl 25 (.tmp 22) none (some (.tmp 23)) rfl _ (KR1.out _) ?_) | (go_at_call 32; refine Calls.mono KS.out (fun x w2 hp => ?_); obtain ⟨rfl, hb2⟩ := hp; have KB2 := Kept.mk hb2; clear hb2) | (refine BigFrame.wpList_want rfl (fun K hK => wp_store_row 41 _ _ rfl w2.heap.size e.l.toArray rfl rfl 41 _ (heap_alloc_new w2 _) KI2.out (by rw [KSz.out]; rfl) KOn.out (hK _ _ ?_)); rw [World.setRow_alloc_new]))
          have KB3 := Kept.mk (KB.out.trans (KB2.out.mono KB.out.size))
          obtain ⟨x3, hx3, hBx, hzx, hbx, hcx⟩ := SlC.box w2 Kok.out
          have KB4 := Kept.mk (KB3.out.trans (hBx.mono KB3.out.size))
          have KO4 := Kept.mk ((KO.out.later KB2.out (Nat.le_refl _)).later hBx (Nat.le_refl _))
          have KRx3 : Kept (x3.rangeAt w2.heap.size 0 e.l) := ⟨fun j u hu => by
            unfold World.cell?
            simp only [hbx]
            rw [Nat.zero_add, List.getElem?_toArray]
            exact hu⟩
          obtain ⟨x4, hx4, hB4, hz4, hb4, -⟩ := SlC.box x3 Kok.out
          have KB5 := Kept.mk (KB4.out.trans (hB4.mono KB4.out.size))
          have KO5 := Kept.mk (KO4.out.later hB4 (Nat.le_refl _))
          have KR4 : Kept (x4.rangeAt x3.heap.size 0 e.l) := ⟨fun j u hu => by
            unfold World.cell?
            simp only [hb4]
            rw [Nat.zero_add, List.getElem?_toArray]
            exact hu⟩
          have hsz4 : w.heap.size ≤ x4.heap.size := KB5.out.size
          have hbb : (L.length + 1) * 80 ≤ 140737488355328 := by omega
          clear hBx hzx hbx hcx hB4 hz4 hb4
          rw [hx3]
          go_wp2_with (first | (refine wpList_load_mid rfl 41 _ rfl w2.heap.size 0 rfl e.l _ KRx3.out Tryd.underlying41 rfl KI.out ?_) | (refine wpList_sliceZ rfl _ rfl e.l KfL.out rfl ?_; rw [hx4]) | (at_builtin; refine wpList_append_Z _ rfl _ _ rfl w.heap.size (.slice a2 L.length c2) L rfl KO5.out e Kok.out x3.heap.size 1 rfl KR4.out hbb hsz4 ?_; intro v6 w6 hown hgrow; obtain ⟨a6, c6, rfl, -⟩ := hown.form; have KO6 := Kept.mk hown; have KG6 := Kept.mk hgrow; clear hown hgrow))
          have KB6 : Kept (Below w.heap.size w w6) := ⟨KB5.out.grown KG6.out hsz4 (fun g hg => (KO5.out.lt g hg).1)⟩
          go_roundw
          case rel =>
            exact ⟨T, L ++ [e], by have := KT2.out; simp; omega, KT2.out.2, by go_num, ⟨a6, c6, by simp⟩, by simpa using KO6.out, KDs2.out, KSm2.out, KB6.out⟩
          case measure => have := KT2.out; simp [intOf]; omega
        · rw [if_neg h75, if_neg h75, decide_eq_false h75] at KS
          have KE4 : Kept (prsE xs = 4 ∧ prsL xs = []) := ⟨by
            have h1 : prsE xs = 4 := by rw [← KDE.out, KDp.out, KDs.out, dSlots_none (by omega) (by omega)]; rfl
            exact ⟨h1, by unfold prsL; rw [h1, if_neg (by decide)]⟩⟩
          have KZi : Kept ((Tryd.prog.info? 41).map (·.size) = some zS.l.toArray.size) := ⟨by rw [show zS.l.toArray.size = 37 from rfl]; exact infoZ37⟩
          have KZs : Kept (zS.l.toArray.size = 37) := ⟨rfl⟩
          have KZo : Kept (zS.l.toArray.all (·.oneCell') = true) := ⟨by rw [Array.all_eq_true_iff_forall_mem]; intro x hx; exact SlC.ones _ x (by simpa using hx)⟩
          obtain ⟨ZA, hZA⟩ : ∃ ZA, zS.l.toArray = ZA := ⟨_, rfl⟩
          rw [hZA] at KS KZi KZs KZo
          clear hZA hRl
          go_upto_region 9 with fail
          go_upto_region 10 with (first | (refine wpList_sliceB rfl 25 (.tmp 22) none (some (.tmp 23)) rfl _ (KR1.out _) ?_) | (go_at_call 32; refine Calls.mono KS.out (fun x w2 hp => ?_); obtain ⟨rfl, hb2⟩ := hp; have KB2 := Kept.mk hb2; clear hb2) | (refine BigFrame.wpList_want rfl (fun K hK => wp_store_row 41 _ _ rfl w2.heap.size ZA rfl rfl 41 _ (heap_alloc_new w2 _) KZi.out (by rw [KZs.out]; rfl) KZo.out (hK _ _ ?_)); rw [World.setRow_alloc_new]))
          have KB3 := Kept.mk (KB.out.trans (KB2.out.mono KB.out.size))
          have KB4 := Kept.mk (KB3.out.alloc KB3.out.size (.cells ZA 41))
          go_wp2
          go_ret2
          exact ⟨_, by rw [KE4.out.1]; rfl, by rw [KE4.out.2]; exact OwnZ.nil _ _, KB4.out⟩
      · have hti : ¬ (t : Int) < (n : Int) := by omega
        have KDe : Kept (dSlots (Q.drop 12) = some L) := ⟨by
          rw [KDs.out, dSlots_nil (by rw [List.length_drop, KQl.out]; omega)]
          simp⟩
        have KDf : Kept (prsE xs = if ¬ chkE L = 0 then 4 else if ¬ bodL L = Q then 4 else if ¬ bodL L ++ sumB (bodL L) = xs then 6 else 0) := ⟨by rw [← KDE.out, KDp.out, KDe.out]⟩
        have KPL : Kept (prsL xs = if prsE xs = 0 then L else []) := ⟨by
          by_cases h : prsE xs = 0
          · have h1 := KDL.out h
            unfold dpD at h1
            rw [show xs.length - 32 = n by have := Kn.out; omega, KQ.out, KDe.out] at h1
            injection h1 with h1
            rw [if_pos h, h1]
          · unfold prsL
            rw [if_neg h, if_neg h]⟩
        have hLl : L.length ≤ 4096 := by
          have h1 := (dSlots_ok _ (Q.drop 12) (Nat.le_refl _) (hQA0.out.drop 12) (by rw [List.length_drop, KQl.out]; omega) L KDe.out).2
          rw [List.length_drop, KQl.out] at h1
          have h2 := hnb.1
          omega
        obtain ⟨PE, hPE⟩ : ∃ PE, prsE xs = PE := ⟨_, rfl⟩
        obtain ⟨PL, hPL⟩ : ∃ PL, prsL xs = PL := ⟨_, rfl⟩
        rw [hPE] at KDf KPL
        rw [hPL] at KPL
        have KPe := Kept.mk hPE
        have KPl := Kept.mk hPL
        have KAQ : Kept (AllIn 0 256 Q) := hQA0
        obtain ⟨wd, hwd⟩ : ∃ wd, wr.drew = wd := ⟨_, rfl⟩
        have KBd : Kept (Below wr.heap.size wr wd) := ⟨hwd ▸ Below.drew (Below.refl _ _)⟩
        have KOd := Kept.mk (KO.out.later KBd.out (Nat.le_refl _))
        have KB := Kept.mk (KB.out.trans (KBd.out.mono KB.out.size))
        have KCk := Kept.mk (docCheck_any (.slice a2 L.length c2) L wd KOd.out.rd (by omega) (fun e he => by have := KSm.out e he; omega))
        have Kok := Kept.mk KO.out.rd.ok
        have KFit : Kept (chkE L = 0 → ∀ e ∈ L, FitZ e) := ⟨fun h => fit_of Kok.out h⟩
        obtain ⟨E, hE⟩ : ∃ E, chkE L = E := ⟨_, rfl⟩
        rw [hE] at KCk KFit KDf
        clear hPE hPL hE KO KBd
        go_upto_region 14 with fail
        refine wp_region_noPanic ?_
        refine wp_region_held_drew (S := fun _ => True) (by kernel_rfl) trivial (fun _ => ?_)
        rw [hwd]
        clear hwd
        refine wpAnyH_takeD (i := 0) (d := some 42) (v := .slice a2 L.length c2) rfl rfl (by kernel_rfl) (by kernel_rfl) (by kernel_rfl) (fun _ _ _ h => h) (Or.inl ⟨by rfl, fun W _ => by go_simp⟩) trivial ?_
        simp only [Act.put, List.setIfInBounds_toArray, List.set_cons_zero, List.set_cons_succ]
        refine wpAnyH_ready (rs := [1]) (by kernel_rfl) (by simp) ?_
        refine AllReadyH.cons (o := _) rfl (fun K hK => ?_) AllReadyH.nil
        go_simp
        refine Calls.mono KCk.out (fun x w2 hp => ?_)
        obtain ⟨rfl, hb2⟩ := hp
        have KB2 := Kept.mk hb2
        clear hb2
        refine hK.out _ _ trivial (fun _ => ?_)
        clear hK K
        have KB3 := Kept.mk (KB.out.trans (KB2.out.mono KB.out.size))
        have KO3 := Kept.mk (KOd.out.later KB2.out (Nat.le_refl _))
        by_cases hE0 : E = 0
        · subst hE0
          have KBo := Kept.mk (body_any (.slice a2 L.length c2) L w2 KO3.out.rd hLl (KFit.out rfl))
          have hcut := KR1.out
          refine wpAnyH_takeD (i := 2) (d := some 44) (v := .bool false) rfl rfl (by kernel_rfl) (by kernel_rfl) (by kernel_rfl) (fun _ _ _ h => h) (Or.inl ⟨by rfl, fun W _ => by go_simp⟩) trivial ?_
          simp only [Act.put, List.setIfInBounds_toArray, List.set_cons_zero, List.set_cons_succ]
          refine wpAnyH_takeD (i := 3) (d := some 45) (v := .bool false) rfl rfl (by kernel_rfl) (by kernel_rfl) (by kernel_rfl) (fun _ _ _ h => h) (Or.inl ⟨by rfl, fun W _ => by go_simp⟩) trivial ?_
          simp only [Act.put, List.setIfInBounds_toArray, List.set_cons_zero, List.set_cons_succ]
          refine wpAnyH_takeD (i := 4) (d := some 46) (v := .slice a2 L.length c2) rfl rfl (by kernel_rfl) (by kernel_rfl) (by kernel_rfl) (fun _ _ _ h => h) (Or.inl ⟨by rfl, fun W _ => by go_simp⟩) trivial ?_
          simp only [Act.put, List.setIfInBounds_toArray, List.set_cons_zero, List.set_cons_succ]
          refine wpAnyH_takeD (i := 6) (d := some 48) (v := .slice a xs.length c) rfl rfl (by kernel_rfl) (by kernel_rfl) (by kernel_rfl) (fun _ _ _ h => h) (Or.inl ⟨by rfl, fun W _ => by go_simp⟩) trivial ?_
          simp only [Act.put, List.setIfInBounds_toArray, List.set_cons_zero, List.set_cons_succ]
          refine wpAnyH_takeD (i := 7) (d := some 49) (v := .int .i64 n) rfl rfl (by kernel_rfl) (by kernel_rfl) (by kernel_rfl) (fun _ _ _ h => h) (Or.inl ⟨by rfl, fun W _ => by go_simp⟩) trivial ?_
          simp only [Act.put, List.setIfInBounds_toArray, List.set_cons_zero, List.set_cons_succ]
          refine wpAnyH_takeD (i := 8) (d := some 50) (v := .slice a1 n c1) rfl rfl (by kernel_rfl) (by kernel_rfl) (by kernel_rfl) (fun _ _ _ h => h) (Or.inl ⟨by rfl, fun W _ => by go_simp⟩) trivial ?_
          simp only [Act.put, List.setIfInBounds_toArray, List.set_cons_zero, List.set_cons_succ]
          refine wpAnyH_ready (rs := [5]) (by kernel_rfl) (by simp) ?_
          refine AllReadyH.cons (o := _) rfl (fun K hK => ?_) AllReadyH.nil
          go_simp
          refine Calls.mono KBo.out (fun x w3 hp => ?_)
          obtain ⟨v3, rfl, hO, hb⟩ := hp
          have KB4 := Kept.mk hb
          have KO4 := Kept.mk hO
          clear hO hb
          refine hK.out _ _ trivial (fun _ => ?_)
          clear hK K
          have KB5 := Kept.mk (KB3.out.trans (KB4.out.mono KB3.out.size))
          have KL5 := Kept.mk (KO3.out.later KB4.out (Nat.le_refl _))
          have KSm1 := Kept.mk (Nu.same_any v3 (.slice a1 n c1) (bodL L) Q w3 (nuRd KO4.out.rd (all_bod Kok.out)) (nuRd (KRq.out.later KB5.out (Nat.le_refl _)) KAQ.out))
          have KPut := Kept.mk (rput_any (.slice a2 L.length c2) L w3 KL5.out.rd hLl (KFit.out rfl))
          obtain ⟨a4, c4, rfl, -⟩ := KO4.out.rd.form
          obtain ⟨B1, hB1⟩ : ∃ B1 : Bool, decide (bodL L = Q) = B1 := ⟨_, rfl⟩
          rw [hB1] at KSm1
          have KB1 := Kept.mk hB1
          clear hB1 hcut
          refine wpAnyH_ready (rs := [9]) (by kernel_rfl) (by simp) ?_
          refine AllReadyH.cons (o := _) rfl (fun K hK => ?_) AllReadyH.nil
          go_simp
          refine Calls.mono KSm1.out (fun x w4 hp => ?_)
          obtain ⟨rfl, hw4⟩ := hp
          rw [hw4]
          clear hw4
          refine hK.out _ _ trivial (fun _ => ?_)
          clear hK K
          refine wpAnyH_takeD (i := 10) (d := some 52) (v := .bool (!B1)) rfl rfl (by kernel_rfl) (by kernel_rfl) (by kernel_rfl) (fun _ _ _ h => h) (Or.inl ⟨by rfl, fun W _ => by go_simp⟩) trivial ?_
          simp only [Act.put, List.setIfInBounds_toArray, List.set_cons_zero, List.set_cons_succ]
          refine wpAnyH_takeD (i := 11) (d := some 53) (v := .bool (!B1)) rfl rfl (by kernel_rfl) (by kernel_rfl) (by kernel_rfl) (fun _ _ _ h => h) (Or.inl ⟨by rfl, fun W _ => by go_simp⟩) trivial ?_
          simp only [Act.put, List.setIfInBounds_toArray, List.set_cons_zero, List.set_cons_succ]
          refine wpAnyH_done (by kernel_rfl) ?_ _
          refine NoPanic.normal ?_
          cases B1 with
          | false =>
            have KP4 : Kept (PE = 4 ∧ PL = []) := ⟨by
              have h1 : PE = 4 := by rw [KDf.out, if_neg (by simp), if_pos (of_decide_eq_false KB1.out)]
              exact ⟨h1, by rw [KPL.out, h1, if_neg (by decide)]⟩⟩
            go_wp2
            go_ret2
            exact ⟨_, by rw [KPe.out, KP4.out.1]; rfl, by rw [KPl.out, KP4.out.2]; exact OwnZ.nil _ _, KB5.out⟩
          | true =>
            have hbq : bodL L = Q := of_decide_eq_true KB1.out
            have Kbq := Kept.mk hbq
            clear hbq
            have KAq : Kept (AllIn 0 256 (bodL L ++ sumB (bodL L))) := ⟨all_app (all_bod Kok.out) (all_sum _)⟩
            obtain ⟨PQ, hPQ⟩ : ∃ PQ, bodL L ++ sumB (bodL L) = PQ := ⟨_, rfl⟩
            rw [hPQ] at KPut KAq KDf
            clear hPQ
            go_wp2_with fail
            refine Calls.mono KPut.out (fun x w5 hp => ?_)
            obtain ⟨v5, rfl, hO, hb⟩ := hp
            have KB6 := Kept.mk (KB5.out.trans (hb.mono KB5.out.size))
            have KL6 := Kept.mk (KL5.out.later hb (Nat.le_refl _))
            have KSm2 := Kept.mk (Nu.same_any v5 (.slice a xs.length c) PQ xs w5 (nuRd hO.rd KAq.out) (nuRd (KRx.out.later KB6.out (Nat.le_refl _)) KA.out))
            obtain ⟨a5, c5, rfl, -⟩ := hO.rd.form
            obtain ⟨B2, hB2⟩ : ∃ B2 : Bool, decide (PQ = xs) = B2 := ⟨_, rfl⟩
            rw [hB2] at KSm2
            have KB2' := Kept.mk hB2
            clear hB2 hO hb
            go_wp2_with fail
            refine Calls.mono KSm2.out (fun x w6 hp => ?_)
            obtain ⟨rfl, hw6⟩ := hp
            rw [hw6]
            clear hw6
            cases B2 with
            | false =>
              have KP6 : Kept (PE = 6 ∧ PL = []) := ⟨by
                have h1 : PE = 6 := by rw [KDf.out, if_neg (by simp), if_neg (by simp [Kbq.out]), if_pos (of_decide_eq_false KB2'.out)]
                exact ⟨h1, by rw [KPL.out, h1, if_neg (by decide)]⟩⟩
              go_wp2
              go_ret2
              exact ⟨_, by rw [KPe.out, KP6.out.1]; rfl, by rw [KPl.out, KP6.out.2]; exact OwnZ.nil _ _, KB6.out⟩
            | true =>
              have KP0 : Kept (PE = 0 ∧ PL = L) := ⟨by
                have h1 : PE = 0 := by rw [KDf.out, if_neg (by simp), if_neg (by simp [Kbq.out]), if_neg (by simp [of_decide_eq_true KB2'.out])]
                exact ⟨h1, by rw [KPL.out, h1, if_pos rfl]⟩⟩
              go_wp2
              go_ret2
              exact ⟨_, by rw [KPe.out, KP0.out.1]; rfl, by rw [KPl.out, KP0.out.2]; exact KL6.out, KB6.out⟩
        · have hEb : (E != 0) = true := by simpa using hE0
          have KP4 : Kept (PE = 4 ∧ PL = []) := ⟨by
            have h1 : PE = 4 := by rw [KDf.out, if_pos hE0]
            exact ⟨h1, by rw [KPL.out, h1, if_neg (by decide)]⟩⟩
          refine wpAnyH_takeD (i := 2) (d := some 44) (v := .bool true) rfl rfl (by kernel_rfl) (by kernel_rfl) (by kernel_rfl) (fun _ _ _ h => h) (Or.inl ⟨by rfl, fun W _ => by go_simp⟩) trivial ?_
          simp only [Act.put, List.setIfInBounds_toArray, List.set_cons_zero, List.set_cons_succ]
          refine wpAnyH_takeD (i := 3) (d := some 45) (v := .bool true) rfl rfl (by kernel_rfl) (by kernel_rfl) (by kernel_rfl) (fun _ _ _ h => h) (Or.inl ⟨by rfl, fun W _ => by go_simp⟩) trivial ?_
          simp only [Act.put, List.setIfInBounds_toArray, List.set_cons_zero, List.set_cons_succ]
          refine wpAnyH_takeD (i := 4) (d := some 46) (v := undef) rfl rfl (by kernel_rfl) (by kernel_rfl) (by kernel_rfl) (fun _ _ _ h => h) (Or.inr ⟨by rfl, rfl⟩) trivial ?_
          simp only [Act.put, List.setIfInBounds_toArray, List.set_cons_zero, List.set_cons_succ]
          refine wpAnyH_takeD (i := 5) (d := some 47) (v := undef) rfl rfl (by kernel_rfl) (by kernel_rfl) (by kernel_rfl) (fun _ _ _ h => h) (Or.inr ⟨by rfl, rfl⟩) trivial ?_
          simp only [Act.put, List.setIfInBounds_toArray, List.set_cons_zero, List.set_cons_succ]
          refine wpAnyH_takeD (i := 6) (d := some 48) (v := undef) rfl rfl (by kernel_rfl) (by kernel_rfl) (by kernel_rfl) (fun _ _ _ h => h) (Or.inr ⟨by rfl, rfl⟩) trivial ?_
          simp only [Act.put, List.setIfInBounds_toArray, List.set_cons_zero, List.set_cons_succ]
          refine wpAnyH_takeD (i := 7) (d := some 49) (v := undef) rfl rfl (by kernel_rfl) (by kernel_rfl) (by kernel_rfl) (fun _ _ _ h => h) (Or.inr ⟨by rfl, rfl⟩) trivial ?_
          simp only [Act.put, List.setIfInBounds_toArray, List.set_cons_zero, List.set_cons_succ]
          refine wpAnyH_takeD (i := 8) (d := some 50) (v := undef) rfl rfl (by kernel_rfl) (by kernel_rfl) (by kernel_rfl) (fun _ _ _ h => h) (Or.inr ⟨by rfl, rfl⟩) trivial ?_
          simp only [Act.put, List.setIfInBounds_toArray, List.set_cons_zero, List.set_cons_succ]
          refine wpAnyH_takeD (i := 9) (d := some 51) (v := undef) rfl rfl (by kernel_rfl) (by kernel_rfl) (by kernel_rfl) (fun _ _ _ h => h) (Or.inr ⟨by rfl, rfl⟩) trivial ?_
          simp only [Act.put, List.setIfInBounds_toArray, List.set_cons_zero, List.set_cons_succ]
          refine wpAnyH_takeD (i := 10) (d := some 52) (v := undef) rfl rfl (by kernel_rfl) (by kernel_rfl) (by kernel_rfl) (fun _ _ _ h => h) (Or.inr ⟨by rfl, rfl⟩) trivial ?_
          simp only [Act.put, List.setIfInBounds_toArray, List.set_cons_zero, List.set_cons_succ]
          refine wpAnyH_takeD (i := 11) (d := some 53) (v := .bool true) rfl rfl (by kernel_rfl) (by kernel_rfl) (by kernel_rfl) (fun _ _ _ h => h) (Or.inl ⟨by rfl, fun W _ => by go_simp⟩) trivial ?_
          simp only [Act.put, List.setIfInBounds_toArray, List.set_cons_zero, List.set_cons_succ]
          refine wpAnyH_done (by kernel_rfl) ?_ _
          refine NoPanic.normal ?_
          go_wp2
          go_ret2
          exact ⟨_, by rw [KPe.out, KP4.out.1]; rfl, by rw [KPl.out, KP4.out.2]; exact OwnZ.nil _ _, KB3.out⟩
end Go.Proofs.YthkaohkondkhgaaDoor
