/-
  Walks: Parse.
-/
import Derived.Test.YtgoegmaepafopaaDoorP15
namespace Go.Proofs.YtgoegmaepafopaaDoor
open Go.RowKit

def prsE (p : List Int) : Int :=
  if (cntS p).2 ≠ 0 then (cntS p).2 else if sizeE p (cntS p).1.toNat ≠ 0 then sizeE p (cntS p).1.toNat else if seg p (p.length - 32) 32 ≠ sumB (p.take (p.length - 32)) then 6 else
    if namedB p (cntS p).1.toNat = true ∧ riseB (rowsR p (cntS p).1.toNat) = true ∧ fanV (rowsR p (cntS p).1.toNat) = fanRL p then 0 else 4
def prsL (p : List Int) : List RowC := if prsE p = 0 then rowsR p (cntS p).1.toNat else []
def prsP (p : List Int) : List Int := if prsE p = 0 then seg p (p.length - 64) 32 else z32
theorem cntS_ok {p : List Int} (hA : AllB p) (h : (cntS p).2 = 0) : 1096 ≤ p.length ∧ ∃ n : Nat, (cntS p).1 = (n : Int) ∧ n ≤ 4096 ∧ p.take 8 = headB ∧ fanR p 255 = (n : Int) ∧ Up (fanRL p) := by
  unfold cntS at h ⊢
  by_cases h1 : p.length < 1096
  · rw [if_pos h1] at h; simp at h
  · rw [if_neg h1] at h ⊢
    by_cases h2 : p.take 8 ≠ headB
    · rw [if_pos h2] at h; simp at h
    · rw [if_neg h2] at h ⊢
      by_cases h3 : upB (fanRL p) = false
      · rw [if_pos h3] at h; simp at h
      · rw [if_neg h3] at h ⊢
        by_cases h4 : 4096 < fanR p 255
        · rw [if_pos h4] at h; simp at h
        · rw [if_neg h4]
          have hr := bigT_range p (8 + 255 * 4) 4 hA (by omega)
          have hr0 : 0 ≤ fanR p 255 := hr.1
          exact ⟨by omega, (fanR p 255).toNat, by simp only; omega, by omega, by simpa using h2, by omega, (upB_iff _).1 (by simpa using h3)⟩
theorem sizeE_ok {p : List Int} {n : Nat} (h : sizeE p n = 0) : Fit p n := by
  unfold sizeE at h
  unfold Fit
  by_cases h1 : p.length < 1096 + n * 40
  · rw [if_pos h1] at h; omega
  · rw [if_neg h1] at h
    by_cases h2 : p.length < 1096 + n * 40 + nl (longR p n) n * 8
    · rw [if_pos h2] at h; omega
    · rw [if_neg h2] at h
      by_cases h3 : 1096 + n * 40 + nl (longR p n) n * 8 < p.length
      · rw [if_pos h3] at h; omega
      · omega
theorem OwnR.mono {e : TypeId} {w : World} {base base' : Nat} {v : Value} {rs : List RowC} (h : OwnR e w base v rs) (hb : base' ≤ base) : OwnR e w base' v rs := by
  obtain ⟨⟨h1, h2⟩, h3⟩ := h
  refine ⟨⟨h1, ?_⟩, h3⟩
  rcases h2 with h2 | ⟨g, cap, cur, hv, hg, r⟩
  · exact Or.inl h2
  · exact Or.inr ⟨g, cap, cur, hv, Nat.le_trans hb hg, r⟩
theorem one_id (w : World) : ∃ w0, w.alloc (.cells (cellsK .u8 z32).toArray 24) = w0 ∧ BlkK .u8 w0 w.heap.size 24 z32 ∧ w0.heap.size = w.heap.size + 1 ∧ Below w.heap.size w w0 :=
  ⟨_, rfl, alloc_blkK .u8 w z32 _, by simp, (Below.refl _ _).alloc (Nat.le_refl _) _⟩
theorem z32_info : (Tryd.prog.info? 24).map (·.size) = some (cellsK .u8 z32).toArray.size := by rw [List.size_toArray, cellsK_length, z32_length]; exact info_id
theorem id_info {D : List Int} (h : D.length = 32) : (Tryd.prog.info? 24).map (·.size) = some (cellsK .u8 D).toArray.size := by rw [List.size_toArray, cellsK_length, h]; exact info_id
theorem id_infoL {D : List Int} (h : D.length = 32) : (Tryd.prog.info? 24).map (·.size) = some (cellsK .u8 D).length := by rw [cellsK_length, h]; exact info_id
theorem blk_setRow {k : IntKind} {w : World} {b : Nat} {t : TypeId} {xs : List Int} (h : BlkK k w b t xs) (ys : List Int) : BlkK k (w.setRow b (cellsK k ys).toArray) b t ys := setRow_heap _ _ _ _ _ _ h

set_option maxHeartbeats 4000000 in
set_option maxRecDepth 100000 in
theorem parse_any {S : Nat → Prop} (v : Value) (xs : List Int) (w : World) (hT : Sh.Tab w Sh.ksK) (h : Rd .u8 S w v xs) (hA : AllB xs) (hl : xs.length + 20 ≤ 140737488355328) :
    Calls Tryd.prog 6 #[v] w fun e w' => ∃ v', e = .returned (.tuple #[v', .agg (cellsK .u8 (prsP xs)).toArray, .int .i64 (prsE xs)]) ∧ OwnR 39 w' w.heap.size v' (prsL xs) ∧ Below w.heap.size w w' := by
  obtain ⟨w0, hw0, hbk0, hs0, hB0⟩ := one_id w
  have hw0' : w.alloc (.cells #[.int .u8 0, .int .u8 0, .int .u8 0, .int .u8 0, .int .u8 0, .int .u8 0, .int .u8 0, .int .u8 0, .int .u8 0, .int .u8 0, .int .u8 0, .int .u8 0, .int .u8 0, .int .u8 0, .int .u8 0, .int .u8 0, .int .u8 0, .int .u8 0, .int .u8 0, .int .u8 0, .int .u8 0, .int .u8 0, .int .u8 0, .int .u8 0, .int .u8 0, .int .u8 0, .int .u8 0, .int .u8 0, .int .u8 0, .int .u8 0, .int .u8 0, .int .u8 0] 24) = w0 := hw0
  obtain ⟨a, c, rfl, hac, hlc, hcm⟩ := h.form
  have KH0 := Kept.mk (h.later hB0 (Nat.le_refl _))
  have KT0 := Kept.mk (Tab.later hT hB0 (Nat.le_refl _))
  have KB0 := Kept.mk hB0
  have Kk0 := Kept.mk hbk0
  have KC := Kept.mk (countRows_any _ xs w0 KH0.out hA hl)
  have KE : Kept (prsE xs = if (cntS xs).2 ≠ 0 then (cntS xs).2 else if sizeE xs (cntS xs).1.toNat ≠ 0 then sizeE xs (cntS xs).1.toNat else if seg xs (xs.length - 32) 32 ≠ sumB (xs.take (xs.length - 32)) then 6 else
    if namedB xs (cntS xs).1.toNat = true ∧ riseB (rowsR xs (cntS xs).1.toNat) = true ∧ fanV (rowsR xs (cntS xs).1.toNat) = fanRL xs then 0 else 4) := ⟨rfl⟩
  have KL : Kept (prsL xs = if prsE xs = 0 then rowsR xs (cntS xs).1.toNat else []) := ⟨rfl⟩
  have KP : Kept (prsP xs = if prsE xs = 0 then seg xs (xs.length - 64) 32 else z32) := ⟨rfl⟩
  have KOk := Kept.mk (cntS_ok hA (p := xs))
  clear h hT hB0 hbk0 hw0
  generalize prsE xs = E at *
  generalize prsL xs = L at *
  generalize prsP xs = PP at *
  -- an error's end
  have KErr : Kept (∀ (er : Int), E = er → er ≠ 0 → L = [] ∧ PP = z32) := ⟨fun er he hne => ⟨by rw [KL.out, he, if_neg hne], by rw [KP.out, he, if_neg hne]⟩⟩
  go_enter Tryd.func6, Tryd.ntmps6
  go_wp2_with fail
  refine Calls.mono KC.out (fun e w1 hp => ?_)
  obtain ⟨rfl, hb1⟩ := hp
  have KB1 := Kept.mk hb1
  clear hb1 KC hw0'
  by_cases h2 : (cntS xs).2 = 0
  · obtain ⟨h1096, n, hn1, hn4, hhd, hf255, hup⟩ := KOk.out h2
    rw [hn1, h2]
    rw [h2, hn1] at KE
    rw [hn1] at KL
    rw [Int.toNat_natCast] at KE KL
    have KE2 : Kept (E = if sizeE xs n ≠ 0 then sizeE xs n else if seg xs (xs.length - 32) 32 ≠ sumB (xs.take (xs.length - 32)) then 6 else if namedB xs n = true ∧ riseB (rowsR xs n) = true ∧ fanV (rowsR xs n) = fanRL xs then 0 else 4) := ⟨by rw [KE.out, if_neg (by decide)]⟩
    have KCs := Kept.mk (checkSize_any _ xs n w1 (KH0.out.later KB1.out (Nat.le_refl _)) hA hn4 hl)
    have KSz := Kept.mk (sizeE_ok (p := xs) (n := n))
    clear h2 hn1 hhd hf255 hup KE KOk
    generalize sizeE xs n = sE at *
    go_wp2_with fail
    refine Calls.mono KCs.out (fun e w2 hp => ?_)
    obtain ⟨rfl, hww⟩ := hp
    subst w2
    clear KCs
    by_cases h3 : sE = 0
    · subst h3
      have hfit := KSz.out rfl
      have hfl : 1096 + n * 40 ≤ xs.length := by unfold Fit at hfit; omega
      have KE3 : Kept (E = if seg xs (xs.length - 32) 32 ≠ sumB (xs.take (xs.length - 32)) then 6 else if namedB xs n = true ∧ riseB (rowsR xs n) = true ∧ fanV (rowsR xs n) = fanRL xs then 0 else 4) := ⟨by rw [KE2.out, if_neg (by decide)]⟩
      have KFit := Kept.mk hfit
      have KCu := Kept.mk (cutId_any _ xs w1 (KH0.out.later KB1.out (Nat.le_refl _)) (by omega) hl)
      have KDl : Kept ((seg xs (xs.length - 32) 32).length = 32) := ⟨seg_len _ _ _ (by omega)⟩
      clear hfit KE2 KSz
      generalize hD : seg xs (xs.length - 32) 32 = D at *
      clear hD
      go_wp2_with fail
      refine Calls.mono KCu.out (fun e w2 hp => ?_)
      obtain ⟨vb, rfl, hRb, hb2⟩ := hp
      have hlt2 : (xs.take (xs.length - 32)).length = xs.length - 32 := by rw [List.length_take]; omega
      obtain ⟨w3, hw3, hb3, hs3, hbk3⟩ := box_id w2 D
      have hB3 : Below w0.heap.size w0 w3 := (KB1.out.trans (hb2.mono KB1.out.size)).trans (hb3.mono (Nat.le_trans KB1.out.size hb2.size))
      have hRb3 := hRb.later hb3 (Nat.le_refl _)
      have hAt : AllB (xs.take (xs.length - 32)) := hA.take _
      have KSum : Kept (∀ W, CC w3 W → Calls Tryd.prog 20 #[vb] W fun e w' => e = .returned (.agg (cellsK .u8 (sumB (xs.take (xs.length - 32)))).toArray) ∧ CC w3 w') := ⟨fun W hW => (Sh.sum_any vb (xs.take (xs.length - 32)) Sh.ksK W (shRd (hRb3.later hW (Nat.le_refl _)) hAt) Sh.ksK_length (Tab.later (Tab.later KT0.out hB3 (Nat.le_refl _)) hW (Nat.le_refl _))).mono fun e w' hp => ⟨hp.1, hW.on hp.2⟩⟩
      have KSl := Kept.mk (sumB_length (xs.take (xs.length - 32)))
      have KRb := Kept.mk hRb3
      have KB3 := Kept.mk hB3
      have KlT := Kept.mk hlt2
      have KDi := Kept.mk (id_info KDl.out)
      have KDz : Kept ((cellsK .u8 D).toArray.size = 32) := ⟨by rw [List.size_toArray, cellsK_length, KDl.out]⟩
      have KDo := Kept.mk (cellsK_all .u8 D)
      have KDr : Kept (∀ W, CC w3 W → W.rangeAt w2.heap.size 0 (cellsK .u8 D)) := ⟨fun W hW => (hbk3.far hW (by omega)).range⟩
      have KDiL := Kept.mk (id_infoL KDl.out)
      obtain ⟨ba, bc, rfl, -, -, -⟩ := hRb.form
      rw [hlt2] at KRb KSum ⊢
      clear hRb hb2 hb3 hbk3 hB3 hRb3 hAt hlt2 KCu
      generalize hX : xs.take (xs.length - 32) = X at *
      have KX := Kept.mk hX
      clear hX
      generalize hSU : sumB X = SU at *
      have KEq : Kept (∀ W, (Op.equalIn 10000 24 (.agg (cellsK .u8 D).toArray) (.agg (cellsK .u8 SU).toArray)).run Tryd.prog W = .ok (decide (D = SU)) W) := ⟨fun W => eq_id W 9998 KDl.out KSl.out⟩
      clear hSU
      generalize hCD : (cellsK .u8 D) = CD at *
      clear hCD
      generalize hCS : (cellsK .u8 SU).toArray = CS at *
      clear hCS
      go_upto_region 7 with (refine BigFrame.wpList_want rfl (fun K hK => wp_store_row 24 _ _ rfl w2.heap.size CD.toArray rfl rfl 24 _ (heap_alloc_new w2 _) KDi.out (by rw [KDz.out]; rfl) KDo.out (hK _ _ ?_)); rw [World.setRow_alloc_new])
      rw [hw3]
      refine wp_region_quietC (C := CC w3) (by kernel_rfl) (by kernel_rfl) (Below.refl _ _).drew ?_
      refine BigFrame.wpQuiet_want rfl (fun K hK => quiet_load_mid 24 _ rfl w2.heap.size 0 rfl CD _ KDr.out Tryd.underlying24 rfl KDiL.out (hK _ ?_))
      clear hK K
      simp only [Act.put, List.setIfInBounds_toArray, List.set_cons_zero, List.set_cons_succ]
      go_big_quiet_step ((intro _; rfl))
      go_big_quiet_step ((intro hCw; exact KSum.out _ hCw))
      refine BigFrame.wpQuiet_want rfl (fun K hK => quiet_run (v := .bool (!decide (D = SU))) (fun W hW => by have hq := KEq.out W; go_simp; all_goals rfl) (hK _ ?_))
      clear hK K
      simp only [Act.put, List.setIfInBounds_toArray, List.set_cons_zero, List.set_cons_succ]
      refine wpQuiet_nil ?_
      intro w4 hw4
      have KB4 := Kept.mk (KB3.out.trans (Below.mono hw4 KB3.out.size))
      have KRb4 := Kept.mk (KRb.out.later hw4 (Nat.le_refl _))
      clear hw4 KSum KEq KDr
      by_cases hDS : D = SU
      · have hd : (!decide (D = SU)) = false := by rw [decide_eq_true hDS]; rfl
        rw [hd]
        have KE4 : Kept (E = if namedB xs n = true ∧ riseB (rowsR xs n) = true ∧ fanV (rowsR xs n) = fanRL xs then 0 else 4) := ⟨by rw [KE3.out, if_neg (by simpa using hDS)]⟩
        have KRr := Kept.mk (readRows_any _ xs n w4 (KH0.out.later KB4.out (Nat.le_refl _)) hA KFit.out hn4 hl)
        have KRRl : Kept (rrL xs n = if namedB xs n = true then rowsR xs n else []) := ⟨rfl⟩
        clear hDS hd KE3
        go_wp2_with fail
        refine Calls.mono KRr.out (fun e w5 hp => ?_)
        obtain ⟨v5, rfl, hO5, hb5⟩ := hp
        have KB5 := Kept.mk (KB4.out.trans (hb5.mono KB4.out.size))
        have KO5 := Kept.mk hO5
        have KRb5 := Kept.mk (KRb4.out.later hb5 (Nat.le_refl _))
        clear hO5 hb5 KRr KRb4
        by_cases hna : namedB xs n = true
        · have KRs : Kept (OwnR 39 w5 w4.heap.size v5 (rowsR xs n)) := ⟨by have := KO5.out; rwa [KRRl.out, if_pos hna] at this⟩
          have hrl := rowsR_length xs n
          have KRi := Kept.mk (rise_any v5 (rowsR xs n) w5 KRs.out.rdR (by omega))
          rw [hna]
          obtain ⟨ri, hri⟩ : ∃ b, riseB (rowsR xs n) = b := ⟨_, rfl⟩
          rw [hri] at KRi
          have Kri := Kept.mk hri
          clear KO5 hrl hri
          go_wp2_with fail
          refine Calls.mono KRi.out (fun e w6 hp => ?_)
          obtain ⟨rfl, hb6⟩ := hp
          have KB6 := Kept.mk (KB5.out.trans (hb6.mono KB5.out.size))
          have KR6 := Kept.mk (KRs.out.later hb6 (Nat.le_refl _))
          have KRb6 := Kept.mk (KRb5.out.later hb6 (Nat.le_refl _))
          clear hb6 KRi KRb5
          cases ri with
          | false =>
            have hne : (4 : Int) ≠ 0 := by decide
            have KV : Kept (E = 4) := ⟨by rw [KE4.out, if_neg (by rw [Kri.out]; simp)]⟩
            have KW := Kept.mk (KErr.out _ KV.out hne)
            have KbW : Kept (BlkK .u8 w6 w.heap.size 24 z32) := ⟨Kk0.out.far KB6.out (by omega)⟩
            have KBW : Kept (Below w.heap.size w (w6.setRow w.heap.size (cellsK .u8 z32).toArray)) := ⟨below_setRow (KB0.out.trans ((KB6.out).mono KB0.out.size)) (Nat.le_refl _) _⟩
            clear hne
            go_wp2_with (refine BigFrame.wpList_want rfl (fun K hK => wp_store_row 24 _ _ rfl w.heap.size (cellsK .u8 z32).toArray rfl rfl 24 _ KbW.out z32_info rfl (cellsK_all _ _) (hK _ _ ?_)))
            refine bodyPost_ret (v := .tuple #[.slice none 0 0, .agg (cellsK .u8 z32).toArray, .int .i64 (4)]) (results_trt (t := 2) (p := 3) (u := 4) (ty := 24) Tryd.results6 _ _ w.heap.size 24 _ (0, 0) _ rfl (blk_setRow KbW.out z32) Tryd.underlying24 rfl z32_info) rfl ⟨_, by rw [KW.out.2, KV.out], by rw [KW.out.1]; exact OwnR.nil _ _ _, KBW.out⟩
          | true =>
            have hrl := rowsR_length xs n
            have KFo := Kept.mk (fanOf_any v5 (rowsR xs n) w6 KR6.out.rdR (by omega))
            have hfv : (fanV (rowsR xs n)).length = 256 := map256_length _
            have hfr : (fanRL xs).length = 256 := map256_length _
            have KEq : Kept (∀ W, (Op.equalIn 10000 61 (.agg (cellsK .u64 (fanV (rowsR xs n))).toArray) (.agg (cellsK .u64 (fanRL xs)).toArray)).run Tryd.prog W = .ok (decide (fanV (rowsR xs n) = fanRL xs)) W) := ⟨fun W => eq_fan W 9998 hfv hfr⟩
            clear hrl hfv hfr
            go_wp2_with fail
            refine Calls.mono KFo.out (fun e w7 hp => ?_)
            obtain ⟨rfl, hb7⟩ := hp
            have KB7 := Kept.mk (KB6.out.trans (hb7.mono KB6.out.size))
            have KR7 := Kept.mk (KR6.out.later hb7 (Nat.le_refl _))
            have KRb7 := Kept.mk (KRb6.out.later hb7 (Nat.le_refl _))
            have KRf := Kept.mk (readFan_any _ xs w7 (KH0.out.later KB7.out (Nat.le_refl _)) hA (by omega) hl)
            clear hb7 KFo KRb6 KR6
            generalize (cellsK .u64 (fanV (rowsR xs n))).toArray = FA at *
            generalize (cellsK .u64 (fanRL xs)).toArray = FB at *
            obtain ⟨fq, hfq⟩ : ∃ b, decide (fanV (rowsR xs n) = fanRL xs) = b := ⟨_, rfl⟩
            rw [hfq] at KEq
            have Kfq := Kept.mk hfq
            clear hfq
            go_wp2_with fail
            refine Calls.mono KRf.out (fun e w8 hp => ?_)
            obtain ⟨rfl, hb8⟩ := hp
            have KB8 := Kept.mk (KB7.out.trans (hb8.mono KB7.out.size))
            have KR8 := Kept.mk (KR7.out.later hb8 (Nat.le_refl _))
            have KRb8 := Kept.mk (KRb7.out.later hb8 (Nat.le_refl _))
            have hq8 := KEq.out w8
            clear hb8 KRf KRb7 KR7
            cases fq with
            | false =>
              have hne : (4 : Int) ≠ 0 := by decide
              have KV : Kept (E = 4) := ⟨by rw [KE4.out, if_neg (fun h => of_decide_eq_false Kfq.out h.2.2)]⟩
              have KW := Kept.mk (KErr.out _ KV.out hne)
              have KbW : Kept (BlkK .u8 w8 w.heap.size 24 z32) := ⟨Kk0.out.far KB8.out (by omega)⟩
              have KBW : Kept (Below w.heap.size w (w8.setRow w.heap.size (cellsK .u8 z32).toArray)) := ⟨below_setRow (KB0.out.trans ((KB8.out).mono KB0.out.size)) (Nat.le_refl _) _⟩
              clear hne
              go_wp2_with (refine BigFrame.wpList_want rfl (fun K hK => wp_store_row 24 _ _ rfl w.heap.size (cellsK .u8 z32).toArray rfl rfl 24 _ KbW.out z32_info rfl (cellsK_all _ _) (hK _ _ ?_)))
              refine bodyPost_ret (v := .tuple #[.slice none 0 0, .agg (cellsK .u8 z32).toArray, .int .i64 (4)]) (results_trt (t := 2) (p := 3) (u := 4) (ty := 24) Tryd.results6 _ _ w.heap.size 24 _ (0, 0) _ rfl (blk_setRow KbW.out z32) Tryd.underlying24 rfl z32_info) rfl ⟨_, by rw [KW.out.2, KV.out], by rw [KW.out.1]; exact OwnR.nil _ _ _, KBW.out⟩
            | true =>
              have KV : Kept (E = 0) := ⟨by rw [KE4.out, if_pos ⟨hna, Kri.out, of_decide_eq_true Kfq.out⟩]⟩
              have KVL : Kept (L = rowsR xs n) := ⟨by rw [KL.out, KV.out, if_pos rfl]⟩
              have KVP : Kept (PP = seg xs (xs.length - 64) 32) := ⟨by rw [KP.out, KV.out, if_pos rfl]⟩
              have KCu2 := Kept.mk (cutId_any _ X w8 KRb8.out (by rw [KlT.out]; omega) (by rw [KlT.out]; omega))
              have KPk : Kept (seg X (X.length - 32) 32 = seg xs (xs.length - 64) 32) := ⟨by
                rw [KlT.out, ← KX.out]
                have e1 : xs.take (xs.length - 32) = seg xs 0 (xs.length - 32) := by simp [seg]
                rw [e1, seg_in _ _ _ _ _ (by omega)]
                congr 1
                omega⟩
              have KPl : Kept ((seg xs (xs.length - 64) 32).length = 32) := ⟨seg_len _ _ _ (by omega)⟩
              rw [KPk.out, KlT.out] at KCu2
              generalize seg xs (xs.length - 64) 32 = PK at *
              go_wp2_with fail
              refine Calls.mono KCu2.out (fun e w9 hp => ?_)
              obtain ⟨v9, rfl, -, hb9⟩ := hp
              obtain ⟨w10, hw10, hb10, hs10, hbk10⟩ := box_id w9 PK
              have hb810 : Below w8.heap.size w8 w10 := hb9.trans (hb10.mono hb9.size)
              have KB10 := Kept.mk (KB8.out.trans (hb810.mono KB8.out.size))
              have KR10 := Kept.mk (KR8.out.later hb810 (Nat.le_refl _))
              have hz10 : w8.heap.size ≤ w9.heap.size := hb9.size
              have KPi := Kept.mk (id_info KPl.out)
              have KPiL := Kept.mk (id_infoL KPl.out)
              have KPz : Kept ((cellsK .u8 PK).toArray.size = 32) := ⟨by rw [List.size_toArray, cellsK_length, KPl.out]⟩
              have KPo := Kept.mk (cellsK_all .u8 PK)
              have KPr : Kept (∀ W, (∃ m, W = w10.drewN m) → W.rangeAt w9.heap.size 0 (cellsK .u8 PK)) := ⟨fun W hW => by
                obtain ⟨m, rfl⟩ := hW
                exact (hbk10.drewN m).range⟩
              have Kk10 : Kept (∀ m, BlkK .u8 (w10.drewN m) w.heap.size 24 z32) := ⟨fun m => (Kk0.out.far KB10.out (by omega)).drewN m⟩
              have Kfin : Kept (∀ m, BlkK .u8 ((w10.drewN m).setRow w.heap.size (cellsK .u8 PK).toArray) w.heap.size 24 PK) := ⟨fun m => blk_setRow (Kk10.out m) PK⟩
              have KBf : Kept (∀ m, Below w.heap.size w ((w10.drewN m).setRow w.heap.size (cellsK .u8 PK).toArray)) := ⟨fun m => below_setRow (below_drewN (KB0.out.trans (KB10.out.mono KB0.out.size)) m) (Nat.le_refl _) _⟩
              have KOf : Kept (∀ m, OwnR 39 ((w10.drewN m).setRow w.heap.size (cellsK .u8 PK).toArray) w.heap.size v5 (rowsR xs n)) := ⟨fun m => by
                have h0 := KR10.out
                have hge : w.heap.size < w4.heap.size := by have := KB4.out.size; omega
                have h1 : OwnR 39 ((w10.drewN m).setRow w.heap.size (cellsK .u8 PK).toArray) w4.heap.size v5 (rowsR xs n) := h0.far fun g hg => by
                  have := (h0.lt g hg).1
                  rw [setRow_other _ _ _ _ (by omega)]
                  rfl
                exact h1.mono (by omega)⟩
              have KPs : Kept (z32.length = PK.length) := ⟨by rw [KPl.out, z32_length]⟩
              clear hb9 hb10 hbk10 hb810 KCu2 KRb8 KR8 hq8 KEq
              generalize hCP : cellsK .u8 PK = CP at *
              have KCP := Kept.mk hCP
              clear hCP
              go_upto_region 13 with (refine BigFrame.wpList_want rfl (fun K hK => wp_store_row 24 _ _ rfl w9.heap.size CP.toArray rfl rfl 24 _ (heap_alloc_new w9 _) KPi.out (by rw [KPz.out]; rfl) KPo.out (hK _ _ ?_)); rw [World.setRow_alloc_new])
              rw [hw10]
              simp only [Act.put]
              refine wp_region_tail 0 3 1 (by kernel_rfl) (by kernel_rfl) ?_
              simp only [List.take_succ_cons, List.take_zero, List.drop_succ_cons, List.drop_zero, List.foldl_nil]
              go_big_quiet_step (fail)
              refine BigFrame.wpQuiet_want rfl (fun K hK => quiet_load_mid 24 _ rfl w9.heap.size 0 rfl CP _ KPr.out Tryd.underlying24 rfl KPiL.out (hK _ ?_))
              clear hK K
              simp only [Act.put, List.setIfInBounds_toArray, List.set_cons_zero, List.set_cons_succ]
              go_big_quiet_step (fail)
              refine wpQuiet_nil ?_
              intro m
              refine wpTail_step (fun K hK => ?_)
              refine wp_store_row 24 _ _ rfl w.heap.size CP.toArray rfl rfl 24 _ (Kk10.out m) KPi.out (by rw [KPz.out, List.size_toArray, cellsK_length, z32_length]) KPo.out (hK _ _ ?_)
              clear hK K
              refine wpTail_step (fun K hK => ?_)
              go_simp
              refine hK _ _ (wpTail_nil (NoPanic.normal ?_))
              clear hK K
              go_wp2
              refine bodyPost_ret (v := .tuple #[v5, .agg CP.toArray, .int .i64 0]) (results_trt (t := 2) (p := 3) (u := 4) (ty := 24) Tryd.results6 _ _ w.heap.size 24 _ (0, 0) _ rfl (by have := Kfin.out m; unfold BlkK at this; rw [KCP.out] at this; exact this) Tryd.underlying24 rfl KPi.out) rfl ⟨_, by rw [KVP.out, KV.out, KCP.out], by rw [KVL.out]; exact KOf.out m, KBf.out m⟩
        · have hna' : namedB xs n = false := by simpa using hna
          rw [hna']
          have hne : (4 : Int) ≠ 0 := by decide
          have KV : Kept (E = 4) := ⟨by rw [KE4.out, if_neg (fun h => hna h.1)]⟩
          have KW := Kept.mk (KErr.out _ KV.out hne)
          have KbW : Kept (BlkK .u8 w5 w.heap.size 24 z32) := ⟨Kk0.out.far KB5.out (by omega)⟩
          have KBW : Kept (Below w.heap.size w (w5.setRow w.heap.size (cellsK .u8 z32).toArray)) := ⟨below_setRow (KB0.out.trans ((KB5.out).mono KB0.out.size)) (Nat.le_refl _) _⟩
          clear hne
          go_wp2_with (refine BigFrame.wpList_want rfl (fun K hK => wp_store_row 24 _ _ rfl w.heap.size (cellsK .u8 z32).toArray rfl rfl 24 _ KbW.out z32_info rfl (cellsK_all _ _) (hK _ _ ?_)))
          refine bodyPost_ret (v := .tuple #[.slice none 0 0, .agg (cellsK .u8 z32).toArray, .int .i64 (4)]) (results_trt (t := 2) (p := 3) (u := 4) (ty := 24) Tryd.results6 _ _ w.heap.size 24 _ (0, 0) _ rfl (blk_setRow KbW.out z32) Tryd.underlying24 rfl z32_info) rfl ⟨_, by rw [KW.out.2, KV.out], by rw [KW.out.1]; exact OwnR.nil _ _ _, KBW.out⟩
      · have hd : (!decide (D = SU)) = true := by rw [decide_eq_false hDS]; rfl
        rw [hd]
        have hne : (6 : Int) ≠ 0 := by decide
        have KV : Kept (E = 6) := ⟨by rw [KE3.out, if_pos hDS]⟩
        have KW := Kept.mk (KErr.out _ KV.out hne)
        have KbW : Kept (BlkK .u8 w4 w.heap.size 24 z32) := ⟨Kk0.out.far KB4.out (by omega)⟩
        have KBW : Kept (Below w.heap.size w (w4.setRow w.heap.size (cellsK .u8 z32).toArray)) := ⟨below_setRow (KB0.out.trans ((KB4.out).mono KB0.out.size)) (Nat.le_refl _) _⟩
        clear hne
        go_wp2_with (refine BigFrame.wpList_want rfl (fun K hK => wp_store_row 24 _ _ rfl w.heap.size (cellsK .u8 z32).toArray rfl rfl 24 _ KbW.out z32_info rfl (cellsK_all _ _) (hK _ _ ?_)))
        refine bodyPost_ret (v := .tuple #[.slice none 0 0, .agg (cellsK .u8 z32).toArray, .int .i64 (6)]) (results_trt (t := 2) (p := 3) (u := 4) (ty := 24) Tryd.results6 _ _ w.heap.size 24 _ (0, 0) _ rfl (blk_setRow KbW.out z32) Tryd.underlying24 rfl z32_info) rfl ⟨_, by rw [KW.out.2, KV.out], by rw [KW.out.1]; exact OwnR.nil _ _ _, KBW.out⟩
    · have hne : sE ≠ 0 := h3
      have d1 : (sE != 0) = true := by simpa using h3
      have KVE : Kept (E = sE) := ⟨by rw [KE2.out, if_pos h3]⟩
      clear h3
      have KV : Kept (E = sE) := ⟨KVE.out⟩
      have KW := Kept.mk (KErr.out _ KV.out hne)
      have KbW : Kept (BlkK .u8 w1 w.heap.size 24 z32) := ⟨Kk0.out.far KB1.out (by omega)⟩
      have KBW : Kept (Below w.heap.size w (w1.setRow w.heap.size (cellsK .u8 z32).toArray)) := ⟨below_setRow (KB0.out.trans ((KB1.out).mono KB0.out.size)) (Nat.le_refl _) _⟩
      clear hne
      go_wp2_with (refine BigFrame.wpList_want rfl (fun K hK => wp_store_row 24 _ _ rfl w.heap.size (cellsK .u8 z32).toArray rfl rfl 24 _ KbW.out z32_info rfl (cellsK_all _ _) (hK _ _ ?_)))
      refine bodyPost_ret (v := .tuple #[.slice none 0 0, .agg (cellsK .u8 z32).toArray, .int .i64 (sE)]) (results_trt (t := 2) (p := 3) (u := 4) (ty := 24) Tryd.results6 _ _ w.heap.size 24 _ (0, 0) _ rfl (blk_setRow KbW.out z32) Tryd.underlying24 rfl z32_info) rfl ⟨_, by rw [KW.out.2, KV.out], by rw [KW.out.1]; exact OwnR.nil _ _ _, KBW.out⟩
  · have hne : (cntS xs).2 ≠ 0 := h2
    have d1 : ((cntS xs).2 != 0) = true := by simpa using h2
    have d2 : ((cntS xs).2 == 0) = false := by simpa using h2
    have KVE : Kept (E = (cntS xs).2) := ⟨by rw [KE.out, if_pos h2]⟩
    clear h2
    generalize (cntS xs).2 = cE at *
    generalize (cntS xs).1 = cN at *
    have KV : Kept (E = cE) := ⟨KVE.out⟩
    have KW := Kept.mk (KErr.out _ KV.out hne)
    have KbW : Kept (BlkK .u8 w1 w.heap.size 24 z32) := ⟨Kk0.out.far KB1.out (by omega)⟩
    have KBW : Kept (Below w.heap.size w (w1.setRow w.heap.size (cellsK .u8 z32).toArray)) := ⟨below_setRow (KB0.out.trans ((KB1.out).mono KB0.out.size)) (Nat.le_refl _) _⟩
    clear hne
    go_wp2_with (refine BigFrame.wpList_want rfl (fun K hK => wp_store_row 24 _ _ rfl w.heap.size (cellsK .u8 z32).toArray rfl rfl 24 _ KbW.out z32_info rfl (cellsK_all _ _) (hK _ _ ?_)))
    refine bodyPost_ret (v := .tuple #[.slice none 0 0, .agg (cellsK .u8 z32).toArray, .int .i64 (cE)]) (results_trt (t := 2) (p := 3) (u := 4) (ty := 24) Tryd.results6 _ _ w.heap.size 24 _ (0, 0) _ rfl (blk_setRow KbW.out z32) Tryd.underlying24 rfl z32_info) rfl ⟨_, by rw [KW.out.2, KV.out], by rw [KW.out.1]; exact OwnR.nil _ _ _, KBW.out⟩
end Go.Proofs.YtgoegmaepafopaaDoor
