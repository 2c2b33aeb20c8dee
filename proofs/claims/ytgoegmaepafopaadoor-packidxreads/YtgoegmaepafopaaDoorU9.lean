/-
  Walks: the document's DocParse. (By tools/gen_pxu4.py.)
-/
import Derived.Test.YtgoegmaepafopaaDoorU3
namespace Go.Proofs.YtgoegmaepafopaaDoor
open Go.RowKit Go.Sort

theorem BlB.grown {w w' : World} {g : Nat} {bs : List Bool} {ob : Option Nat} (h : BlB w g bs) (hg : w.grownBy w' ob) (ho : ∀ k, ob = some k → g + 1 ≤ k) : BlB w' g bs := by
  have hl := h.lt
  unfold BlB at h ⊢
  rw [hg.block g hl (fun e => by have := ho g e.symm; omega)]
  exact h
theorem heap_other (w : World) (g i : Nat) (v : Value) {k : Nat} (h : k ≠ g) : (w.setCell ⟨g, i, none⟩ v).heap[k]? = w.heap[k]? := Below.heap_setCell _ _ _ _ (fun e => h e)
theorem BlB.far {w w' : World} {g : Nat} {bs : List Bool} (h : BlB w g bs) (hb : w'.heap[g]? = w.heap[g]?) : BlB w' g bs := by
  unfold BlB at h ⊢
  rw [hb]
  exact h
theorem below_none {B : Nat} {w w' : World} (h : w.grownBy w' none) (hB : B ≤ w.heap.size) : Below B w w' := (Below.refl B w).grown h hB (fun g hg => by cases hg)
theorem range_of_blockR {w : World} {b : Nat} {cs : List Value} {t : TypeId} (h : w.heap[b]? = some (.cells cs.toArray t)) : w.rangeAt b 0 cs := fun j u hu => by
  rw [Nat.zero_add, cell_of_row w _ j _ _ (0, 0) h]
  simpa using hu
theorem info_rowL {r : RowC} (h : r.ok) : (Tryd.prog.info? 42).map (·.size) = some r.l.length := by rw [RowC.len h]; exact info_row2
theorem info_rowA {r : RowC} (h : r.ok) : (Tryd.prog.info? 42).map (·.size) = some r.l.toArray.size := by rw [row_size h]; exact info_row2

set_option maxHeartbeats 8000000 in
set_option maxRecDepth 100000 in
theorem docParse_any {S : Nat → Prop} (v : Value) (xs : List Int) (w : World) (h : Rd .u8 S w v xs) (hA : AllB xs) (hl : xs.length + 20 ≤ 140737488355328) :
    Calls Tryd.prog 8 #[v] w fun e w' => ∃ v', e = .returned (.tuple #[v', .agg (cellsK .u8 (prsP xs)).toArray, .int .i64 (prsE xs)]) ∧ OwnR 42 w' w.heap.size v' (prsL xs) ∧ Below w.heap.size w w' := by
  obtain ⟨w0, hw0, hbk0, hs0, hB0⟩ := one_id w
  have hw0' : w.alloc (.cells #[.int .u8 0, .int .u8 0, .int .u8 0, .int .u8 0, .int .u8 0, .int .u8 0, .int .u8 0, .int .u8 0, .int .u8 0, .int .u8 0, .int .u8 0, .int .u8 0, .int .u8 0, .int .u8 0, .int .u8 0, .int .u8 0, .int .u8 0, .int .u8 0, .int .u8 0, .int .u8 0, .int .u8 0, .int .u8 0, .int .u8 0, .int .u8 0, .int .u8 0, .int .u8 0, .int .u8 0, .int .u8 0, .int .u8 0, .int .u8 0, .int .u8 0, .int .u8 0] 24) = w0 := hw0
  obtain ⟨a, c, rfl, hac, hlc, hcm⟩ := h.form
  have KH0 := Kept.mk (h.later hB0 (Nat.le_refl _))
  have KB0 := Kept.mk hB0
  have Kk0 := Kept.mk hbk0
  have KA := Kept.mk hA
  have KC := Kept.mk (sizes_any _ xs w0 KH0.out hA hl)
  have KE := Kept.mk (prsE_sz xs)
  have KL : Kept (prsL xs = if prsE xs = 0 then rowsR xs (cntS xs).1.toNat else []) := ⟨rfl⟩
  have KP : Kept (prsP xs = if prsE xs = 0 then seg xs (xs.length - 64) 32 else z32) := ⟨rfl⟩
  have KOk := Kept.mk (szE_ok hA (p := xs))
  clear h hB0 hbk0 hw0 hA
  generalize prsE xs = E at *
  generalize prsL xs = L at *
  generalize prsP xs = PP at *
  have KErr : Kept (∀ (er : Int), E = er → er ≠ 0 → L = [] ∧ PP = z32) := ⟨fun er he hne => ⟨by rw [KL.out, he, if_neg hne], by rw [KP.out, he, if_neg hne]⟩⟩
  go_enter Tryd.func8, Tryd.ntmps8
  go_wp2_with fail
  refine Calls.mono KC.out (fun e w1 hp => ?_)
  obtain ⟨⟨n0, l0, rfl, hn0⟩, hww⟩ := hp
  subst w1
  have KB00 : Kept (Below w0.heap.size w0 w0) := ⟨Below.refl _ _⟩
  clear KC hw0'
  by_cases hz : szE xs = 0
  · obtain ⟨h1096, n, hn1, hn4, hhd, hfit⟩ := KOk.out hz
    obtain rfl : n0 = (n : Int) := by rw [hn0 hz, hn1]
    rw [hz]
    rw [hn1] at KE KL
    rw [Int.toNat_natCast] at KE KL
    have KE2 : Kept (E = if seg xs (xs.length - 32) 32 ≠ sumB (xs.take (xs.length - 32)) then 6 else if namedB xs n = true ∧ riseB (rowsR xs n) = true ∧ fanV (rowsR xs n) = fanRL xs then 0 else 4) := ⟨by rw [KE.out, if_neg (by rw [hz]; decide)]⟩
    have KFit := Kept.mk hfit
    have KDf := Kept.mk (doc_form KA.out hfit hn4 hhd)
    have hfl : 1096 + n * 40 ≤ xs.length := by unfold Fit at hfit; omega
    have KRok := Kept.mk (rowsR_ok KA.out hfit)
    clear hz hn0 hn1 hhd hfit KE KOk
    obtain ⟨b, off, c', hv, hblt, -, -, hSb, -⟩ := KH0.out.open (by omega)
    simp at hv
    obtain ⟨rfl, rfl⟩ := hv
    obtain ⟨m, hm⟩ : ∃ m, xs.length = m + 32 := ⟨xs.length - 32, by omega⟩
    have hm' : xs.length - 32 = m := by omega
    rw [hm'] at KE2 KDf
    have KDl : Kept ((seg xs m 32).length = 32) := ⟨seg_len _ _ _ (by omega)⟩
    have KRF : Kept (∀ W, Below w0.heap.size w0 W → Rd .u8 S W (.slice (some ⟨b, off, none⟩) m c) (xs.take m)) := ⟨fun W hW => rd_front (KH0.out.later hW (Nat.le_refl _)) (by omega) (by omega)⟩
    have KRB : Kept (∀ W, Below w0.heap.size w0 W → Rd .u8 S W (.slice (some ⟨b, off + m, none⟩) 32 (c - m)) (seg xs m 32)) := ⟨fun W hW => rd_back (KH0.out.later hW (Nat.le_refl _)) (by omega)⟩
    have KSum : Kept (Calls Tryd.prog 26 #[.slice (some ⟨b, off, none⟩) m c] w0 fun e w' => e = .returned (.agg (cellsK .u8 (sumB (xs.take m))).toArray) ∧ Below w0.heap.size w0 w') := ⟨Sh.rsum_any _ (xs.take m) w0 (shRd (KRF.out w0 (Below.refl _ _)) (KA.out.take _))⟩
    have KSl := Kept.mk (sumB_length (xs.take m))
    have KSA := Kept.mk (sumB_allB (xs.take m))
    have KDA : Kept (AllB (seg xs m 32)) := ⟨(KA.out.drop _).take _⟩
    have e1 : IntKind.i64.wrap ((xs.length : Int) - 32) = (m : Int) := by rw [wr64 (by omega) (by omega)]; omega
    have e2 : (m : Int) ≤ (xs.length : Int) := by omega
    have e3 : (xs.length : Int) ≤ (c : Int) := by omega
    have e4 : ¬ c = m := by omega
    have e5 : (m : Int) ≤ (c : Int) := by omega
    have hd0 : xs.length - m = 32 := by omega
    have Khm := Kept.mk hm
    clear hm hm' KRF hcm hac hlc hblt hSb
    generalize hSU : sumB (xs.take m) = SU at *
    generalize hD : seg xs m 32 = D at *
    clear hSU hD
    go_wp2_with fail
    refine Calls.mono KSum.out (fun e w2 hp => ?_)
    obtain ⟨rfl, hb2⟩ := hp
    obtain ⟨w3, hw3, hb3, hs3, hbk3⟩ := box_id w2 SU
    have hB3 := hb2.trans (hb3.mono hb2.size)
    have KB3 := Kept.mk hB3
    have KSi := Kept.mk (id_info KSl.out)
    have KSz : Kept ((cellsK .u8 SU).toArray.size = 32) := ⟨by rw [List.size_toArray, cellsK_length, KSl.out]⟩
    have KSo := Kept.mk (cellsK_all .u8 SU)
    have KSame : Kept (∀ q, Calls Tryd.prog 15 #[.slice (some ⟨w2.heap.size, 0, none⟩) 32 32, .slice (some ⟨b, off + m, none⟩) 32 (c - m)] (w3.drewN q) fun e w' => e = .returned (.bool (decide (SU = D))) ∧ w' = w3.drewN q) := ⟨fun q => by
      have h1 := (hbk3.drewN q).rd (by rw [KSl.out]; omega)
      rw [KSl.out] at h1
      exact Sh.same_any _ _ SU D (w3.drewN q) (shRd h1 KSA.out) (shRd (KRB.out _ (below_drewN hB3 q)) KDA.out)⟩
    have KB3q : Kept (∀ q, Below w0.heap.size w0 (w3.drewN q)) := ⟨fun q => below_drewN hB3 q⟩
    clear hb2 hb3 hs3 hbk3 hB3 KSum KRB
    generalize hCS : (cellsK .u8 SU).toArray = CS at *
    clear hCS
    obtain ⟨sq, hsq⟩ : ∃ sq, decide (SU = D) = sq := ⟨_, rfl⟩
    have Ksq := Kept.mk hsq
    rw [hsq] at KSame
    clear hsq
    go_upto_region 5 with (refine BigFrame.wpList_want rfl (fun K hK => wp_store_row 24 _ _ rfl w2.heap.size CS rfl rfl 24 _ (heap_alloc_new w2 _) KSi.out (by rw [KSz.out]; rfl) KSo.out (hK _ _ ?_)); rw [World.setRow_alloc_new])
    try rw [hw3]
    clear hw3
    refine wp_region_tail 0 6 1 (by kernel_rfl) (by kernel_rfl) ?_
    simp only [List.take_succ_cons, List.take_zero, List.drop_succ_cons, List.drop_zero, List.foldl_nil]
    repeat (first | go_big_quiet_step (fail) | quiet_step (fail))
    refine wpQuiet_nil ?_
    intro q
    refine wpTail_step (fun K hK => ?_)
    go_simp
    refine Calls.mono (KSame.out q) (fun e w4 hp => ?_)
    obtain ⟨rfl, hw4⟩ := hp
    have hB4 := KB3q.out q
    rw [← hw4] at hB4
    have KB4 := Kept.mk hB4
    clear hB4 hw4
    refine hK _ _ ?_
    clear hK K
    refine wpTail_step (fun K hK => ?_)
    go_simp
    refine hK _ _ (wpTail_nil (NoPanic.normal ?_))
    clear hK K KSame KB3q
    try simp only [Act.put, List.setIfInBounds_toArray, List.set_cons_zero, List.set_cons_succ]
    cases sq with
    | false =>
      have KV : Kept (E = 6) := ⟨by rw [KE2.out, if_pos (fun h => of_decide_eq_false Ksq.out h.symm)]⟩
      have hne : (6 : Int) ≠ 0 := by first | decide | assumption
      have KW := Kept.mk (KErr.out _ KV.out hne)
      have KbW : Kept (BlkK .u8 w4 w.heap.size 24 z32) := ⟨Kk0.out.far KB4.out (by omega)⟩
      have KBW : Kept (Below w.heap.size w (w4.setRow w.heap.size (cellsK .u8 z32).toArray)) := ⟨below_setRow (KB0.out.trans ((KB4.out).mono KB0.out.size)) (Nat.le_refl _) _⟩
      clear hne
      go_wp2_with (refine BigFrame.wpList_want rfl (fun K hK => wp_store_row 24 _ _ rfl w.heap.size (cellsK .u8 z32).toArray rfl rfl 24 _ KbW.out z32_info rfl (cellsK_all _ _) (hK _ _ ?_)))
      refine bodyPost_ret (v := .tuple #[.slice none 0 0, .agg (cellsK .u8 z32).toArray, .int .i64 (6)]) (results_trt (t := 2) (p := 3) (u := 4) (ty := 24) Tryd.results8 _ _ w.heap.size 24 _ (0, 0) _ rfl (blk_setRow KbW.out z32) Tryd.underlying24 rfl z32_info) rfl ⟨_, by rw [KW.out.2, KV.out], by rw [KW.out.1]; exact OwnR.nil _ _ _, KBW.out⟩
    | true =>
      have hDS : D = SU := (of_decide_eq_true Ksq.out).symm
      have KE3 : Kept (E = if riseB (rowsR xs n) = true ∧ buildL (rowsR xs n) (longR xs n) (seg xs (xs.length - 64) 32) = xs then 0 else 4) := ⟨by
        rw [KE2.out, if_neg (by simpa using hDS)]
        have := KDf.out hDS
        by_cases hq : riseB (rowsR xs n) = true ∧ buildL (rowsR xs n) (longR xs n) (seg xs (xs.length - 64) 32) = xs
        · rw [if_pos hq, if_pos (this.2 hq)]
        · rw [if_neg hq, if_neg (fun h => hq (this.1 h))]⟩
      clear hDS KE2 KDf e4
      obtain ⟨i0, z0, hi, hz, hs, hb0, hc⟩ := infoR2
      have hll := longR_length xs n
      have hrl := rowsR_length xs n
      have KLl := Kept.mk hll
      have KRl := Kept.mk hrl
      have KBg4 : Kept (∀ W t, Below w0.heap.size w0 W → t + 4 ≤ xs.length → Calls Tryd.prog 28 #[.slice (some ⟨b, off, none⟩) xs.length c, .int .i64 (t : Int), .int .i64 4] W fun e w' => e = .returned (.int .u64 (Nu.bigT xs t 4)) ∧ w' = W) := ⟨fun W t hW ht => rbig_any _ xs t 4 W (KH0.out.later hW (Nat.le_refl _)) KA.out (by omega) (by omega) ht⟩
      have KBg8 : Kept (∀ W t, Below w0.heap.size w0 W → t + 8 ≤ xs.length → Calls Tryd.prog 28 #[.slice (some ⟨b, off, none⟩) xs.length c, .int .i64 (t : Int), .int .i64 8] W fun e w' => e = .returned (.int .u64 (Nu.bigT xs t 8)) ∧ w' = W) := ⟨fun W t hW ht => rbig_any _ xs t 8 W (KH0.out.later hW (Nat.le_refl _)) KA.out (by omega) (by omega) ht⟩
      clear hll hrl
      go_wp2_with (refine wpList_makeB _ rfl _ _ rfl _ _ n rfl rfl rfl rfl (by omega) ?_; intro w5 hblb hgrow; have KL5 := Kept.mk hblb; have KG5 := Kept.mk hgrow; clear hblb hgrow)
      have K45 : Kept (Below w4.heap.size w4 w5) := ⟨below_none KG5.out (Nat.le_refl _)⟩
      go_loopw [9, 11, 12] (fun mv nv iv wr => ∃ k : Nat, k ≤ n ∧ iv = .int .i64 k ∧ nv = .int .i64 ((nl (longR xs n) k : Nat) : Int) ∧ OwnR 42 wr (w4.heap.size + 1) mv ((rowsR xs n).take k) ∧ BlB wr w4.heap.size (lgM (longR xs n) k) ∧ Below w4.heap.size w4 wr) (fun _ _ iv _ => n - (intOf iv).toNat)
      case atStart => exact ⟨0, Nat.zero_le _, rfl, by simp [nl], OwnR.nil _ _ _, by rw [lgM_zero, KLl.out]; exact KL5.out, K45.out⟩
      case round =>
        obtain ⟨k, hk, rfl, rfl, how, hbb, hbel⟩ := hrel
        obtain ⟨ma, mc, rfl, -⟩ := how.rdR
        have hnl := nl_le (longR xs n) k
        have htl : ((rowsR xs n).take k).length = k := by rw [List.length_take, KRl.out]; omega
        have hB0r := KB4.out.trans (hbel.mono KB4.out.size)
        by_cases hlt : k < n
        · have hki : (k : Int) < (n : Int) := by omega
          obtain ⟨t1, ht1⟩ : ∃ t1, t1 = 1032 + k * 32 := ⟨_, rfl⟩
          obtain ⟨t2, ht2⟩ : ∃ t2, t2 = 1032 + n * 32 + k * 4 := ⟨_, rfl⟩
          obtain ⟨t3, ht3⟩ : ∃ t3, t3 = 1032 + n * 36 + k * 4 := ⟨_, rfl⟩
          have KId := Kept.mk (id_any _ xs t1 wr (KH0.out.later hB0r (Nat.le_refl _)) (by omega) hl)
          have KRow : Kept (∀ y, lng (longR xs n) k = true → Nu.bigT xs (1032 + n * 40 + nl (longR xs n) k * 8) 8 = y → rowR xs n k = ⟨seg xs t1 32, Nu.bigT xs t2 4, y⟩) := ⟨fun y h hy => by rw [rowR_long h, ht1, ht2, hy]⟩
          have KRow0 : Kept (lng (longR xs n) k = false → rowR xs n k = ⟨seg xs t1 32, Nu.bigT xs t2 4, Nu.bigT xs t3 4⟩) := ⟨fun h => by rw [rowR_short h, ht1, ht2, ht3]; rfl⟩
          have KLg : Kept (lng (longR xs n) k = decide (2147483648 ≤ Nu.bigT xs t3 4)) := ⟨by rw [lng_longR xs n k hlt, ht3]; rfl⟩
          have KrI : Kept (rowI (rowsR xs n) k = rowR xs n k) := ⟨rowsR_get xs n k hlt⟩
          have KrOk : Kept ((rowR xs n k).ok) := ⟨by rw [← KrI.out]; exact rowI_ok KRok.out (by rw [KRl.out]; exact hlt)⟩
          have Kr0 : Kept ((⟨seg xs t1 32, Nu.bigT xs t2 4, Nu.bigT xs t3 4⟩ : RowC).ok) := ⟨⟨seg_len _ _ _ (by omega), (KA.out.drop _).take _, (bigT_range xs t2 4 KA.out (by omega)).1, (bigT_range xs t2 4 KA.out (by omega)).2, (bigT_range xs t3 4 KA.out (by omega)).1, Int.lt_trans (bigT_range xs t3 4 KA.out (by omega)).2 (by decide)⟩⟩
          have KSt := Kept.mk (take_rows (rs := rowsR xs n) (k := k) (by rw [KRl.out]; exact hlt))
          rw [KrI.out] at KSt
          have KNs := Kept.mk (nl_succ (longR xs n) k)
          have KNm := Kept.mk (nl_mono (longR xs n) (show k + 1 ≤ n from hlt))
          have f1 : IntKind.i64.wrap (32 * (k : Int)) = 32 * (k : Int) := wr64 (by omega) (by omega)
          have f2 : IntKind.i64.wrap (1032 + 32 * (k : Int)) = (t1 : Int) := by rw [wr64 (by omega) (by omega)]; omega
          have f3 : IntKind.i64.wrap (32 * (n : Int)) = 32 * (n : Int) := wr64 (by omega) (by omega)
          have f4 : IntKind.i64.wrap (1032 + 32 * (n : Int)) = 1032 + 32 * (n : Int) := wr64 (by omega) (by omega)
          have f5 : IntKind.i64.wrap (4 * (k : Int)) = 4 * (k : Int) := wr64 (by omega) (by omega)
          have f6 : IntKind.i64.wrap (1032 + 32 * (n : Int) + 4 * (k : Int)) = (t2 : Int) := by rw [wr64 (by omega) (by omega)]; omega
          have f7 : IntKind.i64.wrap (36 * (n : Int)) = 36 * (n : Int) := wr64 (by omega) (by omega)
          have f8 : IntKind.i64.wrap (1032 + 36 * (n : Int)) = 1032 + 36 * (n : Int) := wr64 (by omega) (by omega)
          have f9 : IntKind.i64.wrap (1032 + 36 * (n : Int) + 4 * (k : Int)) = (t3 : Int) := by rw [wr64 (by omega) (by omega)]; omega
          have f10 : IntKind.i64.wrap (40 * (n : Int)) = 40 * (n : Int) := wr64 (by omega) (by omega)
          have f11 : IntKind.i64.wrap (1032 + 40 * (n : Int)) = 1032 + 40 * (n : Int) := wr64 (by omega) (by omega)
          have f20 : IntKind.i64.wrap ((k : Int) + 1) = (k : Int) + 1 := wr64 (by omega) (by omega)
          have Kt2 : Kept (t2 + 4 ≤ xs.length) := ⟨by omega⟩
          have Kt3 : Kept (t3 + 4 ≤ xs.length) := ⟨by omega⟩
          have KLn : Kept ((((rowsR xs n).take k).length + [rowR xs n k].length) * 48 ≤ 140737488355328) := ⟨by rw [htl]; simp; omega⟩
          have KOw := Kept.mk how
          have Kbb := Kept.mk hbb
          have KBr := Kept.mk hbel
          have KB0r := Kept.mk hB0r
          clear how hbb hbel hB0r ht1 ht2 ht3 htl
          generalize rowR xs n k = RR at *
          generalize (rowsR xs n).take k = TK at *
          go_wp2_with fail
          refine Calls.mono KId.out (fun e w6 hp6 => ?_)
          obtain ⟨rfl, hb6⟩ := hp6
          have hB06 := KB0r.out.trans (hb6.mono KB0r.out.size)
          have KC2 := Kept.mk (KBg4.out w6 t2 hB06 Kt2.out)
          have KC3 := Kept.mk (KBg4.out w6 t3 hB06 Kt3.out)
          have Kb6 := Kept.mk hb6
          have KB06 := Kept.mk hB06
          clear hb6 hB06 KId
          generalize hI32 : seg xs t1 32 = I32 at *
          clear hI32
          generalize hcr : Nu.bigT xs t2 4 = cr at *
          generalize hsh : Nu.bigT xs t3 4 = sh at *
          clear hcr hsh
          have hcru : IntKind.u32.wrap cr = cr := wru32 Kr0.out.2.2.1 Kr0.out.2.2.2.1
          obtain ⟨w7, hw7, hB7, hlt7, hh7, -, -, hcP7, -⟩ := box_row w6 42 Kr0.out
          have hfz7 : w7.frozen? ⟨w6.heap.size, 33, none⟩ = false := by simp [World.frozen?, hh7]
          have KI0 := Kept.mk (info_rowA Kr0.out)
          have KL0 := Kept.mk (row_size Kr0.out)
          have KO0 : Kept ((RowC.l ⟨I32, cr, sh⟩).toArray.all (·.oneCell') = true) := ⟨all_oneCell_toArray (RowC.ones _)⟩
          have KCL0 : Kept (cellsK .u8 I32 ++ [.int .u32 cr, .int .u64 sh] = RowC.l ⟨I32, cr, sh⟩) := ⟨rfl⟩
          have KIl : Kept ((cellsK .u8 I32).length = 32) := ⟨by rw [cellsK_length]; exact Kr0.out.1⟩
          have K32 : Kept (I32.length = 32) := ⟨Kr0.out.1⟩
          have hbr7 := Kb6.out.trans (hB7.mono Kb6.out.size)
          have KB07 := Kept.mk (KB06.out.trans (hB7.mono KB06.out.size))
          have Kbr7 := Kept.mk hbr7
          have KO7 := Kept.mk (KOw.out.later hbr7 (Nat.le_refl _))
          have KL7 := Kept.mk (Kbb.out.later hbr7 (Nat.le_refl _))
          have KB47 := Kept.mk (KBr.out.trans (hbr7.mono KBr.out.size))
          have Kh7 := Kept.mk hh7
          have Kr6 : Kept (wr.heap.size ≤ w6.heap.size) := ⟨Kb6.out.size⟩
          have Klr := Kept.mk Kbb.out.lt
          have KcP7 := Kept.mk hcP7
          have KfP7 := Kept.mk hfz7
          have KOr := Kept.mk KOw.out
          clear hB7 hlt7 hh7 hbr7 hcP7 hfz7 Kb6 KOw Kbb
          generalize hR0 : RowC.l ⟨I32, cr, sh⟩ = R0 at *
          generalize hII : cellsK .u8 I32 = II at *
          have KR0 := Kept.mk hR0
          clear hR0 hII
          go_wp2_with fail
          refine Calls.mono KC2.out (fun e wq hq => ?_)
          obtain ⟨rfl, hwq⟩ := hq
          subst wq
          clear KC2
          go_wp2_with fail
          refine Calls.mono KC3.out (fun e wq hq => ?_)
          obtain ⟨rfl, hwq⟩ := hq
          subst wq
          clear KC3
          go_upto_region 14 with (first | (refine wpList_buildR rfl 42 _ _ _ rfl built2 II KIl.out cr sh rfl rfl rfl ?_; rw [KCL0.out]) | (refine BigFrame.wpList_want rfl (fun K hK => wp_store_row 42 _ _ rfl w6.heap.size R0.toArray rfl rfl 42 _ (heap_alloc_new w6 _) KI0.out (by rw [KL0.out]; rfl) KO0.out (hK _ _ ?_)); rw [World.setRow_alloc_new]))
          try rw [hw7]
          clear hw7 hcru f1 f2 f3 f4 f5 f6 f7 f8 f9
          by_cases hsl : 2147483648 ≤ sh
          · have hd : decide (2147483648 ≤ sh) = true := decide_eq_true hsl
            have hlg : lng (longR xs n) k = true := by rw [KLg.out, hd]
            have hns : nl (longR xs n) (k + 1) = nl (longR xs n) k + 1 := by rw [KNs.out, if_pos hlg]
            have KQ : Kept (Value.int .i64 ((nl (longR xs n) k : Nat) : Int) = Value.int .i64 ((nl (longR xs n) k : Nat) : Int)) := ⟨rfl⟩
            clear KQ
            obtain ⟨q8, hq8⟩ : ∃ q8, nl (longR xs n) k = q8 := ⟨_, rfl⟩
            have hq8l : q8 + 1 ≤ nl (longR xs n) n := by have := KNm.out; rw [hns, hq8] at this; exact this
            obtain ⟨t4, ht4⟩ : ∃ t4, t4 = 1032 + n * 40 + q8 * 8 := ⟨_, rfl⟩
            have ht4l : t4 + 8 ≤ xs.length := by have := KFit.out; unfold Fit at this; omega
            obtain ⟨y, hy⟩ : ∃ y, Nu.bigT xs t4 8 = y := ⟨_, rfl⟩
            have KRR : Kept (RR = ⟨I32, cr, y⟩) := ⟨KRow.out y hlg (by rw [hq8, ← ht4]; exact hy)⟩
            have hlgs : lgM (longR xs n) (k + 1) = (lgM (longR xs n) k).set k true := by rw [← lgM_step, hlg]
            have Klgs := Kept.mk hlgs
            have hkl : k < (lgM (longR xs n) k).length := by rw [lgM_len, KLl.out]; exact hlt
            have hcL := KL7.out.cell k hkl
            have hfL := KL7.out.frozen k
            have g1 : IntKind.i64.wrap (8 * (q8 : Int)) = 8 * (q8 : Int) := wr64 (by omega) (by omega)
            have g2 : IntKind.i64.wrap (1032 + 40 * (n : Int) + 8 * (q8 : Int)) = (t4 : Int) := by rw [wr64 (by omega) (by omega)]; omega
            have g3 : IntKind.i64.wrap ((q8 : Int) + 1) = (q8 : Int) + 1 := wr64 (by omega) (by omega)
            have KQ : Kept (Value.int .i64 ((q8 : Int) + 1) = Value.int .i64 ((nl (longR xs n) (k + 1) : Nat) : Int)) := ⟨by rw [hns, hq8]; rfl⟩
            obtain ⟨w8, hw8⟩ : ∃ w8, w7.setCell ⟨w4.heap.size, k, none⟩ (.bool true) = w8 := ⟨_, rfl⟩
            have hne46 : w6.heap.size ≠ w4.heap.size := by have := Klr.out; have := Kr6.out; omega
            have hB08 : Below w0.heap.size w0 w8 := by rw [← hw8]; exact KB07.out.setCell (by show w0.heap.size ≤ w4.heap.size; exact KB4.out.size) _
            have hL8 : BlB w8 w4.heap.size (lgM (longR xs n) (k + 1)) := by rw [← hw8, Klgs.out]; exact KL7.out.set k true
            have hh8 : w8.heap[w6.heap.size]? = some (.cells R0.toArray 42) := by rw [← hw8, heap_other _ _ _ _ hne46]; exact Kh7.out
            have hc8 : w8.cell? ⟨w6.heap.size, 33, none⟩ = some (.int .u64 sh) := by rw [World.cell?_of_block (w := w7) (a := ⟨w6.heap.size, 33, none⟩) (by rw [← hw8]; exact heap_other _ _ _ _ hne46)]; exact KcP7.out
            have hf8 : w8.frozen? ⟨w6.heap.size, 33, none⟩ = false := by simp [World.frozen?, hh8]
            obtain ⟨w9, hw9⟩ : ∃ w9, w8.setCell ⟨w6.heap.size, 33, none⟩ (.int .u64 y) = w9 := ⟨_, rfl⟩
            have KR9' : Kept (w9.heap[w6.heap.size]? = some (.cells RR.l.toArray 42)) := ⟨by rw [← hw9, heap_setCell_same w8 _ 33 _ _ _ hh8, ← KR0.out, row_set33 K32.out, KRR.out]⟩
            have KO9 : Kept (OwnR 42 w9 (w4.heap.size + 1) (.slice ma TK.length mc) TK) := ⟨KO7.out.far fun g hg => by
              have h1 := KO7.out.lt g hg
              have h2 := (KOr.out.lt g hg).2
              rw [← hw9, heap_other _ _ _ _ (by have := Kr6.out; omega), ← hw8, heap_other _ _ _ _ (by omega)]⟩
            have KL9 : Kept (BlB w9 w4.heap.size (lgM (longR xs n) (k + 1))) := ⟨hL8.far (by rw [← hw9]; exact heap_other _ _ _ _ (fun e => hne46 e.symm))⟩
            have KB49 : Kept (Below w4.heap.size w4 w9) := ⟨by rw [← hw9, ← hw8]; exact (KB47.out.setCell (Nat.le_refl _) _).setCell (by show w4.heap.size ≤ w6.heap.size; have := Klr.out; have := Kr6.out; omega) _⟩
            have KC8 := Kept.mk (KBg8.out w8 t4 hB08 ht4l)
            rw [hy] at KC8
            obtain ⟨CL, hCL⟩ : ∃ CL, RR.l = CL := ⟨_, rfl⟩
            have KCL := Kept.mk hCL
            have Kok := Kept.mk KrOk.out
            have KI : Kept ((Tryd.prog.info? 42).map (·.size) = some CL.length) := ⟨by rw [← hCL]; exact info_rowL Kok.out⟩
            have K34 : Kept (CL.length = 34) := ⟨by rw [← hCL]; exact RowC.len Kok.out⟩
            have KR9 : Kept (w9.rangeAt w6.heap.size 0 CL) := ⟨by rw [← hCL]; exact range_of_blockR KR9'.out⟩
            have hcP7 := KcP7.out
            clear hlg hns hq8l hy ht4 ht4l hlgs hkl hne46 hB08 hL8 hh8 hCL hsl KR9'
            generalize lng (lgM (longR xs n) k) k = lg0 at *
            rw [hq8]
            clear hq8
            go_wp2_with fail
            refine Calls.mono KC8.out (fun e wq hq => ?_)
            obtain ⟨rfl, hwq⟩ := hq
            subst wq
            clear KC8 hcP7 hcL hfL
            go_upto_region 18 with fail
            try rw [hw9]
            clear hw8 hc8 hf8
            obtain ⟨wA, hwA⟩ : ∃ wA, w9.alloc (.cells CL.toArray 42) = wA := ⟨_, rfl⟩
            have hBA : Below w9.heap.size w9 wA := by rw [← hwA]; exact (Below.refl _ _).alloc (Nat.le_refl _) _
            have KRA : Kept (RdR wA (.slice (some ⟨w9.heap.size, 0, none⟩) 1 1) [RR]) := ⟨by rw [← hwA, ← KCL.out]; exact rdR_one w9 Kok.out 42⟩
            have KOA := Kept.mk (KO9.out.later hBA (Nat.le_refl _))
            have KLA := Kept.mk (KL9.out.later hBA (Nat.le_refl _))
            have KB4A := Kept.mk (KB49.out.trans (hBA.mono KB49.out.size))
            have hsA : w4.heap.size + 1 ≤ wA.heap.size := by have := KL9.out.lt; have := hBA.size; omega
            clear hBA KO9 KL9 KB49
            go_wp2_with (first | (refine wpList_load_mid rfl 42 _ rfl w6.heap.size 0 rfl CL _ KR9.out Tryd.underlying42 rfl KI.out ?_) | (refine wpList_sliceR rfl 31 42 _ rfl Tryd.underlying31 zeroR2 CL K34.out rfl ?_; rw [hwA]) | (at_builtin; refine wpList_append_rows _ rfl _ _ 31 rfl (w4.heap.size + 1) 42 i0 z0 Tryd.underlying31 hi hz hs hb0 hc (.slice ma TK.length mc) TK rfl KOA.out _ [RR] rfl KRA.out KLn.out hsA ?_; intro vB wB hown hgrow hat; have KOB := Kept.mk hown; have KGB := Kept.mk hgrow; clear hown hgrow hat))
            go_roundw
            case rel => exact ⟨k + 1, by omega, by go_num, KQ.out, by rw [← KSt.out]; exact KOB.out, BlB.grown KLA.out KGB.out (fun g hg => (KOA.out.lt g hg).1), KB4A.out.trans ((Below.refl _ wA).grown KGB.out (by omega) (fun g hg => by have := (KOA.out.lt g hg).1; omega))⟩
            case measure => simp [intOf]; omega
          · have hd : decide (2147483648 ≤ sh) = false := decide_eq_false hsl
            have hlg : lng (longR xs n) k = false := by rw [KLg.out, hd]
            have hns : nl (longR xs n) (k + 1) = nl (longR xs n) k := by rw [KNs.out, if_neg (by rw [hlg]; decide)]; rfl
            have KQ : Kept (Value.int .i64 ((nl (longR xs n) k : Nat) : Int) = Value.int .i64 ((nl (longR xs n) (k + 1) : Nat) : Int)) := ⟨by rw [hns]⟩
            have KRR : Kept (RR = ⟨I32, cr, sh⟩) := ⟨KRow0.out hlg⟩
            obtain ⟨CL, hCL⟩ : ∃ CL, RR.l = CL := ⟨_, rfl⟩
            have KCL := Kept.mk hCL
            have Kok := Kept.mk KrOk.out
            have KI : Kept ((Tryd.prog.info? 42).map (·.size) = some CL.length) := ⟨by rw [← hCL]; exact info_rowL Kok.out⟩
            have K34 : Kept (CL.length = 34) := ⟨by rw [← hCL]; exact RowC.len Kok.out⟩
            have KR9 : Kept (w7.rangeAt w6.heap.size 0 CL) := ⟨by rw [← hCL]; refine range_of_blockR (t := 42) ?_; rw [Kh7.out, ← KR0.out, KRR.out]⟩
            have KO9 := Kept.mk KO7.out
            have KL9 : Kept (BlB w7 w4.heap.size (lgM (longR xs n) (k + 1))) := ⟨by rw [← lgM_same _ hlg]; exact KL7.out⟩
            have KB49 := Kept.mk KB47.out
            have hcP7 := KcP7.out
            clear hlg hns hCL hsl
            generalize nl (longR xs n) k = q8 at *
            go_upto_region 18 with fail
            clear hcP7
            obtain ⟨wA, hwA⟩ : ∃ wA, w7.alloc (.cells CL.toArray 42) = wA := ⟨_, rfl⟩
            have hBA : Below w7.heap.size w7 wA := by rw [← hwA]; exact (Below.refl _ _).alloc (Nat.le_refl _) _
            have KRA : Kept (RdR wA (.slice (some ⟨w7.heap.size, 0, none⟩) 1 1) [RR]) := ⟨by rw [← hwA, ← KCL.out]; exact rdR_one w7 Kok.out 42⟩
            have KOA := Kept.mk (KO9.out.later hBA (Nat.le_refl _))
            have KLA := Kept.mk (KL9.out.later hBA (Nat.le_refl _))
            have KB4A := Kept.mk (KB49.out.trans (hBA.mono KB49.out.size))
            have hsA : w4.heap.size + 1 ≤ wA.heap.size := by have := KL9.out.lt; have := hBA.size; omega
            clear hBA KO9 KL9 KB49
            go_wp2_with (first | (refine wpList_load_mid rfl 42 _ rfl w6.heap.size 0 rfl CL _ KR9.out Tryd.underlying42 rfl KI.out ?_) | (refine wpList_sliceR rfl 31 42 _ rfl Tryd.underlying31 zeroR2 CL K34.out rfl ?_; rw [hwA]) | (at_builtin; refine wpList_append_rows _ rfl _ _ 31 rfl (w4.heap.size + 1) 42 i0 z0 Tryd.underlying31 hi hz hs hb0 hc (.slice ma TK.length mc) TK rfl KOA.out _ [RR] rfl KRA.out KLn.out hsA ?_; intro vB wB hown hgrow hat; have KOB := Kept.mk hown; have KGB := Kept.mk hgrow; clear hown hgrow hat))
            go_roundw
            case rel => exact ⟨k + 1, by omega, by go_num, KQ.out, by rw [← KSt.out]; exact KOB.out, BlB.grown KLA.out KGB.out (fun g hg => (KOA.out.lt g hg).1), KB4A.out.trans ((Below.refl _ wA).grown KGB.out (by omega) (fun g hg => by have := (KOA.out.lt g hg).1; omega))⟩
            case measure => simp [intOf]; omega
        · have hki : ¬ (k : Int) < (n : Int) := by omega
          obtain rfl : k = n := by omega
          have KOl : Kept (OwnR 42 wr (w4.heap.size + 1) (.slice ma ((rowsR xs k).take k).length mc) (rowsR xs k)) := ⟨by
            have e : (rowsR xs k).take k = rowsR xs k := List.take_of_length_le (by rw [KRl.out]; omega)
            rw [e] at how ⊢
            exact how⟩
          rw [htl] at KOl ⊢
          have KLb : Kept (BlB wr w4.heap.size (longR xs k)) := ⟨by
            have := lgM_all (longR xs k)
            rw [KLl.out] at this
            rw [this] at hbb
            exact hbb⟩
          obtain ⟨t5, ht5⟩ : ∃ t5, t5 = xs.length - 64 := ⟨_, rfl⟩
          have e6 : IntKind.i64.wrap ((xs.length : Int) - 64) = (t5 : Int) := by rw [wr64 (by omega) (by omega)]; omega
          have KId := Kept.mk (id_any _ xs t5 wr (KH0.out.later hB0r (Nat.le_refl _)) (by omega) hl)
          have KPl : Kept ((seg xs t5 32).length = 32) := ⟨seg_len _ _ _ (by omega)⟩
          have KPA : Kept (AllB (seg xs t5 32)) := ⟨(KA.out.drop _).take _⟩
          rw [← ht5] at KE3 KP
          have KBr := Kept.mk hbel
          have KB0r := Kept.mk hB0r
          clear how hbb hbel hB0r htl ht5 hnl hlt
          generalize seg xs t5 32 = PK at *
          generalize nl (longR xs k) k = q8 at *
          go_wp2_with fail
          clear hki
          refine Calls.mono KId.out (fun e w13 hp13 => ?_)
          obtain ⟨rfl, hb13⟩ := hp13
          obtain ⟨w14, hw14, hb14, hs14, hbk14⟩ := box_id w13 PK
          have hbr14 := hb13.trans (hb14.mono hb13.size)
          have KO14 := Kept.mk (KOl.out.later hbr14 (Nat.le_refl _))
          have KL14 := Kept.mk (KLb.out.later hbr14 (Nat.le_refl _))
          have KB014 := Kept.mk (KB0r.out.trans (hbr14.mono KB0r.out.size))
          have Kbk14 := Kept.mk hbk14
          have KPi := Kept.mk (id_info KPl.out)
          have KPiL := Kept.mk (id_infoL KPl.out)
          have KPz : Kept ((cellsK .u8 PK).toArray.size = 32) := ⟨by rw [List.size_toArray, cellsK_length, KPl.out]⟩
          have KPo := Kept.mk (cellsK_all .u8 PK)
          have K413 : Kept (w4.heap.size < w13.heap.size) := ⟨by have := KLb.out.lt; have := hb13.size; omega⟩
          clear hb13 hb14 hs14 hbk14 hbr14 KId KOl KLb
          obtain ⟨CP, hCP⟩ : ∃ CP, cellsK .u8 PK = CP := ⟨_, rfl⟩
          have KCP := Kept.mk hCP
          rw [hCP] at hw14 KPi KPiL KPz KPo ⊢
          clear hCP
          go_upto_region 20 with (refine BigFrame.wpList_want rfl (fun K hK => wp_store_row 24 _ _ rfl w13.heap.size CP.toArray rfl rfl 24 _ (heap_alloc_new w13 _) KPi.out (by rw [KPz.out]; rfl) KPo.out (hK _ _ ?_)); rw [World.setRow_alloc_new])
          try rw [hw14]
          clear hw14
          go_wp2_with fail
          go_loopw [15] (fun iv wr => ∃ j : Nat, 1 ≤ j ∧ (j ≤ k ∨ j = 1) ∧ iv = .int .i64 j ∧ (∀ i, i + 1 < k → i + 1 < j → Sh.cmpZ (rowI (rowsR xs k) i).ids (rowI (rowsR xs k) (i + 1)).ids < 0) ∧ Below w14.heap.size w14 wr) (fun iv _ => k - (intOf iv).toNat)
          case atStart => exact ⟨1, Nat.le_refl _, .inr rfl, rfl, fun i _ h => absurd h (by omega), Below.refl _ _⟩
          case round =>
            obtain ⟨j, hj1, hj, rfl, hall, hbel⟩ := hrel
            have KAll := Kept.mk hall
            have KBq := Kept.mk hbel
            clear hall
            by_cases hlt : j < k
            · have hki : (j : Int) < (k : Int) := by omega
              obtain ⟨i, rfl⟩ : ∃ i, j = i + 1 := ⟨j - 1, by omega⟩
              have hil : i < (rowsR xs k).length := by rw [KRl.out]; omega
              have hjl : i + 1 < (rowsR xs k).length := by rw [KRl.out]; omega
              obtain ⟨a', c', hv', -, -, -, hok', hrd'⟩ := KO14.out.rdR.later hbel (Nat.le_refl _)
              obtain ⟨bb, oo, hab, hbl, hrg⟩ := hrd' (by omega)
              have haa : ma = some ⟨bb, oo, none⟩ := by injection hv' with h1 _ _; rw [h1, hab]
              clear hv' hab hrd'
              subst haa
              have hrow : ∀ W, CC wr W → ∀ i, i < (rowsR xs k).length → W.rangeAt bb (oo + i * 34) (cellsK .u8 (rowI (rowsR xs k) i).ids) := fun W hW i hi => row_range32 fun j u hu => by
                rw [hW.cell (p := ⟨bb, oo + i * 34 + j, none⟩) hbl]
                exact hrg i hi j u hu
              have hR1 : Kept (∀ W, CC wr W → W.rangeAt bb (oo + i * 34) (cellsK .u8 (rowI (rowsR xs k) i).ids)) := ⟨fun W hW => hrow W hW i hil⟩
              have hR2 : Kept (∀ W, CC wr W → W.rangeAt bb (oo + (i + 1) * 34) (cellsK .u8 (rowI (rowsR xs k) (i + 1)).ids)) := ⟨fun W hW => hrow W hW (i + 1) hjl⟩
              have hoA := rowI_ok hok' hil
              have hoB := rowI_ok hok' hjl
              have KI1 := Kept.mk (id_infoL hoA.1)
              have KI2 := Kept.mk (id_infoL hoB.1)
              obtain ⟨O, hO⟩ : ∃ O, Sh.cmpZ (rowI (rowsR xs k) i).ids (rowI (rowsR xs k) (i + 1)).ids = O := ⟨_, rfl⟩
              have KOo := Kept.mk hO
              have KCmp : Kept (∀ W, CC wr W → Calls Tryd.prog 29 #[.agg (cellsK .u8 (rowI (rowsR xs k) i).ids).toArray, .agg (cellsK .u8 (rowI (rowsR xs k) (i + 1)).ids).toArray] W fun e w' => e = .returned (.int .i64 O) ∧ CC wr w') := ⟨fun W hW => (Sh.rcompare_any _ _ W hoA.1 hoB.1).mono fun e w' hp => ⟨by rw [hp.1, hO], hW.on hp.2⟩⟩
              have e1 : ((i + 1 : Nat) : Int) - 1 = (i : Int) := by omega
              have e2' : IntKind.i64.wrap (i : Int) = (i : Int) := wr64 (by omega) (by omega)
              have e3' : IntKind.i64.wrap (((i + 1 : Nat) : Int) + 1) = ((i + 1 : Nat) : Int) + 1 := wr64 (by omega) (by omega)
              have hji : (i : Int) < (k : Int) := by omega
              clear hrow hrg hoA hoB hO hok' hbl hbel hil hjl
              generalize cellsK .u8 (rowI (rowsR xs k) i).ids = LA at *
              generalize cellsK .u8 (rowI (rowsR xs k) (i + 1)).ids = LB at *
              go_upto_region 23 with fail
              refine wp_region_quietC (C := CC wr) (by kernel_rfl) (by kernel_rfl) (Below.refl _ _).drew ?_
              go_big_quiet_step ((intro _; rfl))
              go_big_quiet_step ((intro _; rfl))
              refine BigFrame.wpQuiet_want rfl (fun K hK => quiet_run (v := .int .i64 i) (fun W hW => by go_simp) (hK _ ?_))
              clear hK K
              simp only [Act.put, List.setIfInBounds_toArray, List.set_cons_zero, List.set_cons_succ]
              refine BigFrame.wpQuiet_want rfl (fun K hK => quiet_run (v := .pointer (some ⟨bb, oo + i * 34, none⟩)) (fun W hW => by go_simp; all_goals first | rfl | (intro hneg; exfalso; omega)) (hK _ ?_))
              clear hK K
              simp only [Act.put, List.setIfInBounds_toArray, List.set_cons_zero, List.set_cons_succ]
              refine BigFrame.wpQuiet_want rfl (fun K hK => quiet_run (v := .pointer (some ⟨bb, oo + i * 34, none⟩)) (fun W hW => by go_simp) (hK _ ?_))
              clear hK K
              simp only [Act.put, List.setIfInBounds_toArray, List.set_cons_zero, List.set_cons_succ]
              refine BigFrame.wpQuiet_want rfl (fun K hK => quiet_load_mid 24 _ rfl bb (oo + i * 34) rfl LA _ hR1.out Tryd.underlying24 rfl KI1.out (hK _ ?_))
              clear hK K
              simp only [Act.put, List.setIfInBounds_toArray, List.set_cons_zero, List.set_cons_succ]
              go_big_quiet_step ((intro _; rfl))
              go_big_quiet_step ((intro _; rfl))
              refine BigFrame.wpQuiet_want rfl (fun K hK => quiet_run (v := .pointer (some ⟨bb, oo + (i + 1) * 34, none⟩)) (fun W hW => by go_simp; all_goals first | rfl | (intro hneg; exfalso; omega)) (hK _ ?_))
              clear hK K
              simp only [Act.put, List.setIfInBounds_toArray, List.set_cons_zero, List.set_cons_succ]
              refine BigFrame.wpQuiet_want rfl (fun K hK => quiet_run (v := .pointer (some ⟨bb, oo + (i + 1) * 34, none⟩)) (fun W hW => by go_simp) (hK _ ?_))
              clear hK K
              simp only [Act.put, List.setIfInBounds_toArray, List.set_cons_zero, List.set_cons_succ]
              refine BigFrame.wpQuiet_want rfl (fun K hK => quiet_load_mid 24 _ rfl bb (oo + (i + 1) * 34) rfl LB _ hR2.out Tryd.underlying24 rfl KI2.out (hK _ ?_))
              clear hK K
              simp only [Act.put, List.setIfInBounds_toArray, List.set_cons_zero, List.set_cons_succ]
              go_big_quiet_step ((intro hCw; exact KCmp.out _ hCw))
              refine BigFrame.wpQuiet_want rfl (fun K hK => quiet_run (v := .bool (decide (0 ≤ O))) (fun W hW => by go_simp) (hK _ ?_))
              clear hK K
              simp only [Act.put, List.setIfInBounds_toArray, List.set_cons_zero, List.set_cons_succ]
              refine wpQuiet_nil ?_
              intro w16 hw16
              have KB16 := Kept.mk (KBq.out.trans (Below.mono hw16 KBq.out.size))
              clear hw16 KCmp hR1 hR2
              by_cases hO0 : 0 ≤ O
              · rw [decide_eq_true hO0]
                have KV : Kept (E = 4) := ⟨by
                  rw [KE3.out, if_neg]
                  rintro ⟨hri, -⟩
                  have := (riseB_iff _).1 hri i (by rw [KRl.out]; omega)
                  rw [KOo.out] at this
                  omega⟩
                have KBe := Kept.mk (KB014.out.trans (KB16.out.mono KB014.out.size))
                clear hO0
                have hne : (4 : Int) ≠ 0 := by first | decide | assumption
                have KW := Kept.mk (KErr.out _ KV.out hne)
                have KbW : Kept (BlkK .u8 w16 w.heap.size 24 z32) := ⟨Kk0.out.far KBe.out (by omega)⟩
                have KBW : Kept (Below w.heap.size w (w16.setRow w.heap.size (cellsK .u8 z32).toArray)) := ⟨below_setRow (KB0.out.trans ((KBe.out).mono KB0.out.size)) (Nat.le_refl _) _⟩
                clear hne
                go_wp2_with (refine BigFrame.wpList_want rfl (fun K hK => wp_store_row 24 _ _ rfl w.heap.size (cellsK .u8 z32).toArray rfl rfl 24 _ KbW.out z32_info rfl (cellsK_all _ _) (hK _ _ ?_)))
                refine bodyPost_ret (v := .tuple #[.slice none 0 0, .agg (cellsK .u8 z32).toArray, .int .i64 (4)]) (results_trt (t := 2) (p := 3) (u := 4) (ty := 24) Tryd.results8 _ _ w.heap.size 24 _ (0, 0) _ rfl (blk_setRow KbW.out z32) Tryd.underlying24 rfl z32_info) rfl ⟨_, by rw [KW.out.2, KV.out], by rw [KW.out.1]; exact OwnR.nil _ _ _, KBW.out⟩
              · rw [decide_eq_false hO0]
                have KO' : Kept (O < 0) := ⟨by omega⟩
                clear hO0
                go_wp2
                go_roundw
                case rel =>
                  refine ⟨i + 1 + 1, by omega, .inl (by omega), by go_num, fun i' h1 h2 => ?_, KB16.out⟩
                  rcases Nat.lt_or_ge (i' + 1) (i + 1) with h3 | h3
                  · exact KAll.out i' h1 h3
                  · obtain rfl : i' = i := by omega
                    rw [KOo.out]
                    exact KO'.out
                case measure => simp [intOf]; omega
            · have hki : ¬ (j : Int) < (k : Int) := by omega
              have Kri : Kept (riseB (rowsR xs k) = true) := ⟨(riseB_iff _).2 fun i hi => KAll.out i (by rw [KRl.out] at hi; exact hi) (by rw [KRl.out] at hi; omega)⟩
              have KLr := Kept.mk (KL14.out.later hbel (Nat.le_refl _))
              have hRb : RdB wr (.slice (some ⟨w4.heap.size, 0, none⟩) k k) (longR xs k) := by
                have := KLr.out.rd (by rw [KLl.out]; omega)
                rwa [KLl.out] at this
              have KCb := Kept.mk (docBuild_any _ _ (rowsR xs k) (longR xs k) PK wr (KO14.out.rdR.later hbel (Nat.le_refl _)) hRb (by rw [KLl.out, KRl.out]) (by rw [KRl.out]; omega) KPl.out KPA.out)
              rw [KCP.out] at KCb
              have KPr : Kept (wr.rangeAt w13.heap.size 0 CP) := ⟨by rw [← KCP.out]; exact (Kbk14.out.far hbel Kbk14.out.lt).range⟩
              have KBA := Kept.mk (buildL_allB KRok.out (longR xs k) KPA.out)
              have KOr := Kept.mk (KO14.out.later hbel (Nat.le_refl _))
              clear hRb hbel hlt hj hj1 KAll KLr
              go_wp2_with (refine wpList_load_mid rfl 24 _ rfl w13.heap.size 0 rfl CP _ KPr.out Tryd.underlying24 rfl KPiL.out ?_)
              clear hki
              refine Calls.mono KCb.out (fun e w17 hp17 => ?_)
              obtain ⟨v17, rfl, hO17, hb17⟩ := hp17
              have hb1417 := KBq.out.trans (hb17.mono KBq.out.size)
              have hB017 := KB014.out.trans (hb1417.mono KB014.out.size)
              have KS := Kept.mk (Sh.same_any v17 _ (buildL (rowsR xs k) (longR xs k) PK) xs w17 (shRd hO17.rd KBA.out) (shRd (KH0.out.later hB017 (Nat.le_refl _)) KA.out))
              have KO17 := Kept.mk (KOr.out.later hb17 (Nat.le_refl _))
              have Kbk17 := Kept.mk (Kbk14.out.far hb1417 Kbk14.out.lt)
              have KB017 := Kept.mk hB017
              obtain ⟨sb, hsb⟩ : ∃ sb, decide (buildL (rowsR xs k) (longR xs k) PK = xs) = sb := ⟨_, rfl⟩
              rw [hsb] at KS
              have Ksb := Kept.mk hsb
              clear hO17 hb17 hb1417 hB017 hsb KCb
              go_wp2_with fail
              refine Calls.mono KS.out (fun e w18 hp18 => ?_)
              obtain ⟨rfl, hw18⟩ := hp18
              subst w18
              clear KS
              cases sb with
              | false =>
                have KV : Kept (E = 4) := ⟨by rw [KE3.out, if_neg (fun h => of_decide_eq_false Ksb.out h.2)]⟩
                have hne : (4 : Int) ≠ 0 := by first | decide | assumption
                have KW := Kept.mk (KErr.out _ KV.out hne)
                have KbW : Kept (BlkK .u8 w17 w.heap.size 24 z32) := ⟨Kk0.out.far KB017.out (by omega)⟩
                have KBW : Kept (Below w.heap.size w (w17.setRow w.heap.size (cellsK .u8 z32).toArray)) := ⟨below_setRow (KB0.out.trans ((KB017.out).mono KB0.out.size)) (Nat.le_refl _) _⟩
                clear hne
                go_wp2_with (refine BigFrame.wpList_want rfl (fun K hK => wp_store_row 24 _ _ rfl w.heap.size (cellsK .u8 z32).toArray rfl rfl 24 _ KbW.out z32_info rfl (cellsK_all _ _) (hK _ _ ?_)))
                refine bodyPost_ret (v := .tuple #[.slice none 0 0, .agg (cellsK .u8 z32).toArray, .int .i64 (4)]) (results_trt (t := 2) (p := 3) (u := 4) (ty := 24) Tryd.results8 _ _ w.heap.size 24 _ (0, 0) _ rfl (blk_setRow KbW.out z32) Tryd.underlying24 rfl z32_info) rfl ⟨_, by rw [KW.out.2, KV.out], by rw [KW.out.1]; exact OwnR.nil _ _ _, KBW.out⟩
              | true =>
                have KV : Kept (E = 0) := ⟨by rw [KE3.out, if_pos ⟨Kri.out, of_decide_eq_true Ksb.out⟩]⟩
                have KVL : Kept (L = rowsR xs k) := ⟨by rw [KL.out, KV.out, if_pos rfl]⟩
                have KVP : Kept (PP = PK) := ⟨by rw [KP.out, KV.out, if_pos rfl]⟩
                have KPr2 : Kept (∀ W, (∃ m, W = w17.drewN m) → W.rangeAt w13.heap.size 0 CP) := ⟨fun W hW => by
                  obtain ⟨m, rfl⟩ := hW
                  rw [← KCP.out]
                  exact (Kbk17.out.drewN m).range⟩
                have Kk17 : Kept (∀ m, BlkK .u8 (w17.drewN m) w.heap.size 24 z32) := ⟨fun m => (Kk0.out.far KB017.out (by omega)).drewN m⟩
                have Kfin : Kept (∀ m, BlkK .u8 ((w17.drewN m).setRow w.heap.size (cellsK .u8 PK).toArray) w.heap.size 24 PK) := ⟨fun m => blk_setRow (Kk17.out m) PK⟩
                have KBf : Kept (∀ m, Below w.heap.size w ((w17.drewN m).setRow w.heap.size CP.toArray)) := ⟨fun m => below_setRow (below_drewN (KB0.out.trans (KB017.out.mono KB0.out.size)) m) (Nat.le_refl _) _⟩
                have KOf : Kept (∀ m, OwnR 42 ((w17.drewN m).setRow w.heap.size CP.toArray) w.heap.size (.slice ma k mc) (rowsR xs k)) := ⟨fun m => by
                  have h0 := KO17.out
                  have hge : w.heap.size < w4.heap.size := by have := KB4.out.size; omega
                  have h1 : OwnR 42 ((w17.drewN m).setRow w.heap.size CP.toArray) (w4.heap.size + 1) (.slice ma k mc) (rowsR xs k) := h0.far fun g hg => by
                    have := (h0.lt g hg).1
                    rw [setRow_other _ _ _ _ (by omega)]
                    rfl
                  exact h1.mono (by omega)⟩
                go_upto_region 27 with fail
                refine wp_region_tail 0 3 1 (by kernel_rfl) (by kernel_rfl) ?_
                simp only [List.take_succ_cons, List.take_zero, List.drop_succ_cons, List.drop_zero, List.foldl_nil]
                go_big_quiet_step (fail)
                refine BigFrame.wpQuiet_want rfl (fun K hK => quiet_load_mid 24 _ rfl w13.heap.size 0 rfl CP _ KPr2.out Tryd.underlying24 rfl KPiL.out (hK _ ?_))
                clear hK K
                simp only [Act.put, List.setIfInBounds_toArray, List.set_cons_zero, List.set_cons_succ]
                go_big_quiet_step (fail)
                refine wpQuiet_nil ?_
                intro m
                refine wpTail_step (fun K hK => ?_)
                refine wp_store_row 24 _ _ rfl w.heap.size CP.toArray rfl rfl 24 _ (Kk17.out m) KPi.out (by rw [KPz.out, List.size_toArray, cellsK_length, z32_length]) KPo.out (hK _ _ ?_)
                clear hK K
                refine wpTail_step (fun K hK => ?_)
                go_simp
                refine hK _ _ (wpTail_nil (NoPanic.normal ?_))
                clear hK K
                go_wp2
                refine bodyPost_ret (v := .tuple #[.slice ma k mc, .agg CP.toArray, .int .i64 0]) (results_trt (t := 2) (p := 3) (u := 4) (ty := 24) Tryd.results8 _ _ w.heap.size 24 _ (0, 0) _ rfl (by have := Kfin.out m; unfold BlkK at this; rw [KCP.out] at this; exact this) Tryd.underlying24 rfl KPi.out) rfl ⟨_, by rw [KVP.out, KV.out, KCP.out], by rw [KVL.out]; exact KOf.out m, KBf.out m⟩
  · have d1 : (szE xs != 0) = true := by simpa using hz
    have KV : Kept (E = szE xs) := ⟨by rw [KE.out, if_pos hz]⟩
    generalize szE xs = Z at *
    clear hn0
    have hne : (Z : Int) ≠ 0 := by first | decide | assumption
    have KW := Kept.mk (KErr.out _ KV.out hne)
    have KbW : Kept (BlkK .u8 w0 w.heap.size 24 z32) := ⟨Kk0.out.far KB00.out (by omega)⟩
    have KBW : Kept (Below w.heap.size w (w0.setRow w.heap.size (cellsK .u8 z32).toArray)) := ⟨below_setRow (KB0.out.trans ((KB00.out).mono KB0.out.size)) (Nat.le_refl _) _⟩
    clear hne
    go_wp2_with (refine BigFrame.wpList_want rfl (fun K hK => wp_store_row 24 _ _ rfl w.heap.size (cellsK .u8 z32).toArray rfl rfl 24 _ KbW.out z32_info rfl (cellsK_all _ _) (hK _ _ ?_)))
    refine bodyPost_ret (v := .tuple #[.slice none 0 0, .agg (cellsK .u8 z32).toArray, .int .i64 (Z)]) (results_trt (t := 2) (p := 3) (u := 4) (ty := 24) Tryd.results8 _ _ w.heap.size 24 _ (0, 0) _ rfl (blk_setRow KbW.out z32) Tryd.underlying24 rfl z32_info) rfl ⟨_, by rw [KW.out.2, KV.out], by rw [KW.out.1]; exact OwnR.nil _ _ _, KBW.out⟩

open Go.RowKit Go.Sort

theorem rise_uni {l : List RowC} (h : Rise l) {a b : RowC} (ha : a ∈ l) (hb : b ∈ l) (he : a.ids = b.ids) : a = b := by
  have hp := rise_pair h
  obtain ⟨i, hi, rfl⟩ := List.getElem_of_mem ha
  obtain ⟨j, hj, rfl⟩ := List.getElem_of_mem hb
  rw [List.pairwise_iff_getElem] at hp
  rcases Nat.lt_trichotomy i j with h1 | h1 | h1
  · have := hp i j hi hj h1
    rw [he, cmpZ_self] at this
    omega
  · subst h1; rfl
  · have := hp j i hj hi h1
    rw [he, cmpZ_self] at this
    omega
/-- Two finds answer one row. -/
theorem fnd_one {p id : List Int} {w w' u u' : World} {e e' : Ending} (h : FndEnd p id w w' e) (h' : FndEnd p id u u' e') : e = e' := by
  obtain ⟨r, rfl, -, h1, h2, -⟩ := h
  obtain ⟨s, rfl, -, g1, g2, -⟩ := h'
  by_cases hE : fndE p id = 0
  · have hp : prsE p = 0 := by
      by_cases hq : prsE p = 0
      · exact hq
      · have : fndE p id = prsE p := by unfold fndE; rw [if_pos hq]
        rw [this] at hE
        exact absurd hE hq
    obtain ⟨m1, e1⟩ := h1 hE
    obtain ⟨m2, e2⟩ := g1 hE
    rw [rise_uni (prsE_rise hp) m1 m2 (by rw [e1, e2])]
  · rw [h2 hE, g2 hE]

set_option maxHeartbeats 4000000 in
set_option maxRecDepth 100000 in
theorem docFind_any {S : Nat → Prop} (v : Value) (xs id : List Int) (w : World) (h : Rd .u8 S w v xs) (hA : AllB xs) (hl : xs.length + 20 ≤ 140737488355328) (hid : id.length = 32) :
    Calls Tryd.prog 12 #[v, .agg (cellsK .u8 id).toArray] w fun e w' => FndEnd xs id w w' e := by
  obtain ⟨a, c, rfl, -, hlc, hcm⟩ := h.form
  obtain ⟨w1, hw1, hB1, hs1, hbk1⟩ := box_id w id
  obtain ⟨w0, hw0, hB01, hlt0, hh0, -, -, -, -⟩ := box_row w1 42 row0_ok
  have hs0 : w0.heap.size = w.heap.size + 2 := by rw [← hw0]; simp; omega
  have hB0 : Below w.heap.size w w0 := hB1.trans (hB01.mono hB1.size)
  have Kid : Kept (BlkK .u8 w0 w.heap.size 24 id) := ⟨hbk1.far hB01 (by omega)⟩
  have Krw : Kept (BlkR w0 (w.heap.size + 1) 42 default) := ⟨by rw [← hs1]; exact hh0⟩
  have KB0 := Kept.mk hB0
  have z2 : (cellsK .u8 id).toArray.size = 32 := by rw [List.size_toArray, cellsK_length, hid]
  have KC := Kept.mk (docParse_any _ xs w0 (h.later hB0 (Nat.le_refl _)) hA hl)
  have Kll := Kept.mk (prsL_len hA)
  have Kpl := Kept.mk (prsP_len hA)
  have Khid := Kept.mk hid
  have KE : Kept (fndE xs id = if prsE xs ≠ 0 then prsE xs else if (prsL xs).any (fun r => decide (r.ids = id)) = true then 0 else 7) := ⟨rfl⟩
  have KEnd : Kept (∀ w' e, FndEnd xs id w w' e ↔ ∃ r : RowC, e = .returned (.tuple #[.agg r.l.toArray, .int .i64 (fndE xs id)]) ∧ r.ok ∧ (fndE xs id = 0 → r ∈ prsL xs ∧ r.ids = id) ∧ (fndE xs id ≠ 0 → r = default) ∧ Below w.heap.size w w') := ⟨fun _ _ => Iff.rfl⟩
  have hw00 : (w.alloc (.cells (cellsK .u8 id).toArray 24)).alloc (.cells (default : RowC).l.toArray 42) = w0 := by rw [hw1]; exact hw0
  clear hw1 hw0 hB1 hB01 hlt0 hh0 hbk1 hB0 h
  generalize hE : fndE xs id = E at *
  generalize prsL xs = L at *
  generalize prsP xs = PP at *
  generalize prsE xs = PE at *
  clear hE
  go_enter Tryd.func12, Tryd.ntmps12
  go_upto_region 1 with fail
  generalize hO : Obj.cells (_ : Array Value) 42 = O
  have hO2 : O = Obj.cells (default : RowC).l.toArray 42 := by subst hO; rfl
  subst hO2
  clear hO
  rw [hw00]
  clear hw00
  go_wp2_with fail
  refine Calls.mono KC.out (fun e w2 hp => ?_)
  obtain ⟨v2, rfl, hO2, hb2⟩ := hp
  obtain ⟨w3, hw3, hb3, hs3, -⟩ := box_id w2 PP
  have hb03 : Below w0.heap.size w0 w3 := hb2.trans (hb3.mono hb2.size)
  have KB3 := Kept.mk hb03
  have KO3 := Kept.mk (hO2.later hb3 (Nat.le_refl _))
  have KPi := Kept.mk (id_info Kpl.out)
  have KPz : Kept ((cellsK .u8 PP).toArray.size = 32) := ⟨by rw [List.size_toArray, cellsK_length, Kpl.out]⟩
  have KPo := Kept.mk (cellsK_all .u8 PP)
  clear hO2 hb2 hb3 hb03 KC
  generalize hCP : (cellsK .u8 PP).toArray = CP at *
  clear hCP
  go_upto_region 2 with (refine BigFrame.wpList_want rfl (fun K hK => wp_store_row 24 _ _ rfl w2.heap.size CP rfl rfl 24 _ (heap_alloc_new w2 _) KPi.out (by rw [KPz.out]; rfl) KPo.out (hK _ _ ?_)); rw [World.setRow_alloc_new])
  clear hw3
  by_cases h0 : PE = 0
  · subst h0
    have KE2 : Kept (E = if L.any (fun r => decide (r.ids = id)) = true then 0 else 7) := ⟨by rw [KE.out, if_neg (by decide)]⟩
    have hLl := Kll.out
    have KiI := Kept.mk (id_infoL hid)
    obtain ⟨IL, hIL⟩ : ∃ IL, cellsK .u8 id = IL := ⟨_, rfl⟩
    have KIL := Kept.mk hIL
    rw [hIL] at KiI z2 ⊢
    clear hIL hid
    obtain ⟨a2, c2, rfl, -, -, -, hok2, hrd2⟩ := KO3.out.rdR
    have KK2 := Kept.mk hok2
    have KRd := Kept.mk hrd2
    clear hok2 hrd2
    go_wp2_with fail
    go_loopw [23] (fun iv wr => ∃ k : Nat, k ≤ L.length ∧ iv = .int .i64 k ∧ (∀ j, j < k → (rowI L j).ids ≠ id) ∧ Below w3.heap.size w3 wr) (fun iv _ => L.length - (intOf iv).toNat)
    case atStart => exact ⟨0, Nat.zero_le _, rfl, fun j h => absurd h (by omega), Below.refl _ _⟩
    case round =>
      obtain ⟨k, hk, rfl, hall, hbel⟩ := hrel
      have KAll := Kept.mk hall
      have KBr := Kept.mk hbel
      have hB0r := KB3.out.trans (hbel.mono KB3.out.size)
      have KB0r := Kept.mk hB0r
      clear hall
      by_cases hlt : k < L.length
      · have hki : (k : Int) < (L.length : Int) := by omega
        obtain ⟨b, off, rfl, hbl, hrg⟩ := KRd.out (by omega)
        have hoR := rowI_ok KK2.out hlt
        have hmem : rowI L k ∈ L := by rw [rowI_get hlt]; exact List.getElem_mem hlt
        have KR : Kept (wr.rangeAt b (off + k * 34) (rowI L k).l) := ⟨fun j u hu => by
          rw [hbel.cell (p := ⟨b, off + k * 34 + j, none⟩) hbl]
          exact hrg k hlt j u hu⟩
        obtain ⟨w5, hw5, hB5, hlt5, hh5, -, -, -, -⟩ := box_row wr 42 hoR
        have KL2 := Kept.mk (row_size hoR)
        have KI2 := Kept.mk (info_rowA hoR)
        have KI := Kept.mk (info_rowL hoR)
        have KO : Kept ((rowI L k).l.toArray.all (·.oneCell') = true) := ⟨all_oneCell_toArray (RowC.ones _)⟩
        have KId : Kept (w5.rangeAt wr.heap.size 0 (cellsK .u8 (rowI L k).ids)) := ⟨row_range32 (range_of_blockR hh5)⟩
        have KRw : Kept (w5.rangeAt wr.heap.size 0 (rowI L k).l) := ⟨range_of_blockR hh5⟩
        have KIi := Kept.mk (id_infoL hoR.1)
        have hB05 := hB0r.trans (hB5.mono hB0r.size)
        have KWant : Kept (w5.rangeAt w.heap.size 0 IL) := ⟨by rw [← KIL.out]; exact (Kid.out.far hB05 (by omega)).range⟩
        have Krw5 := Kept.mk (Krw.out.far hB05 (by omega))
        have KB5 := Kept.mk (hbel.trans (hB5.mono hbel.size))
        obtain ⟨q, hq⟩ : ∃ q, decide ((rowI L k).ids = id) = q := ⟨_, rfl⟩
        have Kq := Kept.mk hq
        have KEq : Kept (∀ W, (Op.equalIn 10000 24 (.agg (cellsK .u8 (rowI L k).ids).toArray) (.agg IL.toArray)).run Tryd.prog W = .ok q W) := ⟨fun W => by rw [← KIL.out, ← hq]; exact eq_id W 9998 hoR.1 Khid.out⟩
        have Kok := Kept.mk hoR
        have Kmem := Kept.mk hmem
        have KBw5 := Kept.mk (KB0.out.trans (hB05.mono KB0.out.size))
        have e2 : IntKind.i64.wrap ((k : Int) + 1) = (k : Int) + 1 := wr64 (by omega) (by omega)
        clear hrg hbl hbel hB0r hB5 hlt5 hh5 hB05 hq hoR hmem
        obtain ⟨RR, hRR⟩ : ∃ RR, rowI L k = RR := ⟨_, rfl⟩
        have KRR := Kept.mk hRR
        rw [hRR] at hw5 KR KL2 KI2 KI KO KId KRw KIi Kq KEq Kok Kmem
        clear hRR
        generalize hRI : cellsK .u8 RR.ids = RI at *
        clear hRI
        obtain ⟨CL, hCL⟩ : ∃ CL, RR.l = CL := ⟨_, rfl⟩
        have KCL := Kept.mk hCL
        rw [hCL] at hw5 KR KL2 KI2 KI KO KRw
        clear hCL
        go_upto_region 7 with (first | (refine wpList_load_mid rfl 42 _ rfl b (off + k * 34) rfl CL _ KR.out Tryd.underlying42 rfl KI.out ?_) | (refine BigFrame.wpList_want rfl (fun K hK => wp_store_row 42 _ _ rfl wr.heap.size CL.toArray rfl rfl 42 _ (heap_alloc_new wr _) KI2.out (by rw [KL2.out]; rfl) KO.out (hK _ _ ?_)); rw [World.setRow_alloc_new]))
        try rw [hw5]
        clear hw5
        have hEq := KEq.out
        cases q with
        | true =>
          have KV : Kept (E = 0) := ⟨by rw [KE2.out, if_pos (List.any_eq_true.2 ⟨_, Kmem.out, Kq.out⟩)]⟩
          have Kfin : Kept (BlkR (w5.setRow (w.heap.size + 1) CL.toArray) (w.heap.size + 1) 42 RR) := ⟨by unfold BlkR; rw [KCL.out]; exact setRow_heap _ _ _ _ _ _ Krw5.out⟩
          have KBf : Kept (Below w.heap.size w (w5.setRow (w.heap.size + 1) CL.toArray)) := ⟨below_setRow KBw5.out (by omega) _⟩
          have KD := Kept.mk (row_size row0_ok)
          go_wp2_with (first | (refine wpList_load_mid rfl 24 _ rfl wr.heap.size 0 rfl RI _ KId.out Tryd.underlying24 rfl KIi.out ?_) | (refine wpList_load_mid rfl 24 _ rfl w.heap.size 0 rfl IL _ KWant.out Tryd.underlying24 rfl KiI.out ?_) | (refine wpList_load_mid rfl 42 _ rfl wr.heap.size 0 rfl CL _ KRw.out Tryd.underlying42 rfl KI.out ?_) | (refine BigFrame.wpList_want rfl (fun K hK => wp_store_row 42 _ _ rfl (w.heap.size + 1) CL.toArray rfl rfl 42 _ Krw5.out KI2.out (by rw [KL2.out]; exact KD.out) KO.out (hK _ _ ?_))))
          refine bodyPost_ret (v := .tuple #[.agg RR.l.toArray, .int .i64 0]) (results_rt (p := 4) (u := 5) (ty := 42) Tryd.results12 _ _ (w.heap.size + 1) 42 _ (0, 0) _ rfl Kfin.out Tryd.underlying42 rfl (info_rowA Kok.out)) rfl ?_
          rw [KEnd.out]
          exact ⟨RR, by rw [KV.out], Kok.out, fun _ => ⟨Kmem.out, of_decide_eq_true Kq.out⟩, fun h => absurd KV.out h, KBf.out⟩
        | false =>
          go_wp2_with (first | (refine wpList_load_mid rfl 24 _ rfl wr.heap.size 0 rfl RI _ KId.out Tryd.underlying24 rfl KIi.out ?_) | (refine wpList_load_mid rfl 24 _ rfl w.heap.size 0 rfl IL _ KWant.out Tryd.underlying24 rfl KiI.out ?_))
          go_roundw
          case rel =>
            refine ⟨k + 1, by omega, by go_num, fun j h => ?_, KB5.out⟩
            rcases Nat.lt_or_ge j k with h2 | h2
            · exact KAll.out j h2
            · obtain rfl : j = k := by omega
              rw [KRR.out]
              exact of_decide_eq_false Kq.out
          case measure => simp [intOf]; omega
      · have hki : ¬ (k : Int) < (L.length : Int) := by omega
        have KV : Kept (E = 7) := ⟨by
          rw [KE2.out, if_neg]
          intro hany
          obtain ⟨r, hr, hre⟩ := List.any_eq_true.1 hany
          obtain ⟨j, hj, rfl⟩ := List.getElem_of_mem hr
          exact KAll.out j (by omega) (by rw [rowI_get hj]; exact of_decide_eq_true hre)⟩
        have Krw5 := Kept.mk (Krw.out.far hB0r (by omega))
        have Kfin : Kept (BlkR (wr.setRow (w.heap.size + 1) (default : RowC).l.toArray) (w.heap.size + 1) 42 default) := ⟨setRow_heap _ _ _ _ _ _ Krw5.out⟩
        have KBf : Kept (Below w.heap.size w (wr.setRow (w.heap.size + 1) (default : RowC).l.toArray)) := ⟨below_setRow (KB0.out.trans (hB0r.mono KB0.out.size)) (by omega) _⟩
        clear hbel hB0r hlt hk
        go_wp2_with (refine BigFrame.wpList_want rfl (fun K hK => wp_store_row 42 _ _ rfl (w.heap.size + 1) (default : RowC).l.toArray rfl rfl 42 _ Krw5.out (info_rowA row0_ok) rfl (all_oneCell_toArray (RowC.ones _)) (hK _ _ ?_)))
        refine bodyPost_ret (v := .tuple #[.agg (default : RowC).l.toArray, .int .i64 7]) (results_rt (p := 4) (u := 5) (ty := 42) Tryd.results12 _ _ (w.heap.size + 1) 42 _ (0, 0) _ rfl Kfin.out Tryd.underlying42 rfl (info_rowA row0_ok)) rfl ?_
        rw [KEnd.out]
        exact ⟨default, by rw [KV.out], row0_ok, (fun h => by rw [KV.out] at h; omega), fun _ => rfl, KBf.out⟩
  · have d1 : (PE != 0) = true := by simpa using h0
    have hEP : E = PE := by rw [KE.out, if_pos h0]
    have KV : Kept (E = PE ∧ E ≠ 0) := ⟨hEP, by rw [hEP]; exact h0⟩
    have Krw3 := Kept.mk (Krw.out.far KB3.out (by omega))
    clear hEP
    have Kfin : Kept (BlkR (w3.setRow (w.heap.size + 1) (default : RowC).l.toArray) (w.heap.size + 1) 42 default) := ⟨setRow_heap _ _ _ _ _ _ Krw3.out⟩
    have KBf : Kept (Below w.heap.size w (w3.setRow (w.heap.size + 1) (default : RowC).l.toArray)) := ⟨below_setRow (KB0.out.trans (KB3.out.mono KB0.out.size)) (by omega) _⟩
    clear h0
    go_wp2_with (refine BigFrame.wpList_want rfl (fun K hK => wp_store_row 42 _ _ rfl (w.heap.size + 1) (default : RowC).l.toArray rfl rfl 42 _ Krw3.out (info_rowA row0_ok) rfl (all_oneCell_toArray (RowC.ones _)) (hK _ _ ?_)))
    refine bodyPost_ret (v := .tuple #[.agg (default : RowC).l.toArray, .int .i64 PE]) (results_rt (p := 4) (u := 5) (ty := 42) Tryd.results12 _ _ (w.heap.size + 1) 42 _ (0, 0) _ rfl Kfin.out Tryd.underlying42 rfl (info_rowA row0_ok)) rfl ?_
    rw [KEnd.out]
    exact ⟨default, by rw [KV.out.1], row0_ok, (fun h => absurd h KV.out.2), fun _ => rfl, KBf.out⟩

open Go.RowKit Go.Sort

theorem rdSh {w : World} {v : Value} {xs : List Int} (h : Sh.Rd w v xs) : Rd .u8 anyB w v xs := by
  obtain ⟨a, c, h1, h2, h3, _, h4, h5⟩ := h
  exact ⟨a, c, h1, h2, h3, h4, fun h0 => by
    obtain ⟨b, off, h6, h7, h8⟩ := h5 h0
    exact ⟨b, off, h6, h7, trivial, h8⟩⟩
theorem wp_of_runU {P : Program} {o : Oper} {a : Act} {w : World} {K : Act → World → Prop} {Q : Exit → Act → World → Prop} {v : Value} (h : (execOp a.eval o).run P w = .ok (.value v) w) (hk : K (a.put o.dst v) w) : o.wp P a w K Q := by
  unfold Oper.wp
  rw [h]
  exact hk
theorem exec_eqlR {P : Program} (t : TypeId) (hg : P.eqGuardType P.depth t = false) {a : Act} {o : Oper} {x y : Operand} {t' : TypeId} (ho : o.op = .binOp .eql t x y t') {X Y : Array Value} (hx : a.eval x = .agg X) (hy : a.eval y = .agg Y) {q : Bool} {W : World} (hE : (Op.equalIn 10000 t (.agg X) (.agg Y)).run P W = .ok q W) : (execOp a.eval o).run P W = .ok (.value (.bool q)) W := by
  unfold execOp
  rw [ho]
  simp only [hx, hy, Sem.run_bind, run_eqGuard_agg W .eql t x y X Y hg, Result.andThen_ok, run_eql_struct W t X Y, hE, Sem.run_pure]
theorem fnd_below {p id : List Int} {w w' : World} {e : Ending} (h : FndEnd p id w w' e) : Below w.heap.size w w' := by
  obtain ⟨_, _, _, _, _, hb⟩ := h
  exact hb
theorem block_lt {w : World} {g : Nat} {o : Obj} (h : w.heap[g]? = some o) : g < w.heap.size := by
  rcases Nat.lt_or_ge g w.heap.size with h' | h'
  · exact h'
  · rw [Array.getElem?_eq_none h'] at h
    cases h

set_option maxHeartbeats 8000000 in
set_option maxRecDepth 100000 in
theorem reads_any (v : Value) (xs id : List Int) (w : World) (hT : Sh.Tab w Sh.ksK) (h : Sh.Rd w v xs) (hl : xs.length + 4096 ≤ 140737488355328) (hid : id.length = 32) (hAi : AllB id) :
    Calls Tryd.prog 3 #[v, .agg (cellsK .u8 id).toArray] w fun e w' => e = .returned (.bool true) ∧ Below w.heap.size w w' := by
  have hA : AllB xs := h.allB
  have hR := rdSh h
  clear h
  obtain ⟨w1, hw1, hB1, hs1, hbk1⟩ := box_id w id
  have hps : (cellsK .u8 id).toArray.size = 32 := by rw [List.size_toArray, cellsK_length, hid]
  have KIi := Kept.mk (id_infoL hid)
  have KA := Kept.mk hA
  have KAi := Kept.mk hAi
  have Khid := Kept.mk hid
  have KT := Kept.mk hT
  have KAw := Kept.mk (awake_any w1 (Tab.later hT hB1 (Nat.le_refl _)))
  have KB1 := Kept.mk hB1
  have KP1 := Kept.mk hbk1
  have KH := Kept.mk hR
  obtain ⟨a, c, rfl, -, -, -⟩ := hR.form
  clear hB1 hbk1 hA hT hR hs1 hAi
  obtain ⟨IL, hIL⟩ : ∃ IL, cellsK .u8 id = IL := ⟨_, rfl⟩
  have KIL := Kept.mk hIL
  rw [hIL] at hw1 hps KIi ⊢
  clear hIL hid
  go_enter Tryd.func3, Tryd.ntmps3
  go_wp2_with fail
  refine Calls.mono KAw.out (fun e w2 hp2 => ?_)
  obtain ⟨rfl, hb2⟩ := hp2
  have hB2 := KB1.out.trans (hb2.mono KB1.out.size)
  have KB2 := Kept.mk hB2
  have KRi : Kept (∀ W, Below w2.heap.size w2 W → W.rangeAt w.heap.size 0 IL) := ⟨fun W hW => by
    rw [← KIL.out]
    exact (KP1.out.far (hb2.trans (hW.mono hb2.size)) KP1.out.lt).range⟩
  have KX2 := Kept.mk (KH.out.later hB2 (Nat.le_refl _))
  clear hb2 hB2 KAw KP1 hw1 KH
  by_cases hlen : 8000 < xs.length
  · have hli : (8000 : Int) < (xs.length : Int) := by omega
    go_wp2
    go_ret
    exact ⟨rfl, KB2.out⟩
  · have hli : ¬ (8000 : Int) < (xs.length : Int) := by omega
    have KTwn := Kept.mk (Sh.twin_any _ xs w2 (shRd KX2.out KA.out) (by omega))
    have Kln : Kept (xs.length + 20 ≤ 140737488355328) := ⟨by omega⟩
    clear hlen
    go_wp2_with fail
    clear hli
    refine Calls.mono KTwn.out (fun e w3 hp3 => ?_)
    obtain ⟨v3, rfl, hO3, hb3⟩ := hp3
    have hO3' : Own .u8 5 w3 w2.heap.size v3 xs := hO3
    have hB3 := KB2.out.trans (hb3.mono KB2.out.size)
    have KC4 := Kept.mk (parse_any v3 xs w3 (Tab.later KT.out hB3 (Nat.le_refl _)) hO3'.rd KA.out Kln.out)
    have Kb3 := Kept.mk hb3
    clear hO3 hO3' hb3 hB3 KTwn
    go_wp2_with fail
    refine Calls.mono KC4.out (fun e w4 hp4 => ?_)
    obtain ⟨v4, rfl, hO4, hb4⟩ := hp4
    have KPl := Kept.mk (prsP_len KA.out)
    have KLl := Kept.mk (prsL_len KA.out)
    obtain ⟨w5, hw5, hb5, -, hbk5⟩ := box_id w4 (prsP xs)
    have hb35 := hb4.trans (hb5.mono hb4.size)
    have hb25 := Kb3.out.trans (hb35.mono Kb3.out.size)
    have KO5 := Kept.mk (hO4.later hb5 (Nat.le_refl _))
    have Kbk5 := Kept.mk hbk5
    have KC6 := Kept.mk (docParse_any _ xs w5 (KX2.out.later hb25 (Nat.le_refl _)) KA.out Kln.out)
    have Kb25 := Kept.mk hb25
    have KPi := Kept.mk (id_info KPl.out)
    have KPiL := Kept.mk (id_infoL KPl.out)
    have KPz : Kept ((cellsK .u8 (prsP xs)).toArray.size = 32) := ⟨by rw [List.size_toArray, cellsK_length, KPl.out]⟩
    have KPo := Kept.mk (cellsK_all .u8 (prsP xs))
    have KEq : Kept (∀ W, (Op.equalIn 10000 24 (.agg (cellsK .u8 (prsP xs)).toArray) (.agg (cellsK .u8 (prsP xs)).toArray)).run Tryd.prog W = .ok true W) := ⟨fun W => by rw [eq_id W 9998 KPl.out KPl.out, decide_eq_true rfl]⟩
    clear hO4 hb4 hb5 hbk5 hb35 hb25 KC4
    obtain ⟨PP, hPP⟩ : ∃ PP, prsP xs = PP := ⟨_, rfl⟩
    rw [hPP] at hw5 Kbk5 KC6 KPl KPi KPiL KPz KPo KEq ⊢
    clear hPP
    obtain ⟨CP, hCP⟩ : ∃ CP, cellsK .u8 PP = CP := ⟨_, rfl⟩
    have KCP := Kept.mk hCP
    rw [hCP] at hw5 KC6 KPi KPiL KPz KPo KEq ⊢
    clear hCP
    obtain ⟨PE, hPE⟩ : ∃ PE, prsE xs = PE := ⟨_, rfl⟩
    rw [hPE] at KC6 ⊢
    clear hPE
    obtain ⟨L, hL⟩ : ∃ L, prsL xs = L := ⟨_, rfl⟩
    rw [hL] at KC6 KO5 KLl
    clear hL
    go_upto_region 6 with (refine BigFrame.wpList_want rfl (fun K hK => wp_store_row 24 _ _ rfl w4.heap.size CP.toArray rfl rfl 24 _ (heap_alloc_new w4 _) KPi.out (by rw [KPz.out]; rfl) KPo.out (hK _ _ ?_)); rw [World.setRow_alloc_new])
    try rw [hw5]
    clear hw5
    go_wp2_with fail
    refine Calls.mono KC6.out (fun e w6 hp6 => ?_)
    obtain ⟨v6, rfl, hO6, hb6⟩ := hp6
    obtain ⟨w7, hw7, hb7, -, hbk7⟩ := box_id w6 PP
    rw [KCP.out] at hw7
    have hb57 := hb6.trans (hb7.mono hb6.size)
    have KO7 := Kept.mk (hO6.later hb7 (Nat.le_refl _))
    have KC8 := Kept.mk (of_any v4 L w7 (KO5.out.later hb57 (Nat.le_refl _)).rdR (by have := KLl.out; omega))
    have Kb57 := Kept.mk hb57
    have Kbk7 := Kept.mk hbk7
    clear hO6 hb6 hb7 hbk7 hb57 KC6
    go_upto_region 7 with (refine BigFrame.wpList_want rfl (fun K hK => wp_store_row 24 _ _ rfl w6.heap.size CP.toArray rfl rfl 24 _ (heap_alloc_new w6 _) KPi.out (by rw [KPz.out]; rfl) KPo.out (hK _ _ ?_)); rw [World.setRow_alloc_new])
    try rw [hw7]
    clear hw7
    go_wp2_with fail
    refine Calls.mono KC8.out (fun e w8 hp8 => ?_)
    obtain ⟨v8, rfl, hO8, hb8⟩ := hp8
    have KC9 := Kept.mk (sameR_any v8 v6 L L w8 hO8.rdR (KO7.out.later hb8 (Nat.le_refl _)).rdR (by have := KLl.out; omega) (by have := KLl.out; omega))
    rw [decide_eq_true rfl] at KC9
    have Kb8 := Kept.mk hb8
    clear hO8 hb8 KC8
    go_wp2_with fail
    refine Calls.mono KC9.out (fun e w9 hp9 => ?_)
    obtain ⟨rfl, hb9⟩ := hp9
    have hb79 := Kb8.out.trans (hb9.mono Kb8.out.size)
    have hb59 := Kb57.out.trans (hb79.mono Kb57.out.size)
    have hb29 := Kb25.out.trans (hb59.mono Kb25.out.size)
    have KZ5 : Kept (w9.rangeAt w4.heap.size 0 CP) := ⟨by rw [← KCP.out]; exact (Kbk5.out.far hb59 Kbk5.out.lt).range⟩
    have KZ7 : Kept (w9.rangeAt w6.heap.size 0 CP) := ⟨by rw [← KCP.out]; exact (Kbk7.out.far hb79 Kbk7.out.lt).range⟩
    have Kb29 := Kept.mk hb29
    have hEq := KEq.out
    clear hb9 hb79 hb59 hb29 KC9
    go_upto_region 9 with (first | (refine BigFrame.wpList_want rfl (fun K hK => wp_load_mid 24 _ rfl w4.heap.size 0 rfl CP _ KZ5.out Tryd.underlying24 rfl KPiL.out (hK _ _ ?_))) | (refine BigFrame.wpList_want rfl (fun K hK => wp_load_mid 24 _ rfl w6.heap.size 0 rfl CP _ KZ7.out Tryd.underlying24 rfl KPiL.out (hK _ _ ?_))))
    clear hEq KZ5 KZ7 KEq
    have KBw9 := Kept.mk (KB2.out.trans (Kb29.out.mono KB2.out.size))
    have KRg : Kept (∀ W, Below w9.heap.size w9 W → W.rangeAt w.heap.size 0 IL) := ⟨fun W hW => KRi.out W (Kb29.out.trans (hW.mono Kb29.out.size))⟩
    have KRd : Kept (∀ W, Below w9.heap.size w9 W → Rd .u8 anyB W (.slice a xs.length c) xs) := ⟨fun W hW => KX2.out.later (Kb29.out.trans (hW.mono Kb29.out.size)) (Nat.le_refl _)⟩
    have KTb : Kept (∀ W, Below w9.heap.size w9 W → Sh.Tab W Sh.ksK) := ⟨fun W hW => Tab.later KT.out (KBw9.out.trans (hW.mono KBw9.out.size)) (Nat.le_refl _)⟩
    have KTw : Kept (∀ W, Below w9.heap.size w9 W → Calls Tryd.prog 7 #[.slice a xs.length c] W fun e w' => ∃ v', e = .returned v' ∧ Own .u8 5 w' W.heap.size v' xs ∧ Below W.heap.size W w') := ⟨fun W hW => Sh.twin_any _ xs W (shRd (KRd.out W hW) KA.out) (by have := Kln.out; omega)⟩
    have KFd : Kept (∀ W V {B : Nat}, Below w9.heap.size w9 W → Own .u8 5 W B V xs → Calls Tryd.prog 11 #[V, .agg IL.toArray] W fun e w' => FndEnd xs id W w' e) := ⟨fun W V B hW hO => by rw [← KIL.out]; exact find_any V xs id W (KTb.out W hW) hO.rd KA.out Kln.out Khid.out KAi.out⟩
    have KDf : Kept (∀ W, Below w9.heap.size w9 W → Calls Tryd.prog 12 #[.slice a xs.length c, .agg IL.toArray] W fun e w' => FndEnd xs id W w' e) := ⟨fun W hW => by rw [← KIL.out]; exact docFind_any _ xs id W (KRd.out W hW) KA.out Kln.out Khid.out⟩
    have KBd9 : Kept (Below w9.heap.size w9 w9.drew) := ⟨(Below.refl _ w9).drew⟩
    have KRg0 := KRg.out w9.drew KBd9.out
    have hu29 := Tryd.underlying24
    clear KTb KRd KX2 KO5 KO7 KRi Kbk5 Kbk7
    refine wp_region_noPanic ?_
    refine wp_region_held_drew (S := fun W => W.rangeAt w.heap.size 0 IL) (by kernel_rfl) KRg0 (fun hHeld => ?_)
    generalize hwD : w9.drew = wD at *
    clear hwD
    refine wpAnyH_takeD (i := 0) (d := some 47) (v := .slice a xs.length c) rfl rfl (by kernel_rfl) (by kernel_rfl) (by kernel_rfl) (fun _ _ _ h => h) (Or.inl ⟨by rfl, fun W hSw => by (try dsimp only at hSw); go_simp⟩) (by assumption) ?_
    simp only [Act.put, List.setIfInBounds_toArray, List.set_cons_zero, List.set_cons_succ]
    refine wpAnyH_takeD (i := 2) (d := some 49) (v := .agg IL.toArray) rfl rfl (by kernel_rfl) (by kernel_rfl) (by kernel_rfl) (fun _ _ _ h => h) (yieldsIf_load_mid (by rfl) _ _ rfl _ _ rfl IL _ (fun W hSw => hSw) hu29 rfl KIi.out) (by assumption) ?_
    simp only [Act.put, List.setIfInBounds_toArray, List.set_cons_zero, List.set_cons_succ]
    refine wpAnyH_ready (rs := [1, 7]) (by kernel_rfl) (by simp) ?_
    refine AllReadyH.cons (o := _) rfl (fun K hK => ?_) (AllReadyH.cons (o := _) rfl (fun K hK => ?_) AllReadyH.nil)
    · clear hHeld KRg0
      go_simp
      refine Calls.mono (KTw.out wD KBd9.out) (fun e w10 hpt => ?_)
      obtain ⟨v10, rfl, hOt, hbt⟩ := hpt
      have hb9t := KBd9.out.trans (hbt.mono KBd9.out.size)
      have KTw10 := Kept.mk hOt
      have KBw10 := Kept.mk hb9t
      have hSw10 := KRg.out w10 hb9t
      have Ktw10 := Kept.mk hbt
      clear hOt hbt hb9t
      refine hK.out _ _ hSw10 (fun hHeld1 => ?_)
      clear hK K hSw10
      refine wpAnyH_ready (rs := [3, 7]) (by kernel_rfl) (by simp) ?_
      refine AllReadyH.cons (o := _) rfl (fun K hK => ?_) (AllReadyH.cons (o := _) rfl (fun K hK => ?_) AllReadyH.nil)
      · clear hHeld1
        go_simp
        refine Calls.mono (KFd.out w10 v10 KBw10.out KTw10.out) (fun e w11 hpf => ?_)
        have hpf2 := hpf
        obtain ⟨r, hr, hrok, -, -, hbf⟩ := hpf2
        have KFe := Kept.mk hpf
        have hb9f := KBw10.out.trans (hbf.mono KBw10.out.size)
        have KBw11 := Kept.mk hb9f
        have hSw11 := KRg.out w11 hb9f
        have Kfw11 := Kept.mk hbf
        have Krok := Kept.mk hrok
        subst hr
        clear hpf hrok hbf hb9f
        obtain ⟨CL, hCL⟩ : ∃ CL, r.l = CL := ⟨_, rfl⟩
        have KCL := Kept.mk hCL
        rw [hCL]
        clear hCL
        refine hK.out _ _ hSw11 (fun hHeld2 => ?_)
        clear hK K hSw11
        generalize fndE xs id = E at *
        refine wpAnyH_takeD (i := 4) (d := some 46) (v := .tuple #[.agg CL.toArray, .int .i64 E]) rfl rfl (by kernel_rfl) (by kernel_rfl) (by kernel_rfl) (fun _ _ _ h => h) (Or.inl ⟨by rfl, fun W hSw => by (try dsimp only at hSw); go_simp⟩) (by assumption) ?_
        simp only [Act.put, List.setIfInBounds_toArray, List.set_cons_zero, List.set_cons_succ]
        refine wpAnyH_takeD (i := 5) (d := some 51) (v := .agg CL.toArray) rfl rfl (by kernel_rfl) (by kernel_rfl) (by kernel_rfl) (fun _ _ _ h => h) (Or.inl ⟨by rfl, fun W hSw => by (try dsimp only at hSw); go_simp⟩) (by assumption) ?_
        simp only [Act.put, List.setIfInBounds_toArray, List.set_cons_zero, List.set_cons_succ]
        refine wpAnyH_takeD (i := 6) (d := some 52) (v := .int .i64 E) rfl rfl (by kernel_rfl) (by kernel_rfl) (by kernel_rfl) (fun _ _ _ h => h) (Or.inl ⟨by rfl, fun W hSw => by (try dsimp only at hSw); go_simp⟩) (by assumption) ?_
        simp only [Act.put, List.setIfInBounds_toArray, List.set_cons_zero, List.set_cons_succ]
        refine wpAnyH_ready (rs := [7]) (by kernel_rfl) (by simp) ?_
        refine AllReadyH.cons (o := _) rfl (fun K hK => ?_) AllReadyH.nil
        go_simp
        generalize hOb : Obj.cells (_ : Array Value) 39 = Ob
        have hOb2 : Ob = Obj.cells (default : RowC).l.toArray 39 := by subst hOb; rfl
        subst hOb2
        clear hOb
        obtain ⟨wa, hwa, hBwa, hltwa, hhwa, -⟩ := box_row w11 39 row0_ok
        rw [hwa]
        clear hwa
        have hb9a := KBw11.out.trans (hBwa.mono KBw11.out.size)
        have KBwa := Kept.mk hb9a
        have Kg : Kept (w9.heap.size ≤ w11.heap.size) := ⟨KBw11.out.size⟩
        have Khwa := Kept.mk hhwa
        refine hK.out _ _ (KRg.out wa hb9a) (fun hHeld3 => ?_)
        clear hK K hHeld2 hb9a hBwa hltwa hhwa
        obtain ⟨wS, hwS⟩ : ∃ wS, wa.setRow w11.heap.size CL.toArray = wS := ⟨_, rfl⟩
        have KhS : Kept (wS.heap[w11.heap.size]? = some (.cells CL.toArray 39)) := ⟨by rw [← hwS]; exact setRow_heap _ _ _ _ _ _ Khwa.out⟩
        have KI2 : Kept ((Tryd.prog.info? 39).map (·.size) = some CL.toArray.size) := ⟨by rw [← KCL.out]; exact row_info1 Krok.out⟩
        have KSz : Kept (CL.toArray.size = 34) := ⟨by rw [← KCL.out]; exact row_size Krok.out⟩
        have KOn : Kept (CL.toArray.all (·.oneCell') = true) := ⟨by rw [← KCL.out]; exact all_oneCell_toArray (RowC.ones _)⟩
        have hb9S : Below w9.heap.size w9 wS := by rw [← hwS]; exact below_setRow KBwa.out (by first | exact KBwa.out.size | exact Kg.out | omega) _
        have KBS := Kept.mk hb9S
        have hSS := KRg.out wS hb9S
        clear hb9S
        refine wpAnyH_ready (rs := [8]) (by kernel_rfl) (by simp) ?_
        refine AllReadyH.cons (o := _) rfl (fun K hK => ?_) AllReadyH.nil
        refine wp_store_row 39 _ _ rfl w11.heap.size CL.toArray rfl rfl 39 _ Khwa.out KI2.out (by rw [KSz.out]; exact row_size row0_ok) KOn.out ?_
        rw [hwS]
        refine hK.out _ _ hSS (fun hHeldS => ?_)
        clear hK K
        refine wpAnyH_takeD (i := 9) (d := some 7) (v := .int .i64 E) rfl rfl (by kernel_rfl) (by kernel_rfl) (by kernel_rfl) (fun _ _ _ h => h) (Or.inl ⟨by rfl, fun W hSw => by (try dsimp only at hSw); go_simp⟩) (by assumption) ?_
        simp only [Act.put, List.setIfInBounds_toArray]
        refine wpAnyH_done (by kernel_rfl) ?_ _
        refine NoPanic.normal ?_
        clear hHeldS hwS hSS
        have KRc := Kept.mk (KRg.out wS KBS.out)
        go_wp2_with (refine wpList_load_mid rfl 24 _ rfl w.heap.size 0 rfl IL _ KRc.out Tryd.underlying24 rfl KIi.out ?_)
        refine Calls.mono (KDf.out wS KBS.out) (fun e w12 hpd => ?_)
        obtain rfl := fnd_one hpd KFe.out
        have hb12 : Below wS.heap.size wS w12 := fnd_below hpd
        clear hpd
        obtain ⟨w13, hw13, hb13, hlt13, hh13, -⟩ := box_row w12 42 Krok.out
        rw [KCL.out] at hw13 hh13 ⊢
        have hbS13 := hb12.trans (hb13.mono hb12.size)
        have hgS : w11.heap.size < wS.heap.size := block_lt KhS.out
        have hh : w13.heap[w11.heap.size]? = some (.cells CL.toArray 39) := by rw [hbS13.block _ hgS]; exact KhS.out
        have KId : Kept (w13.rangeAt w11.heap.size 0 (cellsK .u8 r.ids)) := ⟨by rw [← KCL.out] at hh; exact row_range32 (range_of_blockR hh)⟩
        have hcC : w13.cell? ⟨w11.heap.size, 32, none⟩ = some (.int .u32 r.crc) := by rw [cell_of_row w13 _ 32 _ _ (0, 0) hh, ← KCL.out, List.getElem?_toArray]; exact RowC.cCrc Krok.out
        have hcP : w13.cell? ⟨w11.heap.size, 33, none⟩ = some (.int .u64 r.pl) := by rw [cell_of_row w13 _ 33 _ _ (0, 0) hh, ← KCL.out, List.getElem?_toArray]; exact RowC.cPl Krok.out
        have KRw : Kept (w13.rangeAt w12.heap.size 0 CL) := ⟨range_of_blockR hh13⟩
        have KIa : Kept ((Tryd.prog.info? 42).map (·.size) = some CL.toArray.size) := ⟨by rw [← KCL.out]; exact info_rowA Krok.out⟩
        have KIl : Kept ((Tryd.prog.info? 42).map (·.size) = some CL.length) := ⟨by rw [← KCL.out]; exact info_rowL Krok.out⟩
        have KIr := Kept.mk (id_infoL Krok.out.1)
        have KRl : Kept ((cellsK .u8 r.ids).length = 32) := ⟨by rw [cellsK_length, Krok.out.1]⟩
        have KBd : Kept (cellsK .u8 r.ids ++ [.int .u32 r.crc, .int .u64 r.pl] = CL) := ⟨KCL.out⟩
        have KQe : Kept (∀ W, (Op.equalIn 10000 42 (.agg CL.toArray) (.agg CL.toArray)).run Tryd.prog W = .ok true W) := ⟨fun W => by rw [← KCL.out, eq_row W 9997 fs2 Krok.out Krok.out, decide_eq_true rfl]⟩
        have KBe := Kept.mk (KBS.out.trans (hbS13.mono KBS.out.size))
        clear hb12 hb13 hlt13 hh13 hbS13 hgS hh KFe
        generalize r.crc = cr at *
        generalize r.pl = pl at *
        generalize hRI : cellsK .u8 r.ids = RI at *
        clear hRI
        go_upto_region 11 with (refine BigFrame.wpList_want rfl (fun K hK => wp_store_row 42 _ _ rfl w12.heap.size CL.toArray rfl rfl 42 _ (heap_alloc_new w12 _) KIa.out (by rw [KSz.out]; rfl) KOn.out (hK _ _ ?_)); rw [World.setRow_alloc_new])
        try rw [hw13]
        clear hw13
        go_wp2_with (first | (refine wpList_load_mid rfl 24 _ rfl (w11.heap.size) 0 rfl RI _ KId.out Tryd.underlying24 rfl KIr.out ?_) | (refine wpList_buildR rfl 42 _ _ _ rfl built2 RI KRl.out cr pl rfl rfl rfl ?_; rw [KBd.out]) | (refine wpList_load_mid rfl 42 _ rfl w12.heap.size 0 rfl CL _ KRw.out Tryd.underlying42 rfl KIl.out ?_) | (refine BigFrame.wpList_want rfl (fun K hK => wp_of_runU (exec_eqlR 42 Tryd.eqGuardType42 rfl rfl rfl (KQe.out _)) (hK _ _ ?_))))
        go_ret
        exact ⟨by simp, KBw9.out.trans (KBe.out.mono KBw9.out.size)⟩
      · clear hHeld1
        go_simp
        generalize hOb : Obj.cells (_ : Array Value) 39 = Ob
        have hOb2 : Ob = Obj.cells (default : RowC).l.toArray 39 := by subst hOb; rfl
        subst hOb2
        clear hOb
        obtain ⟨wa, hwa, hBwa, hltwa, hhwa, -⟩ := box_row w10 39 row0_ok
        rw [hwa]
        clear hwa
        have hb9a := KBw10.out.trans (hBwa.mono KBw10.out.size)
        have KBwa := Kept.mk hb9a
        have Kg : Kept (w9.heap.size ≤ w10.heap.size) := ⟨KBw10.out.size⟩
        have KTa := Kept.mk (KTw10.out.later hBwa (Nat.le_refl _))
        have Khwa := Kept.mk hhwa
        have Klwa := Kept.mk hltwa
        refine hK.out _ _ (KRg.out wa hb9a) (fun hHeld3 => ?_)
        clear hK K hb9a hBwa hltwa hhwa
        refine wpAnyH_ready (rs := [3]) (by kernel_rfl) (by simp) ?_
        refine AllReadyH.cons (o := _) rfl (fun K hK => ?_) AllReadyH.nil
        go_simp
        refine Calls.mono (KFd.out wa v10 KBwa.out KTa.out) (fun e w11 hpf => ?_)
        have hpf2 := hpf
        obtain ⟨r, hr, hrok, -, -, hbf⟩ := hpf2
        have KFe := Kept.mk hpf
        have hb9f := KBwa.out.trans (hbf.mono KBwa.out.size)
        have KBw11 := Kept.mk hb9f
        have hSw11 := KRg.out w11 hb9f
        have Kfw11 := Kept.mk hbf
        have Krok := Kept.mk hrok
        subst hr
        clear hpf hrok hbf hb9f
        obtain ⟨CL, hCL⟩ : ∃ CL, r.l = CL := ⟨_, rfl⟩
        have KCL := Kept.mk hCL
        rw [hCL]
        clear hCL
        have Khf : Kept (w11.heap[w10.heap.size]? = some (.cells (default : RowC).l.toArray 39)) := ⟨by rw [Kfw11.out.block _ Klwa.out]; exact Khwa.out⟩
        refine hK.out _ _ hSw11 (fun hHeld4 => ?_)
        clear hK K hSw11 hHeld3
        generalize fndE xs id = E at *
        refine wpAnyH_takeD (i := 4) (d := some 46) (v := .tuple #[.agg CL.toArray, .int .i64 E]) rfl rfl (by kernel_rfl) (by kernel_rfl) (by kernel_rfl) (fun _ _ _ h => h) (Or.inl ⟨by rfl, fun W hSw => by (try dsimp only at hSw); go_simp⟩) (by assumption) ?_
        simp only [Act.put, List.setIfInBounds_toArray, List.set_cons_zero, List.set_cons_succ]
        refine wpAnyH_takeD (i := 5) (d := some 51) (v := .agg CL.toArray) rfl rfl (by kernel_rfl) (by kernel_rfl) (by kernel_rfl) (fun _ _ _ h => h) (Or.inl ⟨by rfl, fun W hSw => by (try dsimp only at hSw); go_simp⟩) (by assumption) ?_
        simp only [Act.put, List.setIfInBounds_toArray, List.set_cons_zero, List.set_cons_succ]
        refine wpAnyH_takeD (i := 6) (d := some 52) (v := .int .i64 E) rfl rfl (by kernel_rfl) (by kernel_rfl) (by kernel_rfl) (fun _ _ _ h => h) (Or.inl ⟨by rfl, fun W hSw => by (try dsimp only at hSw); go_simp⟩) (by assumption) ?_
        simp only [Act.put, List.setIfInBounds_toArray, List.set_cons_zero, List.set_cons_succ]
        obtain ⟨wS, hwS⟩ : ∃ wS, w11.setRow w10.heap.size CL.toArray = wS := ⟨_, rfl⟩
        have KhS : Kept (wS.heap[w10.heap.size]? = some (.cells CL.toArray 39)) := ⟨by rw [← hwS]; exact setRow_heap _ _ _ _ _ _ Khf.out⟩
        have KI2 : Kept ((Tryd.prog.info? 39).map (·.size) = some CL.toArray.size) := ⟨by rw [← KCL.out]; exact row_info1 Krok.out⟩
        have KSz : Kept (CL.toArray.size = 34) := ⟨by rw [← KCL.out]; exact row_size Krok.out⟩
        have KOn : Kept (CL.toArray.all (·.oneCell') = true) := ⟨by rw [← KCL.out]; exact all_oneCell_toArray (RowC.ones _)⟩
        have hb9S : Below w9.heap.size w9 wS := by rw [← hwS]; exact below_setRow KBw11.out (by first | exact KBw11.out.size | exact Kg.out | omega) _
        have KBS := Kept.mk hb9S
        have hSS := KRg.out wS hb9S
        clear hb9S
        refine wpAnyH_ready (rs := [8]) (by kernel_rfl) (by simp) ?_
        refine AllReadyH.cons (o := _) rfl (fun K hK => ?_) AllReadyH.nil
        refine wp_store_row 39 _ _ rfl w10.heap.size CL.toArray rfl rfl 39 _ Khf.out KI2.out (by rw [KSz.out]; exact row_size row0_ok) KOn.out ?_
        rw [hwS]
        refine hK.out _ _ hSS (fun hHeldS => ?_)
        clear hK K
        refine wpAnyH_takeD (i := 9) (d := some 7) (v := .int .i64 E) rfl rfl (by kernel_rfl) (by kernel_rfl) (by kernel_rfl) (fun _ _ _ h => h) (Or.inl ⟨by rfl, fun W hSw => by (try dsimp only at hSw); go_simp⟩) (by assumption) ?_
        simp only [Act.put, List.setIfInBounds_toArray]
        refine wpAnyH_done (by kernel_rfl) ?_ _
        refine NoPanic.normal ?_
        clear hHeldS hwS hSS
        have KRc := Kept.mk (KRg.out wS KBS.out)
        go_wp2_with (refine wpList_load_mid rfl 24 _ rfl w.heap.size 0 rfl IL _ KRc.out Tryd.underlying24 rfl KIi.out ?_)
        refine Calls.mono (KDf.out wS KBS.out) (fun e w12 hpd => ?_)
        obtain rfl := fnd_one hpd KFe.out
        have hb12 : Below wS.heap.size wS w12 := fnd_below hpd
        clear hpd
        obtain ⟨w13, hw13, hb13, hlt13, hh13, -⟩ := box_row w12 42 Krok.out
        rw [KCL.out] at hw13 hh13 ⊢
        have hbS13 := hb12.trans (hb13.mono hb12.size)
        have hgS : w10.heap.size < wS.heap.size := block_lt KhS.out
        have hh : w13.heap[w10.heap.size]? = some (.cells CL.toArray 39) := by rw [hbS13.block _ hgS]; exact KhS.out
        have KId : Kept (w13.rangeAt w10.heap.size 0 (cellsK .u8 r.ids)) := ⟨by rw [← KCL.out] at hh; exact row_range32 (range_of_blockR hh)⟩
        have hcC : w13.cell? ⟨w10.heap.size, 32, none⟩ = some (.int .u32 r.crc) := by rw [cell_of_row w13 _ 32 _ _ (0, 0) hh, ← KCL.out, List.getElem?_toArray]; exact RowC.cCrc Krok.out
        have hcP : w13.cell? ⟨w10.heap.size, 33, none⟩ = some (.int .u64 r.pl) := by rw [cell_of_row w13 _ 33 _ _ (0, 0) hh, ← KCL.out, List.getElem?_toArray]; exact RowC.cPl Krok.out
        have KRw : Kept (w13.rangeAt w12.heap.size 0 CL) := ⟨range_of_blockR hh13⟩
        have KIa : Kept ((Tryd.prog.info? 42).map (·.size) = some CL.toArray.size) := ⟨by rw [← KCL.out]; exact info_rowA Krok.out⟩
        have KIl : Kept ((Tryd.prog.info? 42).map (·.size) = some CL.length) := ⟨by rw [← KCL.out]; exact info_rowL Krok.out⟩
        have KIr := Kept.mk (id_infoL Krok.out.1)
        have KRl : Kept ((cellsK .u8 r.ids).length = 32) := ⟨by rw [cellsK_length, Krok.out.1]⟩
        have KBd : Kept (cellsK .u8 r.ids ++ [.int .u32 r.crc, .int .u64 r.pl] = CL) := ⟨KCL.out⟩
        have KQe : Kept (∀ W, (Op.equalIn 10000 42 (.agg CL.toArray) (.agg CL.toArray)).run Tryd.prog W = .ok true W) := ⟨fun W => by rw [← KCL.out, eq_row W 9997 fs2 Krok.out Krok.out, decide_eq_true rfl]⟩
        have KBe := Kept.mk (KBS.out.trans (hbS13.mono KBS.out.size))
        clear hb12 hb13 hlt13 hh13 hbS13 hgS hh KFe
        generalize r.crc = cr at *
        generalize r.pl = pl at *
        generalize hRI : cellsK .u8 r.ids = RI at *
        clear hRI
        go_upto_region 11 with (refine BigFrame.wpList_want rfl (fun K hK => wp_store_row 42 _ _ rfl w12.heap.size CL.toArray rfl rfl 42 _ (heap_alloc_new w12 _) KIa.out (by rw [KSz.out]; rfl) KOn.out (hK _ _ ?_)); rw [World.setRow_alloc_new])
        try rw [hw13]
        clear hw13
        go_wp2_with (first | (refine wpList_load_mid rfl 24 _ rfl (w10.heap.size) 0 rfl RI _ KId.out Tryd.underlying24 rfl KIr.out ?_) | (refine wpList_buildR rfl 42 _ _ _ rfl built2 RI KRl.out cr pl rfl rfl rfl ?_; rw [KBd.out]) | (refine wpList_load_mid rfl 42 _ rfl w12.heap.size 0 rfl CL _ KRw.out Tryd.underlying42 rfl KIl.out ?_) | (refine BigFrame.wpList_want rfl (fun K hK => wp_of_runU (exec_eqlR 42 Tryd.eqGuardType42 rfl rfl rfl (KQe.out _)) (hK _ _ ?_))))
        go_ret
        exact ⟨by simp, KBw9.out.trans (KBe.out.mono KBw9.out.size)⟩
    · clear hHeld KRg0
      go_simp
      generalize hOb : Obj.cells (_ : Array Value) 39 = Ob
      have hOb2 : Ob = Obj.cells (default : RowC).l.toArray 39 := by subst hOb; rfl
      subst hOb2
      clear hOb
      obtain ⟨wa, hwa, hBwa, hltwa, hhwa, -⟩ := box_row wD 39 row0_ok
      rw [hwa]
      clear hwa
      have hb9a := KBd9.out.trans (hBwa.mono KBd9.out.size)
      have KBwa := Kept.mk hb9a
      have Kg : Kept (w9.heap.size ≤ wD.heap.size) := ⟨KBd9.out.size⟩
      have Khwa : Kept (wa.heap[wD.heap.size]? = some (.cells (default : RowC).l.toArray 39)) := ⟨hhwa⟩
      have Klwa : Kept (wD.heap.size < wa.heap.size) := ⟨hltwa⟩
      refine hK.out _ _ (KRg.out wa hb9a) (fun hHeld3 => ?_)
      clear hK K hb9a hBwa hltwa hhwa
      refine wpAnyH_ready (rs := [1]) (by kernel_rfl) (by simp) ?_
      refine AllReadyH.cons (o := _) rfl (fun K hK => ?_) AllReadyH.nil
      go_simp
      refine Calls.mono (KTw.out wa KBwa.out) (fun e w10 hpt => ?_)
      obtain ⟨v10, rfl, hOt, hbt⟩ := hpt
      have hb9t := KBwa.out.trans (hbt.mono KBwa.out.size)
      have KTw10 := Kept.mk hOt
      have KBw10 := Kept.mk hb9t
      have hSw10 := KRg.out w10 hb9t
      have Ktw10 := Kept.mk hbt
      clear hOt hbt hb9t
      have Kha : Kept (w10.heap[wD.heap.size]? = some (.cells (default : RowC).l.toArray 39)) := ⟨by rw [Ktw10.out.block _ Klwa.out]; exact Khwa.out⟩
      have Kla : Kept (wD.heap.size < w10.heap.size) := ⟨Nat.lt_of_lt_of_le Klwa.out Ktw10.out.size⟩
      refine hK.out _ _ hSw10 (fun hHeld1 => ?_)
      clear hK K hSw10 hHeld3
      refine wpAnyH_ready (rs := [3]) (by kernel_rfl) (by simp) ?_
      refine AllReadyH.cons (o := _) rfl (fun K hK => ?_) AllReadyH.nil
      go_simp
      refine Calls.mono (KFd.out w10 v10 KBw10.out KTw10.out) (fun e w11 hpf => ?_)
      have hpf2 := hpf
      obtain ⟨r, hr, hrok, -, -, hbf⟩ := hpf2
      have KFe := Kept.mk hpf
      have hb9f := KBw10.out.trans (hbf.mono KBw10.out.size)
      have KBw11 := Kept.mk hb9f
      have hSw11 := KRg.out w11 hb9f
      have Kfw11 := Kept.mk hbf
      have Krok := Kept.mk hrok
      subst hr
      clear hpf hrok hbf hb9f
      obtain ⟨CL, hCL⟩ : ∃ CL, r.l = CL := ⟨_, rfl⟩
      have KCL := Kept.mk hCL
      rw [hCL]
      clear hCL
      have Khf : Kept (w11.heap[wD.heap.size]? = some (.cells (default : RowC).l.toArray 39)) := ⟨by rw [Kfw11.out.block _ Kla.out]; exact Kha.out⟩
      refine hK.out _ _ hSw11 (fun hHeld4 => ?_)
      clear hK K hSw11 hHeld1
      generalize fndE xs id = E at *
      refine wpAnyH_takeD (i := 4) (d := some 46) (v := .tuple #[.agg CL.toArray, .int .i64 E]) rfl rfl (by kernel_rfl) (by kernel_rfl) (by kernel_rfl) (fun _ _ _ h => h) (Or.inl ⟨by rfl, fun W hSw => by (try dsimp only at hSw); go_simp⟩) (by assumption) ?_
      simp only [Act.put, List.setIfInBounds_toArray, List.set_cons_zero, List.set_cons_succ]
      refine wpAnyH_takeD (i := 5) (d := some 51) (v := .agg CL.toArray) rfl rfl (by kernel_rfl) (by kernel_rfl) (by kernel_rfl) (fun _ _ _ h => h) (Or.inl ⟨by rfl, fun W hSw => by (try dsimp only at hSw); go_simp⟩) (by assumption) ?_
      simp only [Act.put, List.setIfInBounds_toArray, List.set_cons_zero, List.set_cons_succ]
      refine wpAnyH_takeD (i := 6) (d := some 52) (v := .int .i64 E) rfl rfl (by kernel_rfl) (by kernel_rfl) (by kernel_rfl) (fun _ _ _ h => h) (Or.inl ⟨by rfl, fun W hSw => by (try dsimp only at hSw); go_simp⟩) (by assumption) ?_
      simp only [Act.put, List.setIfInBounds_toArray, List.set_cons_zero, List.set_cons_succ]
      obtain ⟨wS, hwS⟩ : ∃ wS, w11.setRow wD.heap.size CL.toArray = wS := ⟨_, rfl⟩
      have KhS : Kept (wS.heap[wD.heap.size]? = some (.cells CL.toArray 39)) := ⟨by rw [← hwS]; exact setRow_heap _ _ _ _ _ _ Khf.out⟩
      have KI2 : Kept ((Tryd.prog.info? 39).map (·.size) = some CL.toArray.size) := ⟨by rw [← KCL.out]; exact row_info1 Krok.out⟩
      have KSz : Kept (CL.toArray.size = 34) := ⟨by rw [← KCL.out]; exact row_size Krok.out⟩
      have KOn : Kept (CL.toArray.all (·.oneCell') = true) := ⟨by rw [← KCL.out]; exact all_oneCell_toArray (RowC.ones _)⟩
      have hb9S : Below w9.heap.size w9 wS := by rw [← hwS]; exact below_setRow KBw11.out (by first | exact KBw11.out.size | exact Kg.out | omega) _
      have KBS := Kept.mk hb9S
      have hSS := KRg.out wS hb9S
      clear hb9S
      refine wpAnyH_ready (rs := [8]) (by kernel_rfl) (by simp) ?_
      refine AllReadyH.cons (o := _) rfl (fun K hK => ?_) AllReadyH.nil
      refine wp_store_row 39 _ _ rfl wD.heap.size CL.toArray rfl rfl 39 _ Khf.out KI2.out (by rw [KSz.out]; exact row_size row0_ok) KOn.out ?_
      rw [hwS]
      refine hK.out _ _ hSS (fun hHeldS => ?_)
      clear hK K
      refine wpAnyH_takeD (i := 9) (d := some 7) (v := .int .i64 E) rfl rfl (by kernel_rfl) (by kernel_rfl) (by kernel_rfl) (fun _ _ _ h => h) (Or.inl ⟨by rfl, fun W hSw => by (try dsimp only at hSw); go_simp⟩) (by assumption) ?_
      simp only [Act.put, List.setIfInBounds_toArray]
      refine wpAnyH_done (by kernel_rfl) ?_ _
      refine NoPanic.normal ?_
      clear hHeldS hwS hSS
      have KRc := Kept.mk (KRg.out wS KBS.out)
      go_wp2_with (refine wpList_load_mid rfl 24 _ rfl w.heap.size 0 rfl IL _ KRc.out Tryd.underlying24 rfl KIi.out ?_)
      refine Calls.mono (KDf.out wS KBS.out) (fun e w12 hpd => ?_)
      obtain rfl := fnd_one hpd KFe.out
      have hb12 : Below wS.heap.size wS w12 := fnd_below hpd
      clear hpd
      obtain ⟨w13, hw13, hb13, hlt13, hh13, -⟩ := box_row w12 42 Krok.out
      rw [KCL.out] at hw13 hh13 ⊢
      have hbS13 := hb12.trans (hb13.mono hb12.size)
      have hgS : wD.heap.size < wS.heap.size := block_lt KhS.out
      have hh : w13.heap[wD.heap.size]? = some (.cells CL.toArray 39) := by rw [hbS13.block _ hgS]; exact KhS.out
      have KId : Kept (w13.rangeAt wD.heap.size 0 (cellsK .u8 r.ids)) := ⟨by rw [← KCL.out] at hh; exact row_range32 (range_of_blockR hh)⟩
      have hcC : w13.cell? ⟨wD.heap.size, 32, none⟩ = some (.int .u32 r.crc) := by rw [cell_of_row w13 _ 32 _ _ (0, 0) hh, ← KCL.out, List.getElem?_toArray]; exact RowC.cCrc Krok.out
      have hcP : w13.cell? ⟨wD.heap.size, 33, none⟩ = some (.int .u64 r.pl) := by rw [cell_of_row w13 _ 33 _ _ (0, 0) hh, ← KCL.out, List.getElem?_toArray]; exact RowC.cPl Krok.out
      have KRw : Kept (w13.rangeAt w12.heap.size 0 CL) := ⟨range_of_blockR hh13⟩
      have KIa : Kept ((Tryd.prog.info? 42).map (·.size) = some CL.toArray.size) := ⟨by rw [← KCL.out]; exact info_rowA Krok.out⟩
      have KIl : Kept ((Tryd.prog.info? 42).map (·.size) = some CL.length) := ⟨by rw [← KCL.out]; exact info_rowL Krok.out⟩
      have KIr := Kept.mk (id_infoL Krok.out.1)
      have KRl : Kept ((cellsK .u8 r.ids).length = 32) := ⟨by rw [cellsK_length, Krok.out.1]⟩
      have KBd : Kept (cellsK .u8 r.ids ++ [.int .u32 r.crc, .int .u64 r.pl] = CL) := ⟨KCL.out⟩
      have KQe : Kept (∀ W, (Op.equalIn 10000 42 (.agg CL.toArray) (.agg CL.toArray)).run Tryd.prog W = .ok true W) := ⟨fun W => by rw [← KCL.out, eq_row W 9997 fs2 Krok.out Krok.out, decide_eq_true rfl]⟩
      have KBe := Kept.mk (KBS.out.trans (hbS13.mono KBS.out.size))
      clear hb12 hb13 hlt13 hh13 hbS13 hgS hh KFe
      generalize r.crc = cr at *
      generalize r.pl = pl at *
      generalize hRI : cellsK .u8 r.ids = RI at *
      clear hRI
      go_upto_region 11 with (refine BigFrame.wpList_want rfl (fun K hK => wp_store_row 42 _ _ rfl w12.heap.size CL.toArray rfl rfl 42 _ (heap_alloc_new w12 _) KIa.out (by rw [KSz.out]; rfl) KOn.out (hK _ _ ?_)); rw [World.setRow_alloc_new])
      try rw [hw13]
      clear hw13
      go_wp2_with (first | (refine wpList_load_mid rfl 24 _ rfl (wD.heap.size) 0 rfl RI _ KId.out Tryd.underlying24 rfl KIr.out ?_) | (refine wpList_buildR rfl 42 _ _ _ rfl built2 RI KRl.out cr pl rfl rfl rfl ?_; rw [KBd.out]) | (refine wpList_load_mid rfl 42 _ rfl w12.heap.size 0 rfl CL _ KRw.out Tryd.underlying42 rfl KIl.out ?_) | (refine BigFrame.wpList_want rfl (fun K hK => wp_of_runU (exec_eqlR 42 Tryd.eqGuardType42 rfl rfl rfl (KQe.out _)) (hK _ _ ?_))))
      go_ret
      exact ⟨by simp, KBw9.out.trans (KBe.out.mono KBw9.out.size)⟩
end Go.Proofs.YtgoegmaepafopaaDoor
