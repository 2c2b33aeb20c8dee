/-
  Walks: lengthsCode.
-/
import Derived.Test.YtjijkcmbbccfmaaDoorR5
import Derived.Deep.MidRow
import Derived.OwnWalk
namespace Go.Proofs.YtjijkcmbbccfmaaDoor
open Go.RowKit

theorem Rdr.keep {W0 w w' : World} {rb : Nat} {ob : Option Nat} {inV : Value} {p out : List Int} {most t : Nat} (h : Rdr W0 w rb ob inV p most out t) (hrb : w'.heap[rb]? = w.heap[rb]?) (hob : ∀ k, ob = some k → w'.heap[k]? = w.heap[k]?) (hbel : Below W0.heap.size W0 w') : Rdr W0 w' rb ob inV p most out t := by
  obtain ⟨at_, held, outV, hB, h1, h2, h3, own, hobe⟩ := h.blk
  exact ⟨⟨at_, held, outV, hB.far hrb, h1, h2, h3, own.far fun g hg => hob g (by rw [← hobe]; exact hg), hobe⟩, hbel, h.hb, h.ho, h.rd, h.ap, h.ao, h.lp, h.hm, h.lo⟩
theorem Rdr.set {W0 w : World} {rb : Nat} {ob : Option Nat} {inV : Value} {p out : List Int} {most t : Nat} (h : Rdr W0 w rb ob inV p most out t) {b : Nat} (hb : W0.heap.size ≤ b) (h1 : b ≠ rb) (h2 : some b ≠ ob) (i : Nat) (u : Value) : Rdr W0 (w.setCell ⟨b, i, none⟩ u) rb ob inV p most out t :=
  h.keep (Below.heap_setCell _ _ _ _ (Ne.symm h1)) (fun k hk => Below.heap_setCell _ _ _ _ (fun e => h2 (by rw [hk]; exact congrArg some e.symm))) (h.bel.setCell hb _)
theorem Rdr.rb_lt {W0 w : World} {rb : Nat} {ob : Option Nat} {inV : Value} {p out : List Int} {most t : Nat} (h : Rdr W0 w rb ob inV p most out t) : rb < w.heap.size := by
  obtain ⟨_, _, _, hB, -⟩ := h.blk
  exact hB.lt
/-- A store into a block that is newer. -/
theorem Fr.setNew {rb : Nat} {ob : Option Nat} {w w1 : World} (h : Fr rb ob w w1) {b : Nat} (hb : w.heap.size ≤ b) (i : Nat) (u : Value) : Fr rb ob w (w1.setCell ⟨b, i, none⟩ u) :=
  ⟨h.os, h.tape, h.output, by simpa [World.setCell] using h.size, fun k hk h1 h2 => by rw [Below.heap_setCell _ _ _ _ (show k ≠ b by omega)]; exact h.block k hk h1 h2⟩

/-- Block b holds ints. -/
def Blk (w : World) (b : Nat) (xs : List Int) : Prop := w.heap[b]? = some (.cells (cellsK .i64 xs).toArray 3)
theorem Blk.cell {w : World} {b : Nat} {xs : List Int} (h : Blk w b xs) (i : Nat) (hi : i < xs.length) : w.cell? ⟨b, i, none⟩ = some (.int .i64 (xs.getD i 0)) := by
  unfold Blk at h
  simp [World.cell?, h, cellsK, List.getD, List.getElem?_eq_getElem hi]
theorem Blk.fz {w : World} {b : Nat} {xs : List Int} (h : Blk w b xs) (i : Nat) : w.frozen? ⟨b, i, none⟩ = false := by
  unfold Blk at h
  simp [World.frozen?, h]
theorem Blk.set {w : World} {b : Nat} {xs : List Int} (h : Blk w b xs) (i : Nat) (y : Int) : Blk (w.setCell ⟨b, i, none⟩ (.int .i64 y)) b (xs.set i y) := by
  unfold Blk at h ⊢
  simp only [World.setCell, Array.getElem?_modify, h]
  simp [cellsK, List.map_set]
theorem Blk.far {w w' : World} {b : Nat} {xs : List Int} (h : Blk w b xs) (hb : w'.heap[b]? = w.heap[b]?) : Blk w' b xs := by
  unfold Blk at h ⊢
  rw [hb]
  exact h
theorem Blk.lt {w : World} {b : Nat} {xs : List Int} (h : Blk w b xs) : b < w.heap.size := by
  rcases Nat.lt_or_ge b w.heap.size with h' | h'
  · exact h'
  · unfold Blk at h
    rw [Array.getElem?_eq_none h'] at h
    cases h
theorem Blk.rd {w : World} {b : Nat} {xs : List Int} (h : Blk w b xs) (hl : xs.length ≤ 1000) : Rd .i64 (fun g => g = b) w (.slice (some ⟨b, 0, none⟩) xs.length xs.length) xs :=
  ⟨some ⟨b, 0, none⟩, xs.length, rfl, Nat.le_refl _, by unfold maxLen; omega, (fun e => by cases e), fun _ => ⟨b, 0, rfl, h.lt, rfl, fun i hi => by rw [Nat.zero_add]; exact h.cell i hi⟩⟩

theorem info64z : (Tryd.prog.info? 3).map (fun i => (i.zero, i.size, i.bytes)) = some (some (.int .i64 0), 1, 8) := by kernel_rfl
/-- make([]int, n). -/
theorem wpList_make_ints (w : World) {ops : Array Oper} {rest : List Oper} {o : Oper} {a : Act} {Q : Exit → Act → World → Prop} (hg : o.guard = none) (l c : Operand) (hop : o.op = Op.makeSlice 49 l c) (L C : Int) (n : Nat) (hl : a.eval l = .int .i64 L) (hc : a.eval c = .int .i64 C) (hL : L = (n : Int)) (hC : C = (n : Int)) (hn : n ≤ 2000000)
    (hK : ∀ w', Blk w' w.heap.size (List.replicate n 0) → w.grownBy w' none → wpList Tryd.prog ops Q rest (a.put o.dst (.slice (some ⟨w.heap.size, 0, none⟩) n n)) w') :
    wpList Tryd.prog ops Q (o :: rest) a w := by
  obtain ⟨i, hi, hz, hs, hb⟩ := info_parts info64z
  refine wpList_make_full w hg l c 49 hop w.heap.size 3 i (.int .i64 0) 1 Tryd.underlying49 hi hz hs .i64 .i64 L C n hl hc hL hC (by rw [hb]; omega) (by unfold maxLen; omega) (Nat.le_refl _) (fun w' ho hgr => hK w' ?_ hgr)
  rcases ho with ⟨h1, h2 | ⟨g, cap, cur, hv, hg2, hh, hnc, hcm, hcs, htake⟩⟩
  · cases h2.1
  · cases hv
    unfold Blk
    rw [hh]
    have e : cur = (cellsK .i64 (List.replicate n 0)).toArray := by
      apply Array.toList_inj.1
      rw [List.take_of_length_le (by rw [Array.length_toList, hcs]; exact Nat.le_refl _)] at htake
      rw [htake]
      have ec : (Value.int .i64 0).cells = #[.int .i64 0] := rfl
      rw [ec, Nat.mul_one]
      unfold madeCells cellsK
      rw [Array.toList_map, Array.toList_range, List.map_replicate]
      apply List.ext_getElem
      · simp
      · intro j h1 h2
        simp [Nat.mod_one]
    rw [e]

/-- The table of the order lies in block 0. -/
structure Tab (w : World) : Prop where
  pos : 0 < w.heap.size
  cells : ∀ i, i < 19 → w.cell? ⟨0, i, none⟩ = some (.int .i64 (orderL.getD i 0))
theorem Tab.cell {W0 w : World} (h : Tab W0) (hb : Below W0.heap.size W0 w) (i : Nat) (hi : i < 19) : w.cell? ⟨0, i, none⟩ = some (.int .i64 (orderL.getD i 0)) := by
  rw [hb.cell (p := ⟨0, i, none⟩) h.pos]
  exact h.cells i hi

def nil2 : Value := .agg #[.slice none 0 0, .slice none 0 0]
def AfterC (W0 w w' : World) (rb : Nat) (ob : Option Nat) (inV : Value) (p : List Int) (most : Nat) (out : List Int) (r : Rs Cd) (e : Ending) : Prop :=
  match r with
  | .ok c t' => ∃ cv sv, e = .returned (.tuple #[.agg #[cv, sv], .int .i64 0]) ∧ CdR rb ob w' (.agg #[cv, sv]) c ∧ Rdr W0 w' rb ob inV p most out t' ∧ Fr rb ob w w'
  | .bad er => e = .returned (.tuple #[nil2, .int .i64 er.v]) ∧ Below W0.heap.size W0 w' ∧ Fr rb ob w w'

theorem order_in (i : Nat) : 0 ≤ orderL.getD i 0 ∧ orderL.getD i 0 < 19 := by
  have h : ∀ x ∈ orderL, 0 ≤ x ∧ x < 19 := by decide
  rcases Nat.lt_or_ge i orderL.length with hl | hl
  · simp only [List.getD, List.getElem?_eq_getElem hl, Option.getD_some]
    exact h _ (List.getElem_mem hl)
  · simp [List.getD, List.getElem?_eq_none hl]
theorem mkCd_ok (L : List Int) (hl : L.length ≤ 400) (n : Int) (hn : L.length ≤ n) : CdOk (mkCd L) n := by
  obtain ⟨h1, h2, h3, h4⟩ := mkCd_counts L
  refine ⟨h1, h2, fun y hy => by have := h3 y hy; omega, h4, fun y hy => ?_, by have := mkCd_few L; omega⟩
  have := symsF_in L 15 y hy
  omega

theorem set2_sep {k : IntKind} {rb b m : Nat} {ob : Option Nat} {w : World} {v : Value} {xs : List Int} (h : Rd k (fun g => m ≤ g) w v xs) (hr : rb < b) (hm : b < m) (ho : ∀ j, b ≤ j → some j ≠ ob) (x y : Value) : Rd k (Sep rb ob) ((w.setCell ⟨b, 0, none⟩ x).setCell ⟨b, 1, none⟩ y) v xs :=
  h.far (by simp [World.setCell]) fun g _ hS => ⟨⟨by omega, ho g (by omega)⟩, by rw [Below.heap_setCell _ _ _ _ (show g ≠ b by omega), Below.heap_setCell _ _ _ _ (show g ≠ b by omega)]⟩

set_option maxHeartbeats 2000000 in
set_option maxRecDepth 100000 in
theorem lengthsCode_any {W0 w : World} {rb : Nat} {ob : Option Nat} {inV : Value} {p out : List Int} {most t : Nat} (hT : Tab W0) (n : Nat) (hn : n ≤ 19) (h : Rdr W0 w rb ob inV p most out t) :
    Calls Tryd.prog 70 #[.pointer (some ⟨rb, 0, none⟩), .int .i64 n] w fun e w' => AfterC W0 w w' rb ob inV p most out (lcF p n t) e := by
  have hrb := h.rb_lt
  have hob := h.ob_ge
  have hbs := h.bel.size
  have hrb0 := h.hb
  have KH := Kept.mk h
  have KOB := Kept.mk hob
  have KT := Kept.mk hT
  clear h hob hT
  go_enter Tryd.func70, Tryd.ntmps70
  go_wp2_with (at_make; refine wpList_make_ints _ rfl _ _ rfl 19 19 19 rfl rfl rfl rfl (by omega) ?_; intro w1 hbk hgr; have KBK := Kept.mk hbk; have KGR := Kept.mk hgr; clear hbk hgr)
  have hw1 : w.heap.size + 1 < w1.heap.size := by have := KBK.out.lt; simpa using this
  have hk1 : ∀ k, k < w.heap.size + 1 → w1.heap[k]? = (w.alloc (.cells #[.slice none 0 0, .slice none 0 0] 69)).heap[k]? := fun k hk => KGR.out.block k (by simp; omega) (by simp)
  have hblk : Blk w1 (w.heap.size + 1) (List.replicate 19 0) := by have := KBK.out; simpa using this
  have hres : CB w1 w.heap.size (.slice none 0 0) (.slice none 0 0) 69 := by
    unfold CB
    rw [hk1 _ (by omega)]
    exact heap_alloc_new w _
  have hfr : Fr rb ob w w1 := ⟨KGR.out.os, KGR.out.tape, KGR.out.output, by omega, fun k hk _ _ => by rw [hk1 k (by omega)]; exact Below.heap_alloc _ _ _ hk⟩
  have hrd : Rdr W0 w1 rb ob inV p most out t := KH.out.keep (by rw [hk1 _ (by omega)]; exact Below.heap_alloc _ _ _ hrb) (fun k hk => by have := (KOB.out k hk).2; rw [hk1 _ (by omega)]; exact Below.heap_alloc _ _ _ this) (hfr.below KH.out.bel hrb0 (fun k hk => (KOB.out k hk).1) hbs)
  have K1 := Kept.mk hblk
  have K2 := Kept.mk hres
  have K3 := Kept.mk hfr
  have K4 := Kept.mk hrd
  clear hk1 hblk hres hfr hrd
  go_loopw [13, 7, 8, 9] (fun s13 _ _ _ wr => ∃ (k tk : Nat) (acc : List Int), k ≤ n ∧ s13 = .int .i64 k ∧ acc.length = 19 ∧ AllIn 0 8 acc ∧ lcGo p ((orderL.take n).drop k) acc tk = lcGo p (orderL.take n) (List.replicate 19 0) t ∧ Blk wr (w.heap.size + 1) acc ∧ CB wr w.heap.size (.slice none 0 0) (.slice none 0 0) 69 ∧ Rdr W0 wr rb ob inV p most out tk ∧ Fr rb ob w wr) (fun s13 _ _ _ _ => n - (intOf s13).toNat)
  case atStart => exact ⟨0, t, List.replicate 19 0, by omega, rfl, by simp, by intro x hx; simp at hx; omega, rfl, K1.out, K2.out, K4.out, K3.out⟩
  case round =>
    obtain ⟨k, tk, acc, hk, rfl, hal, hai, hlc, hbk, hcb, hR, hF⟩ := hrel
    have hzr := hbk.lt
    have KA := Kept.mk hai
    have KLC := Kept.mk hlc
    have KBK2 := Kept.mk hbk
    have KCB := Kept.mk hcb
    have KR := Kept.mk hR
    have KF := Kept.mk hF
    have hrbk : rb ≠ w.heap.size + 1 ∧ rb ≠ w.heap.size := ⟨by omega, by omega⟩
    have hobk : ∀ j, w.heap.size ≤ j → some j ≠ ob := fun j hj e => by have := (KOB.out j e.symm).2; omega
    have KOJ := Kept.mk hobk
    clear hai hlc hbk hcb hR hF K1 K2 K3 K4 KBK KGR hobk
    by_cases hlt : k < n
    · have hlti : (k : Int) < (n : Int) := by omega
      have hd : (orderL.take n).drop k = orderL.getD k 0 :: (orderL.take n).drop (k + 1) := by
        have h19 : orderL.length = 19 := rfl
        rw [List.drop_eq_getElem_cons (by simp; omega)]
        simp [List.getD, List.getElem?_eq_getElem (show k < orderL.length by omega)]
      have hL := KLC.out
      rw [hd, lcGo] at hL
      rcases hq : numF p 3 tk with ⟨v, t1⟩ | er
      · rw [hq] at hL
        dsimp only at hL
        have KL2 := Kept.mk hL
        have KN := Kept.mk (number_ok 3 hq (by omega) KR.out)
        obtain ⟨v0, v1, -, -⟩ := numF_ok hq
        simp only [Int.reducePow] at v1
        have ho := order_in k
        have hk19 : (k : Int) < 19 := by omega
        have KTC : Kept (∀ w2, Fr rb ob wr w2 → w2.cell? ⟨0, k, none⟩ = some (.int .i64 (orderL.getD k 0)) ∧ Blk w2 (w.heap.size + 1) acc ∧ CB w2 w.heap.size (.slice none 0 0) (.slice none 0 0) 69) := ⟨fun w2 hf => by
          refine ⟨KT.out.cell (hf.below KR.out.bel KR.out.hb (fun j hj => (KR.out.ob_ge j hj).1) KR.out.bel.size) k (by omega), KBK2.out.far (hf.block _ hzr (by omega) (KOJ.out _ (by omega))), KCB.out.far (hf.block _ (by omega) (by omega) (KOJ.out _ (by omega)))⟩⟩
        obtain ⟨o, hoo⟩ : ∃ o : Nat, orderL.getD k 0 = o := ⟨(orderL.getD k 0).toNat, by omega⟩
        rw [hoo] at ho KTC KL2
        rw [Int.toNat_natCast] at KL2
        have hon : o < 19 := by omega
        have hoi : (o : Int) < 19 := by omega
        clear hq hL hd hoo ho
        go_wp2_with fail
        refine Calls.mono KN.out (fun e w2 hp => ?_)
        obtain ⟨rfl, hR2, hF2⟩ := hp
        obtain ⟨ct, hb2, hc2⟩ := KTC.out w2 hF2
        have co := hb2.cell o (by omega)
        have fo := hb2.fz o
        have K5 := Kept.mk hb2
        have K6 := Kept.mk hc2
        have K7 := Kept.mk hR2
        have K8 := Kept.mk hF2
        clear hR2 hF2 hb2 hc2
        generalize acc.getD o 0 = old at *
        go_wp2
        go_roundw
        case rel =>
          refine ⟨k + 1, t1, acc.set o v, by omega, by go_num, by simpa using hal, ?_, KL2.out, K5.out.set o v, K6.out.far (Below.heap_setCell _ _ _ _ (by show w.heap.size ≠ w.heap.size + 1; omega)), K7.out.set (by omega) (by omega) (KOJ.out _ (by omega)) _ _, (KF.out.trans K8.out).setNew (by omega) _ _⟩
          intro x hx
          rcases List.mem_or_eq_of_mem_set hx with hx | rfl
          · exact KA.out x hx
          · exact ⟨v0, v1⟩
        case measure => simp [intOf]; omega
      · rw [hq] at hL
        dsimp only at hL
        have KE : Kept (lcF p n t = .bad er) := ⟨by unfold lcF; rw [← hL]⟩
        have KN := Kept.mk (number_bad 3 hq (by omega) KR.out)
        have her := er.rng
        have hne : ¬ er.v = 0 := by omega
        clear hq hL hd
        go_wp2_with fail
        refine Calls.mono KN.out (fun e w2 hp => ?_)
        obtain ⟨rfl, hR2, hF2⟩ := hp
        have hc2 := KCB.out.far (hF2.block _ (by omega) (by omega) (KOJ.out _ (by omega)))
        have q0 := hc2.c0
        have q1 := hc2.c1
        have g0 := hc2.fz 0
        have g1 := hc2.fz 1
        have K5 := Kept.mk hR2
        have K6 := Kept.mk hF2
        have K7 := Kept.mk hc2
        clear hR2 hF2 hc2
        go_wp2
        unfold AfterC
        rw [KE.out]
        refine bodyPost_ret (v := .tuple #[nil2, .int .i64 er.v]) ?_ rfl ⟨rfl, ?_, ?_⟩
        · simp [results, Tryd.results70, go_sem, (K7.out.s0 (.slice none 0 0)).c0, ((K7.out.s0 (.slice none 0 0)).s1 (.slice none 0 0)).c1, nil2]
        · exact (K5.out.setCell hbs _).setCell hbs _
        · exact ((KF.out.trans K6.out).setNew (Nat.le_refl _) _ _).setNew (Nat.le_refl _) _ _
    · have hkn : k = n := by omega
      have hL := KLC.out
      rw [hkn, List.drop_of_length_le (by simp; omega), lcGo] at hL
      have hrd := KBK2.out.rd (by omega)
      rw [hal] at hrd
      have KM := Kept.mk (makeCode_any _ acc wr hrd (by omega) (KA.out.mono (by omega) (by omega)))
      have KL2 := Kept.mk hL
      clear hL hrd
      go_wp2_with fail
      refine Calls.mono KM.out (fun e w3 hp => ?_)
      obtain ⟨cv, sv, rfl, hcv, hsv, hb3⟩ := hp
      have hz3 := hb3.size
      obtain ⟨ca, cc, rfl, -, -, -⟩ := hcv.form
      obtain ⟨sa, sc, rfl, -, -, -⟩ := hsv.form
      have KCV := Kept.mk hcv
      have KSV := Kept.mk hsv
      have KB3 := Kept.mk hb3
      clear hcv hsv hb3
      go_wp2_with fail
      refine Calls.mono (right_any (n := 19) _ _ (mkCd acc) _ (mkCd_ok acc (by omega) 19 (by omega)) (KCV.out.later ((Below.refl _ _).alloc (Nat.le_refl _) _) (Nat.le_refl _)) (KSV.out.later ((Below.refl _ _).alloc (Nat.le_refl _) _) (Nat.le_refl _))) (fun e w5 hp => ?_)
      obtain ⟨rfl, hb5⟩ := hp
      have hz5 := hb5.size
      simp at hz5
      have hn5 : CB w5 w3.heap.size (.slice ca (mkCd acc).counts.length cc) (.slice sa (mkCd acc).symbols.length sc) 69 := (show CB _ w3.heap.size _ _ _ from heap_alloc_new w3 _).far (hb5.block _ (by simp))
      have hb35 : Below w3.heap.size w3 w5 := ((Below.refl _ w3).alloc (Nat.le_refl _) _).trans (hb5.mono (by simp))
      have hr5 : CB w5 w.heap.size (.slice none 0 0) (.slice none 0 0) 69 := (KCB.out.far (KB3.out.block _ (by omega))).far (hb35.block _ (by omega))
      have hR5 : Rdr W0 w5 rb ob inV p most out tk := (KR.out.far KB3.out).far hb35
      have hF5 : Fr rb ob w w5 := KF.out.trans ⟨(KB3.out.trans (hb35.mono hz3)).os, (KB3.out.trans (hb35.mono hz3)).tape, (KB3.out.trans (hb35.mono hz3)).output, by omega, fun k hk _ _ => (KB3.out.trans (hb35.mono hz3)).block k hk⟩
      have q0 := hr5.c0
      have q1 := hr5.c1
      have g0 := hr5.fz 0
      have g1 := hr5.fz 1
      have n0 := hn5.c0
      have n1 := hn5.c1
      have K5 := Kept.mk hR5
      have K6 := Kept.mk hF5
      have K7 := Kept.mk hr5
      have KCV5 := Kept.mk (KCV.out.later hb35 (Nat.le_refl _))
      have KSV5 := Kept.mk (KSV.out.later hb35 (Nat.le_refl _))
      clear hb5 hn5 hb35 hr5 hR5 hF5
      rcases hr : rightF (mkCd acc) with _ | _
      · have KE : Kept (lcF p n t = .bad .form) := ⟨by unfold lcF; rw [← KL2.out]; dsimp only; rw [hr]; rfl⟩
        clear hr
        go_wp2
        unfold AfterC
        rw [KE.out]
        refine bodyPost_ret (v := .tuple #[nil2, .int .i64 4]) ?_ rfl ⟨rfl, ?_, ?_⟩
        · simp [results, Tryd.results70, go_sem, (K7.out.s0 (.slice none 0 0)).c0, ((K7.out.s0 (.slice none 0 0)).s1 (.slice none 0 0)).c1, nil2]
        · exact (K5.out.bel.setCell hbs _).setCell hbs _
        · exact (K6.out.setNew (Nat.le_refl _) _ _).setNew (Nat.le_refl _) _ _
      · have KE : Kept (lcF p n t = .ok (mkCd acc) tk) := ⟨by unfold lcF; rw [← KL2.out]; dsimp only; rw [hr]; rfl⟩
        clear hr
        go_wp2
        unfold AfterC
        rw [KE.out]
        refine bodyPost_ret (v := .tuple #[.agg #[.slice ca (mkCd acc).counts.length cc, .slice sa (mkCd acc).symbols.length sc], .int .i64 0]) ?_ rfl ⟨_, _, rfl, ⟨_, _, rfl, ?_, ?_⟩, ?_, ?_⟩
        · simp [results, Tryd.results70, go_sem, (K7.out.s0 (.slice ca (mkCd acc).counts.length cc)).c0, ((K7.out.s0 (.slice ca (mkCd acc).counts.length cc)).s1 (.slice sa (mkCd acc).symbols.length sc)).c1]
        · exact set2_sep KCV5.out hrb (by omega) KOJ.out _ _
        · exact set2_sep KSV5.out hrb (by omega) KOJ.out _ _
        · exact (K5.out.set hbs (by omega) (KOJ.out _ (Nat.le_refl _)) _ _).set hbs (by omega) (KOJ.out _ (Nat.le_refl _)) _ _
        · exact (K6.out.setNew (Nat.le_refl _) _ _).setNew (Nat.le_refl _) _ _
end Go.Proofs.YtjijkcmbbccfmaaDoor
