/-
  PackidxFixed: what is pure; rows that make lays; a cell that is set.
-/
import Derived.Test.YtnflfkmmkejkpaaDoorR4
import Derived.Test.YtnflfkmmkejkpaaDoorR5
namespace Go.Proofs.YtnflfkmmkejkpaaDoor
open Go.RowKit Go.Sort

theorem Own.opened {k : IntKind} {e : TypeId} {w : World} {base : Nat} {v : Value} {xs : List Int} (h : Own k e w base v xs) (h0 : 0 < xs.length) :
    ∃ g cap, v = .slice (some ⟨g, 0, none⟩) xs.length cap ∧ xs.length ≤ cap ∧ base ≤ g ∧ (∀ i, i < xs.length → w.cell? ⟨g, i, none⟩ = some (.int k (xs.getD i 0))) ∧ (∀ i, w.frozen? ⟨g, i, none⟩ = false) ∧ ∀ i x, i < xs.length → Own k e (w.setCell ⟨g, i, none⟩ (.int k x)) base v (xs.set i x) := by
  have hrd := h.rd
  rcases h with ⟨h1, ⟨-, hn⟩ | ⟨g, cap, cur, rfl, hbg, hg, hnc, hcm, hcs, htake⟩⟩
  · omega
  · refine ⟨g, cap, rfl, hnc, hbg, fun i hi => ?_, fun i => by simp [World.frozen?, hg], fun i x hi => ?_⟩
    · obtain ⟨a, c, hv, -, -, -, h5⟩ := hrd
      injection hv with hv _ _
      obtain ⟨b, o, rfl, -, -, h6⟩ := h5 h0
      injection hv with hv
      injection hv with hb ho _
      subst hb ho
      have := h6 i hi
      rwa [Nat.zero_add] at this
    · have hx : (xs.set i x).length = xs.length := List.length_set
      unfold Own
      rw [hx]
      refine ⟨by rw [cellsK_length, hx, Nat.mul_one], .inr ⟨g, cap, cur.setIfInBounds i (.int k x), rfl, hbg, heap_setCell_same w g _ cur _ _ hg, hnc, hcm, by simpa using hcs, ?_⟩⟩
      rw [Array.toList_setIfInBounds, List.take_set, htake]
      simp [cellsK, List.map_set]
theorem seg_left (A S : List Int) {t m : Nat} (h : t + m ≤ A.length) : seg (A ++ S) t m = seg A t m := by
  unfold seg
  rw [List.drop_append_of_le_length (by omega), List.take_append_of_le_length (by rw [List.length_drop]; omega)]
theorem fanR_left (A S : List Int) {i : Nat} (hi : i < 256) (hA : 1032 ≤ A.length) : fanR (A ++ S) i = fanR A i := by
  unfold fanR Nu.bigT
  show Nu.bigV 0 (seg (A ++ S) (8 + i * 4) 4) = Nu.bigV 0 (seg A (8 + i * 4) 4)
  rw [seg_left A S (by omega)]
theorem fanRL_left (A S : List Int) (hA : 1032 ≤ A.length) : fanRL (A ++ S) = fanRL A := List.map_congr_left fun _ hi => fanR_left A S (List.mem_range.1 hi) hA
def bd0 : List Int := bodyL [] [] (idN 7)
theorem bd0_len : bd0.length = 1064 := by
  unfold bd0
  rw [bodyL_len (fun r hr => by cases hr), idN_len]
  rfl
theorem bd0_allB : AllB bd0 := bodyL_allB (fun r hr => by cases hr) [] (idN_allB (by omega))
theorem bd0_head : bd0.take 8 = headB := by decide +kernel
theorem bd0_up : upB (fanRL bd0) = true := by decide +kernel
theorem bd0_last : fanR bd0 255 = 0 := by decide +kernel
theorem bd0_back : bd0.set 20 0 = bd0 := by decide +kernel
theorem bd1_head : (bd0.set 20 1).take 8 = headB := by decide +kernel
theorem bd1_up : upB (fanRL (bd0.set 20 1)) = false := by decide +kernel
theorem cnt_tail {S : List Int} (hS : S.length = 32) : cntS (bd0 ++ S) = (0, 0) := by
  have hl := bd0_len
  unfold cntS
  rw [if_neg (by rw [List.length_append]; omega), if_neg (by rw [List.take_append_of_le_length (by omega), bd0_head]; simp), fanRL_left _ _ (by omega), bd0_up, if_neg (by simp), fanR_left _ _ (by omega) (by omega), bd0_last, if_neg (by omega)]
theorem prs_turned {S : List Int} (hS : S.length = 32) (hne : S ≠ sumB bd0) : prsE (bd0 ++ S) = 6 := by
  have hl := bd0_len
  have hn : (bd0 ++ S).length = 1096 := by rw [List.length_append]; omega
  have hz : sizeE (bd0 ++ S) 0 = 0 := by
    unfold sizeE
    rw [hn]
    simp [nl, longR]
  have hsg : seg (bd0 ++ S) 1064 32 = S := by
    have := seg_append bd0 S 32 hS
    rwa [hl] at this
  have htk : (bd0 ++ S).take 1064 = bd0 := by rw [← hl, List.take_left]
  unfold prsE
  rw [cnt_tail hS]
  simp only [ne_eq, not_true_eq_false, if_false, Int.toNat_zero]
  rw [hz, hn, hsg, htk, if_neg (by simp), if_pos hne]
theorem prs_unsorted (S : List Int) (hS : S.length = 32) : prsE (bd0.set 20 1 ++ S) = 4 := by
  have hl : (bd0.set 20 1).length = 1064 := by rw [List.length_set, bd0_len]
  have hc : cntS (bd0.set 20 1 ++ S) = (0, 4) := by
    unfold cntS
    rw [if_neg (by rw [List.length_append]; omega), if_neg (by rw [List.take_append_of_le_length (by omega), bd1_head]; simp), fanRL_left _ _ (by omega), bd1_up, if_pos rfl]
  unfold prsE
  rw [hc, if_pos (by simp)]
theorem bldE_nil : bldE [] = 0 := by decide +kernel
theorem sort_nil : sortF [] = [] := by kernel_rfl
theorem bldL_nil : bldL [] (idN 7) = bd0 ++ sumB bd0 := by
  unfold bldL
  rw [if_pos bldE_nil, sort_nil]
  rfl
theorem sort_two : sortF [default, default] = [default, default] := by kernel_rfl
theorem bldE_two : bldE [default, default] = 8 := by
  unfold bldE
  rw [sort_two, if_neg (by decide), if_neg (by decide +kernel)]
theorem bldE_many : bldE (List.replicate 4097 default) = 2 := by
  unfold bldE
  rw [if_pos (by rw [List.length_replicate]; omega)]
theorem prsE_nil : prsE [] = 5 := by decide +kernel
theorem prsP_nil : prsP [] = z32 := by
  unfold prsP
  rw [prsE_nil, if_neg (by decide)]
theorem AllB.set {xs : List Int} (h : AllB xs) (i : Nat) {x : Int} (hx : 0 ≤ x ∧ x < 256) : AllB (xs.set i x) := by
  intro y hy
  rcases List.mem_or_eq_of_mem_set hy with h1 | h1
  · exact h y h1
  · rw [h1]; exact hx
/-- All that PackidxFixed asks of the first index. -/
theorem fix_facts : ∃ P : List Int, bldL [] (idN 7) = P ∧ P.length = 1096 ∧ AllB P ∧ prsE (P.set 20 1) = 4 ∧ ∀ x : Int, ((P.set 20 1).set 20 0).getD 1095 0 = x → 0 ≤ x ∧ x < 256 ∧ prsE (((P.set 20 1).set 20 0).set 1095 (IntKind.u8.wrap (x + 1))) = 6 := by
  have hl := bd0_len
  have hSl := sumB_length bd0
  have hSA := sumB_allB bd0
  have h1 : (bd0 ++ sumB bd0).set 20 1 = bd0.set 20 1 ++ sumB bd0 := List.set_append_left _ _ (by omega)
  have h2 : ((bd0 ++ sumB bd0).set 20 1).set 20 0 = bd0 ++ sumB bd0 := by
    rw [h1, List.set_append_left _ _ (by rw [List.length_set]; omega), List.set_set, bd0_back]
  refine ⟨_, bldL_nil, by rw [List.length_append]; omega, bd0_allB.append hSA, by rw [h1]; exact prs_unsorted _ hSl, fun x hx => ?_⟩
  rw [h2] at hx ⊢
  have hx2 : (sumB bd0).getD 31 0 = x := by
    rw [← hx, List.getD, List.getD, List.getElem?_append_right (by omega), hl]
  have hb := hSA.getD (by omega) 31
  rw [hx2] at hb
  have hw : IntKind.u8.wrap (x + 1) = (x + 1) % 256 := by rw [IntKind.wrap_u8]
  refine ⟨hb.1, hb.2, ?_⟩
  rw [hw, List.set_append_right _ _ (by omega), hl]
  refine prs_turned (by rw [List.length_set]; exact hSl) (fun h => ?_)
  have h3 := congrArg (fun l => List.getD l 31 0) h
  simp only [hx2] at h3
  rw [List.getD, List.getElem?_set_self (by omega)] at h3
  simp at h3
  omega
def rC : RowC := ⟨idN 1, 0, 5⟩
def rD : RowC := ⟨idN 2, 0, 1099511627776⟩
theorem rC_ok : rC.ok := ⟨idN_len 1, idN_allB (by omega), by decide, by decide, by decide, by decide⟩
theorem rD_ok : rD.ok := ⟨idN_len 2, idN_allB (by omega), by decide, by decide, by decide, by decide⟩
theorem riseCD : riseB [rC, rD] = true := by decide +kernel
theorem parse_two : prsE (buildL [rC, rD] [true, true] (idN 0)) = 0 ∧ prsL (buildL [rC, rD] [true, true] (idN 0)) = [rC, rD] ∧ prsP (buildL [rC, rD] [true, true] (idN 0)) = idN 0 :=
  parse_build (ok_two rC_ok rD_ok) (idN_len 0) ((riseB_iff _).1 riseCD) (by decide) rfl (fun i hi h => by
    have : i = 0 ∨ i = 1 := by simp at hi; omega
    rcases this with rfl | rfl <;> simp [lng] at h)
theorem made_rows (z : Array Value) (hz : z.size = 34) (hr : (List.range 34).map (fun j => z[j]!) = z.toList) : ∀ n, (madeCells z (n * 34)).toList = (List.replicate n z.toList).flatten
  | 0 => by simp [madeCells]
  | n + 1 => by
    have ih := made_rows z hz hr n
    unfold madeCells at ih ⊢
    rw [Array.toList_map, Array.toList_range] at ih ⊢
    rw [show (n + 1) * 34 = n * 34 + 34 by omega, List.range_add, List.map_append, ih, List.replicate_succ', List.flatten_append, List.flatten_singleton, List.map_map]
    congr 1
    rw [← hr]
    apply List.map_congr_left
    intro j hj
    have := List.mem_range.1 hj
    simp only [Function.comp, hz]
    rw [show (n * 34 + j) % 34 = j by omega]
set_option maxRecDepth 100000 in
theorem zeroM : ∃ i z, Tryd.prog.info? 45 = some i ∧ i.zero = some z ∧ i.size = 34 ∧ i.bytes = 48 ∧ z.cells = (default : RowC).l.toArray := ⟨_, _, rfl, rfl, rfl, rfl, by kernel_rfl⟩
/-- make([]Row, 4097). -/
theorem wpList_makeR (w : World) {ops : Array Oper} {rest : List Oper} {o : Oper} {a : Act} {Q : Exit → Act → World → Prop} (hg : o.guard = none) (l c : Operand) (hop : o.op = Op.makeSlice 30 l c) (hl : a.eval l = .int .i64 4097) (hc : a.eval c = .int .i64 4097)
    (hK : ∀ w', OwnR 45 w' w.heap.size (.slice (some ⟨w.heap.size, 0, none⟩) 4097 4097) (List.replicate 4097 default) → w.grownBy w' none → wpList Tryd.prog ops Q rest (a.put o.dst (.slice (some ⟨w.heap.size, 0, none⟩) 4097 4097)) w') :
    wpList Tryd.prog ops Q (o :: rest) a w := by
  obtain ⟨i, z, hi, hz, hs, hb, hzc⟩ := zeroM
  refine wpList_make_full w hg l c 30 hop w.heap.size 45 i z 34 Tryd.underlying30 hi hz hs .i64 .i64 4097 4097 4097 hl hc rfl rfl (by rw [hb]; omega) (by unfold maxLen; omega) (Nat.le_refl _) (fun w' ho hgr => hK w' ⟨?_, fun r hr => ?_⟩ hgr)
  · have e : (madeCells z.cells (4097 * 34)).toList = (List.replicate 4097 (default : RowC)).flatMap RowC.l := by
      rw [made_rows z.cells (by rw [hzc, List.size_toArray, RowC.len row0_ok]) (by rw [hzc]; kernel_rfl), hzc, List.flatMap_def, List.map_replicate]
    rw [e] at ho
    rw [List.length_replicate]
    exact ho
  · rw [List.eq_of_mem_replicate hr]
    exact row0_ok

open Go.RowKit Go.Sort

theorem rdB_two (w : World) (t : TypeId) : RdB (w.alloc (.cells #[.bool true, .bool true] t)) (.slice (some ⟨w.heap.size, 0, none⟩) 2 2) [true, true] :=
  ⟨_, 2, rfl, Nat.le_refl _, by unfold maxLen; omega, fun _ => ⟨w.heap.size, 0, rfl, by simp, fun i hi => by
    have : i = 0 ∨ i = 1 := by simp at hi; omega
    rcases this with rfl | rfl
    · exact alloc_cell _ _ _ _ _ rfl
    · exact alloc_cell _ _ _ _ _ rfl⟩⟩
theorem Own.at_ {k : IntKind} {e : TypeId} {w : World} {base : Nat} {xs : List Int} {g n cap : Nat} (h : Own k e w base (.slice (some ⟨g, 0, none⟩) n cap) xs) (h0 : 0 < xs.length) :
    (∀ i, i < xs.length → w.cell? ⟨g, i, none⟩ = some (.int k (xs.getD i 0))) ∧ (∀ i, w.frozen? ⟨g, i, none⟩ = false) ∧ ∀ i x, i < xs.length → Own k e (w.setCell ⟨g, i, none⟩ (.int k x)) base (.slice (some ⟨g, 0, none⟩) n cap) (xs.set i x) := by
  obtain ⟨g', cap', hv, -, -, h1, h2, h3⟩ := h.opened h0
  injection hv with hv _ _
  injection hv with hv
  injection hv with hv _ _
  subst hv
  exact ⟨h1, h2, h3⟩
set_option maxHeartbeats 4000000 in
set_option maxRecDepth 100000 in
theorem fixed_any (w : World) (hT : Sh.Tab w Sh.ksK) : Calls Tryd.prog 6 #[] w fun e w' => e = .returned (.bool true) ∧ Below w.heap.size w w' := by
  have KT := Kept.mk hT
  have KAw := Kept.mk (awake_any w hT)
  obtain ⟨P, hP, hPl, hPA, hP1, hP2⟩ := fix_facts
  have KP := Kept.mk hP
  have KPl := Kept.mk hPl
  have KPA := Kept.mk hPA
  have KP1 := Kept.mk hP1
  have KP2 := Kept.mk hP2
  clear hT hP hPl hPA hP1 hP2
  go_enter Tryd.func6, Tryd.ntmps6
  go_wp2_with fail
  refine Calls.mono KAw.out (fun e w1 hp => ?_)
  obtain ⟨rfl, hb1⟩ := hp
  have KB1 := Kept.mk hb1
  have KC1 := Kept.mk (build_any (.slice none 0 0) [] (idN 7) w1 (Tab.later KT.out hb1 (Nat.le_refl _)) (OwnR.nil 45 w1 0).rdR (idN_len 7) (idN_allB (by omega)))
  rw [bldE_nil, KP.out] at KC1
  clear hb1
  go_wp2_with fail
  refine Calls.mono KC1.out (fun e w2 hp => ?_)
  obtain ⟨v2, rfl, hO2, hb2⟩ := hp
  have KO2 := Kept.mk (hO2.mono KB1.out.size)
  have KB2 := Kept.mk (KB1.out.trans (hb2.mono KB1.out.size))
  obtain ⟨w3, hw3⟩ : ∃ w3, w2.alloc (.cells ([default, default].flatMap RowC.l).toArray 45) = w3 := ⟨_, rfl⟩
  have hO3 : OwnR 45 w3 w2.heap.size (.slice (some ⟨w2.heap.size, 0, none⟩) 2 2) [default, default] := by rw [← hw3]; exact own_made w2 (ok_two row0_ok row0_ok) _ (by decide)
  have hB23 : Below w2.heap.size w2 w3 := by rw [← hw3]; exact (Below.refl _ _).alloc (Nat.le_refl _) _
  have hB3 := KB2.out.trans (hB23.mono KB2.out.size)
  have KC2 := Kept.mk (build_any _ [default, default] (idN 0) w3 (Tab.later KT.out hB3 (Nat.le_refl _)) hO3.rdR (idN_len 0) (idN_allB (by omega)))
  rw [bldE_two] at KC2
  have Kw3 := Kept.mk hw3
  have KO3 := Kept.mk (KO2.out.later hB23 (Nat.le_refl _))
  have KB3 := Kept.mk hB3
  clear hO2 hb2 hw3 hO3 hB23 hB3 KC1 KAw KO2
  obtain ⟨g, cap, hv2, hcap, hbg, -, -, -⟩ := KO3.out.opened (by rw [KPl.out]; omega)
  rw [KPl.out] at hv2 hcap
  subst hv2
  have KBg := Kept.mk hbg
  clear hbg
  go_wp2_with fail
  generalize hO : Obj.cells (_ : Array Value) 45 = O
  have hOe : O = Obj.cells ([default, default].flatMap RowC.l).toArray 45 := by subst hO; rfl
  subst hOe
  clear hO
  rw [Kw3.out]
  refine Calls.mono KC2.out (fun e w4 hp => ?_)
  obtain ⟨v4, rfl, -, hb4⟩ := hp
  have KO4 := Kept.mk (KO3.out.later hb4 (Nat.le_refl _))
  have KB4 := Kept.mk (KB3.out.trans (hb4.mono KB3.out.size))
  clear hb4 KC2 KO3 KB3 Kw3
  go_wp2_with (refine wpList_makeR _ rfl _ _ rfl rfl rfl ?_; intro w5 hown hgrow; have KM5 := Kept.mk hown; have KG5 := Kept.mk hgrow; clear hown hgrow)
  have hB45 : Below w4.heap.size w4 w5 := (Below.refl _ w4).grown KG5.out (Nat.le_refl _) (fun k hk => by cases hk)
  have hB5 := KB4.out.trans (hB45.mono KB4.out.size)
  have KC3 := Kept.mk (build_any _ _ (idN 0) w5 (Tab.later KT.out hB5 (Nat.le_refl _)) KM5.out.rdR (idN_len 0) (idN_allB (by omega)))
  rw [bldE_many] at KC3
  refine Calls.mono KC3.out (fun e w6 hp => ?_)
  obtain ⟨v6, rfl, -, hb6⟩ := hp
  have KO6 := Kept.mk ((KO4.out.later hB45 (Nat.le_refl _)).later hb6 (Nat.le_refl _))
  have hB6 := hB5.trans (hb6.mono hB5.size)
  have KC4 := Kept.mk (parse_any (.slice none 0 0) [] w6 (Tab.later KT.out hB6 (Nat.le_refl _)) (Rd.nil .u8 anyB w6) AllIn.nil (by simp))
  rw [prsE_nil, prsP_nil] at KC4
  have KB6 := Kept.mk hB6
  clear hB45 hB5 hb6 hB6 KC3 KM5 KG5 KO4 KB4
  go_wp2_with fail
  refine Calls.mono KC4.out (fun e w7 hp => ?_)
  obtain ⟨v7, rfl, -, hb7⟩ := hp
  obtain ⟨w8, hw8, hB8, -, -⟩ := box_id w7 z32
  have hb78 := hb7.trans (hB8.mono hb7.size)
  have hO8 := KO6.out.later hb78 (Nat.le_refl _)
  have hB8' := KB6.out.trans (hb78.mono KB6.out.size)
  obtain ⟨hc8, hf8, hs8⟩ := hO8.at_ (by rw [KPl.out]; omega)
  have hc20 := hc8 20 (by rw [KPl.out]; omega)
  have hf20 := hf8 20
  obtain ⟨w9, hw9⟩ : ∃ w9, w8.setCell ⟨g, 20, none⟩ (.int .u8 1) = w9 := ⟨_, rfl⟩
  have KO9 := Kept.mk (hs8 20 1 (by rw [KPl.out]; omega))
  rw [hw9] at KO9
  have KB9 : Kept (Below w.heap.size w w9) := ⟨by rw [← hw9]; exact hB8'.setCell (by show w.heap.size ≤ g; exact KBg.out) _⟩
  have KC5 := Kept.mk (parse_any _ (P.set 20 1) w9 (Tab.later KT.out KB9.out (Nat.le_refl _)) KO9.out.rd (KPA.out.set 20 (by omega)) (by rw [List.length_set, KPl.out]; omega))
  rw [KP1.out] at KC5
  have KDi := Kept.mk z32_info
  have KDz : Kept ((cellsK .u8 z32).toArray.size = 32) := ⟨by rw [List.size_toArray, cellsK_length, z32_length]⟩
  have KDo := Kept.mk (cellsK_all .u8 z32)
  clear hb7 hB8 hb78 hO8 hB8' hc8 hf8 hs8 KC4 KO6 KB6
  generalize P.getD 20 0 = p20 at *
  generalize hcd : (cellsK .u8 z32).toArray = CD at *
  clear hcd
  go_wp2_with (refine BigFrame.wpList_want rfl (fun K hK => wp_store_row 24 _ _ rfl w7.heap.size CD rfl rfl 24 _ (heap_alloc_new w7 _) KDi.out (by rw [KDz.out]; rfl) KDo.out (hK _ _ ?_)); rw [World.setRow_alloc_new])
  refine Calls.mono KC5.out (fun e w10 hp => ?_)
  obtain ⟨v10, rfl, -, hb10⟩ := hp
  have hl1 : (P.set 20 1).length = 1096 := by rw [List.length_set, KPl.out]
  have hl2 : ((P.set 20 1).set 20 0).length = 1096 := by rw [List.length_set, hl1]
  have hO10 := KO9.out.later hb10 (Nat.le_refl _)
  have hB10 := KB9.out.trans (hb10.mono KB9.out.size)
  obtain ⟨hc10, hf10, hs10⟩ := hO10.at_ (by rw [hl1]; omega)
  have hcA := hc10 20 (by rw [hl1]; omega)
  have hfA := hf10 20
  obtain ⟨w11, hw11⟩ : ∃ w11, w10.setCell ⟨g, 20, none⟩ (.int .u8 0) = w11 := ⟨_, rfl⟩
  have hO11 := hs10 20 0 (by rw [hl1]; omega)
  rw [hw11] at hO11
  have hB11 : Below w.heap.size w w11 := by rw [← hw11]; exact hB10.setCell (by show w.heap.size ≤ g; exact KBg.out) _
  obtain ⟨hc11, hf11, hs11⟩ := hO11.at_ (by rw [hl2]; omega)
  have hcB := hc11 1095 (by rw [hl2]; omega)
  have hfB := hf11 1095
  obtain ⟨x, hx⟩ : ∃ x, ((P.set 20 1).set 20 0).getD 1095 0 = x := ⟨_, rfl⟩
  obtain ⟨hx0, hx1, hx6⟩ := KP2.out x hx
  rw [hx] at hcB
  obtain ⟨y, hy⟩ : ∃ y, IntKind.u8.wrap (x + 1) = y := ⟨_, rfl⟩
  rw [hy] at hx6
  have hyb : 0 ≤ y ∧ y < 256 := by rw [← hy, IntKind.wrap_u8]; omega
  obtain ⟨w12, hw12⟩ : ∃ w12, w11.setCell ⟨g, 1095, none⟩ (.int .u8 y) = w12 := ⟨_, rfl⟩
  have hO12 := hs11 1095 y (by rw [hl2]; omega)
  rw [hw12] at hO12
  have KB12 : Kept (Below w.heap.size w w12) := ⟨by rw [← hw12]; exact hB11.setCell (by show w.heap.size ≤ g; exact KBg.out) _⟩
  have KC6 := Kept.mk (parse_any _ (((P.set 20 1).set 20 0).set 1095 y) w12 (Tab.later KT.out KB12.out (Nat.le_refl _)) hO12.rd (((KPA.out.set 20 (by omega)).set 20 (by omega)).set 1095 hyb) (by rw [List.length_set, hl2]; omega))
  rw [hx6] at KC6
  clear hb10 hl1 hl2 hO10 hB10 hc10 hf10 hs10 hO11 hB11 hc11 hf11 hs11 hx hx6 hO12 KC5 KO9 KB9 KP2 KP1 hc20 hf20 hw9
  generalize (P.set 20 1).getD 20 0 = p20' at *
  go_wp2_with fail
  refine Calls.mono KC6.out (fun e w13 hp => ?_)
  obtain ⟨v13, rfl, -, hb13⟩ := hp
  have hB13 := KB12.out.trans (hb13.mono KB12.out.size)
  obtain ⟨w14, hw14⟩ : ∃ w14, w13.alloc (.cells ([rC, rD].flatMap RowC.l).toArray 48) = w14 := ⟨_, rfl⟩
  have hO14 : OwnR 48 w14 w13.heap.size (.slice (some ⟨w13.heap.size, 0, none⟩) 2 2) [rC, rD] := by rw [← hw14]; exact own_made w13 (ok_two rC_ok rD_ok) _ (by decide)
  have hB1314 : Below w13.heap.size w13 w14 := by rw [← hw14]; exact (Below.refl _ _).alloc (Nat.le_refl _) _
  obtain ⟨w15, hw15⟩ : ∃ w15, w14.alloc (.cells #[.bool true, .bool true] 4) = w15 := ⟨_, rfl⟩
  have hD15 : RdB w15 (.slice (some ⟨w14.heap.size, 0, none⟩) 2 2) [true, true] := by rw [← hw15]; exact rdB_two w14 _
  have hs14 : w14.heap.size = w13.heap.size + 1 := by rw [← hw14]; simp
  rw [hs14] at hD15
  clear hs14
  have hB1415 : Below w14.heap.size w14 w15 := by rw [← hw15]; exact (Below.refl _ _).alloc (Nat.le_refl _) _
  have hO15 := hO14.later hB1415 (Nat.le_refl _)
  have hB15 := (hB13.trans (hB1314.mono hB13.size)).trans (hB1415.mono (Nat.le_trans hB13.size hB1314.size))
  have KC7 := Kept.mk (docBuild_any _ _ [rC, rD] [true, true] (idN 0) w15 hO15.rdR hD15 rfl (by decide) (idN_len 0) (idN_allB (by omega)))
  have KB15 := Kept.mk hB15
  have KO15 := Kept.mk hO15
  have Kw14 := Kept.mk hw14
  have Kw15 := Kept.mk hw15
  clear hb13 hB13 hw14 hO14 hB1314 hw15 hD15 hB1415 hO15 hB15 KC6 KB12 hcA hfA hcB hfB hw11 hw12 hy hx0 hx1 hyb
  go_wp2_with fail
  generalize hO : Obj.cells (_ : Array Value) 48 = O
  have hOe : O = Obj.cells ([rC, rD].flatMap RowC.l).toArray 48 := by subst hO; rfl
  subst hOe
  clear hO
  rw [Kw14.out, Kw15.out]
  refine Calls.mono KC7.out (fun e w16 hp => ?_)
  obtain ⟨v16, rfl, hO16, hb16⟩ := hp
  have hB16 := KB15.out.trans (hb16.mono KB15.out.size)
  have hlen := buildL_len (ok_two rC_ok rD_ok) [true, true] (idN_len 0)
  have hnl := nl_le [true, true] [rC, rD].length
  have hl2 : [rC, rD].length = 2 := rfl
  have KC8 := Kept.mk (parse_any v16 (buildL [rC, rD] [true, true] (idN 0)) w16 (Tab.later KT.out hB16 (Nat.le_refl _)) hO16.rd (buildL_allB (ok_two rC_ok rD_ok) _ (idN_allB (by omega))) (by omega))
  rw [parse_two.1, parse_two.2.1, parse_two.2.2] at KC8
  have KL16 := Kept.mk (KO15.out.later hb16 (Nat.le_refl _))
  have KB16 := Kept.mk hB16
  clear hO16 hb16 hB16 hlen hnl hl2 KC7 Kw14 Kw15 KO15 KB15
  go_wp2_with fail
  refine Calls.mono KC8.out (fun e w17 hp => ?_)
  obtain ⟨v17, rfl, hO17, hb17⟩ := hp
  obtain ⟨w18, hw18, hB18, -, -⟩ := box_id w17 (idN 0)
  have hO18 := hO17.later hB18 (Nat.le_refl _)
  have hb1618 := hb17.trans (hB18.mono hb17.size)
  have hB18' := KB16.out.trans (hb1618.mono KB16.out.size)
  have KL18 := Kept.mk (KL16.out.later hb1618 (Nat.le_refl _))
  have KC9 := Kept.mk (of_any v17 [rC, rD] w18 hO18.rdR (by decide))
  have KB18 := Kept.mk hB18'
  have KEi := Kept.mk (id_info (idN_len 0))
  have KEz : Kept ((cellsK .u8 (idN 0)).toArray.size = 32) := ⟨by rw [List.size_toArray, cellsK_length, idN_len]⟩
  have KEo := Kept.mk (cellsK_all .u8 (idN 0))
  clear hO17 hb17 hB18 hO18 hb1618 hB18' KC8 KL16 KB16
  generalize hcd : (cellsK .u8 (idN 0)).toArray = CE at *
  clear hcd
  go_wp2_with (refine BigFrame.wpList_want rfl (fun K hK => wp_store_row 24 _ _ rfl w17.heap.size CE rfl rfl 24 _ (heap_alloc_new w17 _) KEi.out (by rw [KEz.out]; rfl) KEo.out (hK _ _ ?_)); rw [World.setRow_alloc_new])
  refine Calls.mono KC9.out (fun e w19 hp => ?_)
  obtain ⟨v19, rfl, hO19, hb19⟩ := hp
  have hL19 := KL18.out.later hb19 (Nat.le_refl _)
  have KC10 := Kept.mk (sameR_any v19 _ [rC, rD] [rC, rD] w19 hO19.rdR hL19.rdR (by decide) (by decide))
  rw [decide_eq_true rfl] at KC10
  have KB19 := Kept.mk (KB18.out.trans (hb19.mono KB18.out.size))
  clear hO19 hb19 hL19 KC9
  go_wp2_with fail
  refine Calls.mono KC10.out (fun e w20 hp => ?_)
  obtain ⟨rfl, hb20⟩ := hp
  have KB20 := Kept.mk (KB19.out.trans (hb20.mono KB19.out.size))
  clear hb20
  go_wp2
  go_ret
  exact ⟨rfl, KB20.out⟩
end Go.Proofs.YtnflfkmmkejkpaaDoor
