/-
  PackidxFixed: what is pure; rows that make lays; a cell that is set.
-/
import Derived.Test.YtgoegmaepafopaaDoorR4
import Derived.Test.YtgoegmaepafopaaDoorR5
namespace Go.Proofs.YtgoegmaepafopaaDoor
open Go.RowKit Go.Sort

theorem Own.opened {k : IntKind} {e : TypeId} {w : World} {base : Nat} {v : Value} {xs : List Int} (h : Own k e w base v xs) (h0 : 0 < xs.length) :
    ∃ g cap, v = .slice (some ⟨g, 0, none⟩) xs.length cap ∧ xs.length ≤ cap ∧ base ≤ g ∧ (∀ i, i < xs.length → w.cell? ⟨g, i, none⟩ = some (.int k (xs.getD i 0))) ∧ (∀ i, w.frozen? ⟨g, i, none⟩ = false) ∧ ∀ i x, i < xs.length → Own k e (w.setCell ⟨g, i, none⟩ (.int k x)) base v (xs.set i x) := by
  have hrd := h.rd
  rcases h with ⟨h1, ⟨-, hn⟩ | ⟨g, cap, cur, rfl, hbg, hg, hnc, hcm, hcs, htake⟩⟩
  · omega
  · refine ⟨g, cap, rfl, hnc, hbg, fun i hi => ?_, fun i => by simp [World.frozen?, hg], fun i x hi => ?_⟩
    · obtain ⟨a, c, hv, -, -, -, h5⟩ := hrd
      injection hv with hv _ _
      obtain ⟨b, o, rfl, -, -, h6⟩ := h5 h0
      injection hv with hv
      injection hv with hb ho _
      subst hb ho
      have := h6 i hi
      rwa [Nat.zero_add] at this
    · have hx : (xs.set i x).length = xs.length := List.length_set
      unfold Own
      rw [hx]
      refine ⟨by rw [cellsK_length, hx, Nat.mul_one], .inr ⟨g, cap, cur.setIfInBounds i (.int k x), rfl, hbg, heap_setCell_same w g _ cur _ _ hg, hnc, hcm, by simpa using hcs, ?_⟩⟩
      rw [Array.toList_setIfInBounds, List.take_set, htake]
      simp [cellsK, List.map_set]
theorem seg_left (A S : List Int) {t m : Nat} (h : t + m ≤ A.length) : seg (A ++ S) t m = seg A t m := by
  unfold seg
  rw [List.drop_append_of_le_length (by omega), List.take_append_of_le_length (by rw [List.length_drop]; omega)]
theorem fanR_left (A S : List Int) {i : Nat} (hi : i < 256) (hA : 1032 ≤ A.length) : fanR (A ++ S) i = fanR A i := by
  unfold fanR Nu.bigT
  show Nu.bigV 0 (seg (A ++ S) (8 + i * 4) 4) = Nu.bigV 0 (seg A (8 + i * 4) 4)
  rw [seg_left A S (by omega)]
theorem fanRL_left (A S : List Int) (hA : 1032 ≤ A.length) : fanRL (A ++ S) = fanRL A := List.map_congr_left fun _ hi => fanR_left A S (List.mem_range.1 hi) hA
def bd0 : List Int := bodyL [] [] (idN 7)
theorem bd0_len : bd0.length = 1064 := by
  unfold bd0
  rw [bodyL_len (fun r hr => by cases hr), idN_len]
  rfl
theorem bd0_allB : AllB bd0 := bodyL_allB (fun r hr => by cases hr) [] (idN_allB (by omega))
theorem bd0_head : bd0.take 8 = headB := by decide +kernel
theorem bd0_up : upB (fanRL bd0) = true := by decide +kernel
theorem bd0_last : fanR bd0 255 = 0 := by decide +kernel
theorem bd0_back : bd0.set 20 0 = bd0 := by decide +kernel
theorem bd1_head : (bd0.set 20 1).take 8 = headB := by decide +kernel
theorem bd1_up : upB (fanRL (bd0.set 20 1)) = false := by decide +kernel
theorem cnt_tail {S : List Int} (hS : S.length = 32) : cntS (bd0 ++ S) = (0, 0) := by
  have hl := bd0_len
  unfold cntS
  rw [if_neg (by rw [List.length_append]; omega), if_neg (by rw [List.take_append_of_le_length (by omega), bd0_head]; simp), fanRL_left _ _ (by omega), bd0_up, if_neg (by simp), fanR_left _ _ (by omega) (by omega), bd0_last, if_neg (by omega)]
theorem prs_turned {S : List Int} (hS : S.length = 32) (hne : S ≠ sumB bd0) : prsE (bd0 ++ S) = 6 := by
  have hl := bd0_len
  have hn : (bd0 ++ S).length = 1096 := by rw [List.length_append]; omega
  have hz : sizeE (bd0 ++ S) 0 = 0 := by
    unfold sizeE
    rw [hn]
    simp [nl, longR]
  have hsg : seg (bd0 ++ S) 1064 32 = S := by
    have := seg_append bd0 S 32 hS
    rwa [hl] at this
  have htk : (bd0 ++ S).take 1064 = bd0 := by rw [← hl, List.take_left]
  unfold prsE
  rw [cnt_tail hS]
  simp only [ne_eq, not_true_eq_false, if_false, Int.toNat_zero]
  rw [hz, hn, hsg, htk, if_neg (by simp), if_pos hne]
theorem prs_unsorted (S : List Int) (hS : S.length = 32) : prsE (bd0.set 20 1 ++ S) = 4 := by
  have hl : (bd0.set 20 1).length = 1064 := by rw [List.length_set, bd0_len]
  have hc : cntS (bd0.set 20 1 ++ S) = (0, 4) := by
    unfold cntS
    rw [if_neg (by rw [List.length_append]; omega), if_neg (by rw [List.take_append_of_le_length (by omega), bd1_head]; simp), fanRL_left _ _ (by omega), bd1_up, if_pos rfl]
  unfold prsE
  rw [hc, if_pos (by simp)]
theorem bldE_nil : bldE [] = 0 := by decide +kernel
theorem sort_nil : sortF [] = [] := by kernel_rfl
theorem bldL_nil : bldL [] (idN 7) = bd0 ++ sumB bd0 := by
  unfold bldL
  rw [if_pos bldE_nil, sort_nil]
  rfl
theorem sort_two : sortF [default, default] = [default, default] := by kernel_rfl
theorem bldE_two : bldE [default, default] = 8 := by
  unfold bldE
  rw [sort_two, if_neg (by decide), if_neg (by decide +kernel)]
theorem bldE_many : bldE (List.replicate 4097 default) = 2 := by
  unfold bldE
  rw [if_pos (by rw [List.length_replicate]; omega)]
theorem prsE_nil : prsE [] = 5 := by decide +kernel
theorem prsP_nil : prsP [] = z32 := by
  unfold prsP
  rw [prsE_nil, if_neg (by decide)]
theorem AllB.set {xs : List Int} (h : AllB xs) (i : Nat) {x : Int} (hx : 0 ≤ x ∧ x < 256) : AllB (xs.set i x) := by
  intro y hy
  rcases List.mem_or_eq_of_mem_set hy with h1 | h1
  · exact h y h1
  · rw [h1]; exact hx
/-- All that PackidxFixed asks of the first index. -/
theorem fix_facts : ∃ P : List Int, bldL [] (idN 7) = P ∧ P.length = 1096 ∧ AllB P ∧ prsE (P.set 20 1) = 4 ∧ ∀ x : Int, ((P.set 20 1).set 20 0).getD 1095 0 = x → 0 ≤ x ∧ x < 256 ∧ prsE (((P.set 20 1).set 20 0).set 1095 (IntKind.u8.wrap (x + 1))) = 6 := by
  have hl := bd0_len
  have hSl := sumB_length bd0
  have hSA := sumB_allB bd0
  have h1 : (bd0 ++ sumB bd0).set 20 1 = bd0.set 20 1 ++ sumB bd0 := List.set_append_left _ _ (by omega)
  have h2 : ((bd0 ++ sumB bd0).set 20 1).set 20 0 = bd0 ++ sumB bd0 := by
    rw [h1, List.set_append_left _ _ (by rw [List.length_set]; omega), List.set_set, bd0_back]
  refine ⟨_, bldL_nil, by rw [List.length_append]; omega, bd0_allB.append hSA, by rw [h1]; exact prs_unsorted _ hSl, fun x hx => ?_⟩
  rw [h2] at hx ⊢
  have hx2 : (sumB bd0).getD 31 0 = x := by
    rw [← hx, List.getD, List.getD, List.getElem?_append_right (by omega), hl]
  have hb := hSA.getD (by omega) 31
  rw [hx2] at hb
  have hw : IntKind.u8.wrap (x + 1) = (x + 1) % 256 := by rw [IntKind.wrap_u8]
  refine ⟨hb.1, hb.2, ?_⟩
  rw [hw, List.set_append_right _ _ (by omega), hl]
  refine prs_turned (by rw [List.length_set]; exact hSl) (fun h => ?_)
  have h3 := congrArg (fun l => List.getD l 31 0) h
  simp only [hx2] at h3
  rw [List.getD, List.getElem?_set_self (by omega)] at h3
  simp at h3
  omega
def rC : RowC := ⟨idN 1, 0, 5⟩
def rD : RowC := ⟨idN 2, 0, 1099511627776⟩
theorem rC_ok : rC.ok := ⟨idN_len 1, idN_allB (by omega), by decide, by decide, by decide, by decide⟩
theorem rD_ok : rD.ok := ⟨idN_len 2, idN_allB (by omega), by decide, by decide, by decide, by decide⟩
theorem riseCD : riseB [rC, rD] = true := by decide +kernel
theorem parse_two : prsE (buildL [rC, rD] [true, true] (idN 0)) = 0 ∧ prsL (buildL [rC, rD] [true, true] (idN 0)) = [rC, rD] ∧ prsP (buildL [rC, rD] [true, true] (idN 0)) = idN 0 :=
  parse_build (ok_two rC_ok rD_ok) (idN_len 0) ((riseB_iff _).1 riseCD) (by decide) rfl (fun i hi h => by
    have : i = 0 ∨ i = 1 := by simp at hi; omega
    rcases this with rfl | rfl <;> simp [lng] at h)
theorem made_rows (z : Array Value) (hz : z.size = 34) (hr : (List.range 34).map (fun j => z[j]!) = z.toList) : ∀ n, (madeCells z (n * 34)).toList = (List.replicate n z.toList).flatten
  | 0 => by simp [madeCells]
  | n + 1 => by
    have ih := made_rows z hz hr n
    unfold madeCells at ih ⊢
    rw [Array.toList_map, Array.toList_range] at ih ⊢
    rw [show (n + 1) * 34 = n * 34 + 34 by omega, List.range_add, List.map_append, ih, List.replicate_succ', List.flatten_append, List.flatten_singleton, List.map_map]
    congr 1
    rw [← hr]
    apply List.map_congr_left
    intro j hj
    have := List.mem_range.1 hj
    simp only [Function.comp, hz]
    rw [show (n * 34 + j) % 34 = j by omega]
set_option maxRecDepth 100000 in
theorem zeroM : ∃ i z, Tryd.prog.info? 39 = some i ∧ i.zero = some z ∧ i.size = 34 ∧ i.bytes = 48 ∧ z.cells = (default : RowC).l.toArray := ⟨_, _, rfl, rfl, rfl, rfl, by kernel_rfl⟩
/-- make([]Row, 4097). -/
theorem wpList_makeR (w : World) {ops : Array Oper} {rest : List Oper} {o : Oper} {a : Act} {Q : Exit → Act → World → Prop} (hg : o.guard = none) (l c : Operand) (hop : o.op = Op.makeSlice 26 l c) (hl : a.eval l = .int .i64 4097) (hc : a.eval c = .int .i64 4097)
    (hK : ∀ w', OwnR 39 w' w.heap.size (.slice (some ⟨w.heap.size, 0, none⟩) 4097 4097) (List.replicate 4097 default) → w.grownBy w' none → wpList Tryd.prog ops Q rest (a.put o.dst (.slice (some ⟨w.heap.size, 0, none⟩) 4097 4097)) w') :
    wpList Tryd.prog ops Q (o :: rest) a w := by
  obtain ⟨i, z, hi, hz, hs, hb, hzc⟩ := zeroM
  refine wpList_make_full w hg l c 26 hop w.heap.size 39 i z 34 Tryd.underlying26 hi hz hs .i64 .i64 4097 4097 4097 hl hc rfl rfl (by rw [hb]; omega) (by unfold maxLen; omega) (Nat.le_refl _) (fun w' ho hgr => hK w' ⟨?_, fun r hr => ?_⟩ hgr)
  · have e : (madeCells z.cells (4097 * 34)).toList = (List.replicate 4097 (default : RowC)).flatMap RowC.l := by
      rw [made_rows z.cells (by rw [hzc, List.size_toArray, RowC.len row0_ok]) (by rw [hzc]; kernel_rfl), hzc, List.flatMap_def, List.map_replicate]
    rw [e] at ho
    rw [List.length_replicate]
    exact ho
  · rw [List.eq_of_mem_replicate hr]
    exact row0_ok

open Go.RowKit Go.Sort

theorem rdB_two (w : World) (t : TypeId) : RdB (w.alloc (.cells #[.bool true, .bool true] t)) (.slice (some ⟨w.heap.size, 0, none⟩) 2 2) [true, true] :=
  ⟨_, 2, rfl, Nat.le_refl _, by unfold maxLen; omega, fun _ => ⟨w.heap.size, 0, rfl, by simp, fun i hi => by
    have : i = 0 ∨ i = 1 := by simp at hi; omega
    rcases this with rfl | rfl
    · exact alloc_cell _ _ _ _ _ rfl
    · exact alloc_cell _ _ _ _ _ rfl⟩⟩
theorem Own.at_ {k : IntKind} {e : TypeId} {w : World} {base : Nat} {xs : List Int} {g n cap : Nat} (h : Own k e w base (.slice (some ⟨g, 0, none⟩) n cap) xs) (h0 : 0 < xs.length) :
    (∀ i, i < xs.length → w.cell? ⟨g, i, none⟩ = some (.int k (xs.getD i 0))) ∧ (∀ i, w.frozen? ⟨g, i, none⟩ = false) ∧ ∀ i x, i < xs.length → Own k e (w.setCell ⟨g, i, none⟩ (.int k x)) base (.slice (some ⟨g, 0, none⟩) n cap) (xs.set i x) := by
  obtain ⟨g', cap', hv, -, -, h1, h2, h3⟩ := h.opened h0
  injection hv with hv _ _
  injection hv with hv
  injection hv with hv _ _
  subst hv
  exact ⟨h1, h2, h3⟩
end Go.Proofs.YtgoegmaepafopaaDoor
