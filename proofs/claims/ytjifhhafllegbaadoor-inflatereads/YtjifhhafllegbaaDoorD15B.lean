/-
  The document's lengths: a round of the first loop.
-/
import Derived.Test.YtjifhhafllegbaaDoorD15A
namespace Go.Proofs.YtjifhhafllegbaaDoor
open Go.RowKit
set_option linter.unusedVariables false

set_option maxHeartbeats 8000000 in
set_option maxRecDepth 100000 in
theorem dlB1 (W0 w : World) (rb : Nat) (ob : Option Nat) (inV : Value) (p out : List Int) (most t : Nat) (R : Rs (List Int × List Int)) : (dlA W0 w rb ob inV p out most t R).1 := by
  intro hrb hrb0 hbs KOB KBW Q0 a d c ha0 ha1 hd0 hd1 hc0 hc1 want hwi hw400 hw258 wm u21 u22 u23 u24 u25 u26 u27 u28 hzs w4 hfb n hn hn19 KOJ K0 hK0 wr u31 u32 u33 u34 u35 u36 u37 u38 u39 u40 u41 u42 u43 u44 k tk acc Ek hk hal hzr hzo KA KST KBK KOR KB KF hlt
  have hlti : (k : Int) < c + 4 := by omega
  have hd : (orderL.take n).drop k = orderL.getD k 0 :: (orderL.take n).drop (k + 1) := by
    have h19 : orderL.length = 19 := rfl
    rw [List.drop_eq_getElem_cons (by simp; omega)]
    simp [List.getD, List.getElem?_eq_getElem (show k < orderL.length by omega)]
  have hx := KST.out
  rw [hd, kO_cons] at hx
  obtain ⟨R1, hR1, hnx⟩ := preD_bind hx
  have ho := order_in k
  have KTC : Kept (∀ W1, Fr rb ob (wr.drewN 1) W1 → W1.cell? ⟨w4.heap.size, k, none⟩ = some (.int .i64 (orderL.getD k 0)) ∧ Blk W1 wm.heap.size acc ∧ Rd .i64 (fun b => b = w4.heap.size) W1 (.slice (some ⟨w4.heap.size, 0, none⟩) 19 19) orderL) := ⟨fun W1 hf => by
    have hr1 : Rd .i64 (fun b => b = w4.heap.size) W1 (.slice (some ⟨w4.heap.size, 0, none⟩) 19 19) orderL := KOR.out.far (Nat.le_trans (by simp) hf.size) fun b hb hS => ⟨hS, by rw [hS, hf.block w4.heap.size (by simpa using hzo) (by omega) (KOJ.out _ (by omega))]; rfl⟩
    refine ⟨?_, KBK.out.far (by rw [hf.block wm.heap.size (by simpa using hzr) (by omega) (KOJ.out _ (by omega))]; rfl), hr1⟩
    obtain ⟨b, off, cc, hv, -, -, -, -, hcl⟩ := hr1.open (by decide)
    injection hv with hv1
    injection hv1 with hv1
    injection hv1 with hv1 hv2
    subst hv1 hv2
    have := hcl k (by show k < 19; omega)
    rw [Nat.zero_add] at this
    exact this⟩
  obtain ⟨o, hoo⟩ : ∃ o : Nat, orderL.getD k 0 = o := ⟨(orderL.getD k 0).toNat, by omega⟩
  rw [hoo] at ho KTC hnx
  rw [Int.toNat_natCast] at hnx
  have KNX := Kept.mk hnx
  have KN := Kept.mk (dnumR 3 (by omega) hR1 (KB.out.drewN 1))
  have hon : o < 19 := by omega
  have hoi : (o : Int) < 19 := by omega
  have hki : (k : Int) < 19 := by omega
  have c0 := (KTC.out _ (Fr.refl rb ob _)).1
  clear hx hd hoo ho hR1 hnx
  go_upto_region 9 with fail
  refine wp_region_noPanic (wp_region_any (by kernel_rfl) ?_)
  show wpAny _ _ _ _ _ _ _ (wr.drewN 1)
  refine wpAny_take (i := 0) (v := .slice (some ⟨wm.heap.size, 0, none⟩) 19 19) rfl (by kernel_rfl) (by kernel_rfl) (by kernel_rfl) (fun _ _ _ h => h) (Or.inl ⟨rfl, fun W => by rfl⟩) ?_
  simp only [Act.put]
  refine wpAny_take (i := 1) (v := .slice (some ⟨w4.heap.size, 0, none⟩) 19 19) rfl (by kernel_rfl) (by kernel_rfl) (by kernel_rfl) (fun _ _ _ h => h) (Or.inl ⟨rfl, fun W => by rfl⟩) ?_
  simp only [Act.put]
  refine wpAny_take (i := 2) (v := .int .i64 k) rfl (by kernel_rfl) (by kernel_rfl) (by kernel_rfl) (fun _ _ _ h => h) (Or.inl ⟨rfl, fun W => by rfl⟩) ?_
  simp only [Act.put]
  refine wpAny_take (i := 3) (v := .pointer (some ⟨w4.heap.size, k, none⟩)) rfl (by kernel_rfl) (by kernel_rfl) (by kernel_rfl) (fun _ _ _ h => h) (Or.inl ⟨rfl, fun W => by go_simp⟩) ?_
  simp only [Act.put]
  refine wpAny_take (i := 5) (v := .pointer (some ⟨rb, 0, none⟩)) rfl (by kernel_rfl) (by kernel_rfl) (by kernel_rfl) (fun _ _ _ h => h) (Or.inl ⟨rfl, fun W => by rfl⟩) ?_
  simp only [Act.put]
  refine wpAny_two (i := 4) (j := 6) (by kernel_rfl) rfl rfl rfl rfl (fun K hK => ?_) (fun K hK => ?_)
  · go_simp
    refine hK _ _ ?_
    clear hK K
    refine wpAny_one (i := 6) (by kernel_rfl) rfl rfl (fun K hK => ?_)
    go_simp
    refine Calls.mono KN.out (fun e W1 hp => ?_)
    obtain ⟨v, t', E', rfl, hv, hS, hB1, hF1⟩ := hp
    simp only [Int.reducePow] at hv
    refine hK _ _ ?_
    clear hK K
    obtain ⟨ct, hb2, hr2⟩ := KTC.out W1 hF1
    have co := hb2.cell o (by omega)
    have fo := hb2.fz o
    have Q1 := Kept.mk (KNX.out _ _ _ hS)
    have Q2 := Kept.mk (hb2.set o v)
    have Q3 := Kept.mk (hr2.far (w' := W1.setCell ⟨wm.heap.size, o, none⟩ (.int .i64 v)) (by simp [World.setCell]) fun b hb hSb => ⟨hSb, Below.heap_setCell _ _ _ _ (by show b ≠ wm.heap.size; omega)⟩)
    have Q4 := Kept.mk (hB1.setFar (b := wm.heap.size) (by omega) (by omega) (KOJ.out _ (by omega)) o (.int .i64 v))
    have Q5 := Kept.mk (((KF.out.drewN 1).trans hF1).setNew (b := wm.heap.size) (by omega) o (.int .i64 v))
    clear hb2 hr2 hS hB1 hF1
    generalize acc.getD o 0 = old at *
    refine wpAny_one (i := 7) (by kernel_rfl) rfl rfl (fun K hK => ?_)
    go_simp
    refine hK _ _ ?_
    clear hK K
    refine wpAny_one (i := 8) (by kernel_rfl) rfl rfl (fun K hK => ?_)
    go_simp
    refine hK _ _ ?_
    clear hK K
    refine wpAny_done (by kernel_rfl) (NoPanic.normal ?_) _
    go_wp2
    go_roundw
    case rel =>
      refine ⟨k + 1, t', acc.set o v, E', by omega, by go_num, by simpa using hal, ?_, Q1.out, Q2.out, Q3.out, Q4.out, Q5.out⟩
      intro x hx
      rcases List.mem_or_eq_of_mem_set hx with hx | rfl
      · exact KA.out x hx
      · exact hv
    case measure => simp [intOf]; omega
  · go_simp
    refine Calls.mono KN.out (fun e W1 hp => ?_)
    obtain ⟨v, t', E', rfl, hv, hS, hB1, hF1⟩ := hp
    simp only [Int.reducePow] at hv
    refine hK _ _ ?_
    clear hK K
    obtain ⟨ct, hb2, hr2⟩ := KTC.out W1 hF1
    have co := hb2.cell o (by omega)
    have fo := hb2.fz o
    have Q1 := Kept.mk (KNX.out _ _ _ hS)
    have Q2 := Kept.mk (hb2.set o v)
    have Q3 := Kept.mk (hr2.far (w' := W1.setCell ⟨wm.heap.size, o, none⟩ (.int .i64 v)) (by simp [World.setCell]) fun b hb hSb => ⟨hSb, Below.heap_setCell _ _ _ _ (by show b ≠ wm.heap.size; omega)⟩)
    have Q4 := Kept.mk (hB1.setFar (b := wm.heap.size) (by omega) (by omega) (KOJ.out _ (by omega)) o (.int .i64 v))
    have Q5 := Kept.mk (((KF.out.drewN 1).trans hF1).setNew (b := wm.heap.size) (by omega) o (.int .i64 v))
    clear hb2 hr2 hS hB1 hF1
    generalize acc.getD o 0 = old at *
    refine wpAny_one (i := 4) (by kernel_rfl) rfl rfl (fun K hK => ?_)
    go_simp
    refine hK _ _ ?_
    clear hK K
    refine wpAny_one (i := 7) (by kernel_rfl) rfl rfl (fun K hK => ?_)
    go_simp
    refine hK _ _ ?_
    clear hK K
    refine wpAny_one (i := 8) (by kernel_rfl) rfl rfl (fun K hK => ?_)
    go_simp
    refine hK _ _ ?_
    clear hK K
    refine wpAny_done (by kernel_rfl) (NoPanic.normal ?_) _
    go_wp2
    go_roundw
    case rel =>
      refine ⟨k + 1, t', acc.set o v, E', by omega, by go_num, by simpa using hal, ?_, Q1.out, Q2.out, Q3.out, Q4.out, Q5.out⟩
      intro x hx
      rcases List.mem_or_eq_of_mem_set hx with hx | rfl
      · exact KA.out x hx
      · exact hv
    case measure => simp [intOf]; omega
end Go.Proofs.YtjifhhafllegbaaDoor
