/-
  The document's lengths: a round of the first loop.
-/
import Derived.Test.YtjijkcmbbccfmaaDoorD15A
import Derived.Test.YtjijkcmbbccfmaaDoorD15C
namespace Go.Proofs.YtjijkcmbbccfmaaDoor
open Go.RowKit
set_option linter.unusedVariables false

set_option maxHeartbeats 8000000 in
set_option maxRecDepth 100000 in
theorem dlB1 (W0 w : World) (rb : Nat) (ob : Option Nat) (inV : Value) (p out : List Int) (most t : Nat) (R : Rs (List Int × List Int)) : (dlA W0 w rb ob inV p out most t R).1 := by
  intro hrb hrb0 hbs KOB KBW Q0 a d c ha0 ha1 hd0 hd1 hc0 hc1 want hwi hw400 hw258 wm u21 u22 u23 u24 u25 u26 u27 u28 hzs w4 hfb n hn hn19 KOJ K0 hK0 wr u31 u32 u33 u34 u35 u36 u37 u38 u39 u40 u41 u42 u43 u44 k tk acc Ek hk hal hzr hzo KA KST KBK KOR KB KF hlt
  have hlti : (k : Int) < c + 4 := by omega
  have hd : (orderL.take n).drop k = orderL.getD k 0 :: (orderL.take n).drop (k + 1) := by
    have h19 : orderL.length = 19 := rfl
    rw [List.drop_eq_getElem_cons (by simp; omega)]
    simp [List.getD, List.getElem?_eq_getElem (show k < orderL.length by omega)]
  have hx := KST.out
  rw [hd, kO_cons] at hx
  obtain ⟨R1, hR1, hnx⟩ := preD_bind hx
  have ho := order_in k
  have KTC : Kept (∀ W1, Fr rb ob (wr.drewN 1) W1 → W1.cell? ⟨w4.heap.size, k, none⟩ = some (.int .i64 (orderL.getD k 0)) ∧ Blk W1 wm.heap.size acc ∧ Rd .i64 (fun b => b = w4.heap.size) W1 (.slice (some ⟨w4.heap.size, 0, none⟩) 19 19) orderL) := ⟨fun W1 hf => by
    have hr1 : Rd .i64 (fun b => b = w4.heap.size) W1 (.slice (some ⟨w4.heap.size, 0, none⟩) 19 19) orderL := KOR.out.far (Nat.le_trans (by simp) hf.size) fun b hb hS => ⟨hS, by rw [hS, hf.block w4.heap.size (by simpa using hzo) (by omega) (KOJ.out _ (by omega))]; rfl⟩
    refine ⟨?_, KBK.out.far (by rw [hf.block wm.heap.size (by simpa using hzr) (by omega) (KOJ.out _ (by omega))]; rfl), hr1⟩
    obtain ⟨b, off, cc, hv, -, -, -, -, hcl⟩ := hr1.open (by decide)
    injection hv with hv1
    injection hv1 with hv1
    injection hv1 with hv1 hv2
    subst hv1 hv2
    have := hcl k (by show k < 19; omega)
    rw [Nat.zero_add] at this
    exact this⟩
  obtain ⟨o, hoo⟩ : ∃ o : Nat, orderL.getD k 0 = o := ⟨(orderL.getD k 0).toNat, by omega⟩
  rw [hoo] at ho KTC hnx
  rw [Int.toNat_natCast] at hnx
  have KNX := Kept.mk hnx
  have KN := Kept.mk (dnumR 3 (by omega) hR1 (KB.out.drewN 1))
  have hon : o < 19 := by omega
  have hoi : (o : Int) < 19 := by omega
  have hki : (k : Int) < 19 := by omega
  have c0 := (KTC.out _ (Fr.refl rb ob _)).1
  clear hx hd hoo ho hR1 hnx
  go_upto_region 9 with fail
  refine wp_region_noPanic (wp_region_any (by kernel_rfl) ?_)
  show wpAny _ _ _ _ _ _ _ (wr.drewN 1)
  refine wpAny_take (i := 0) (v := .slice (some ⟨wm.heap.size, 0, none⟩) 19 19) rfl (by kernel_rfl) (by kernel_rfl) (by kernel_rfl) (fun _ _ _ h => h) (Or.inl ⟨rfl, fun W => by rfl⟩) ?_
  simp only [Act.put]
  refine wpAny_take (i := 1) (v := .slice (some ⟨w4.heap.size, 0, none⟩) 19 19) rfl (by kernel_rfl) (by kernel_rfl) (by kernel_rfl) (fun _ _ _ h => h) (Or.inl ⟨rfl, fun W => by rfl⟩) ?_
  simp only [Act.put]
  refine wpAny_take (i := 2) (v := .int .i64 k) rfl (by kernel_rfl) (by kernel_rfl) (by kernel_rfl) (fun _ _ _ h => h) (Or.inl ⟨rfl, fun W => by rfl⟩) ?_
  simp only [Act.put]
  refine wpAny_take (i := 3) (v := .pointer (some ⟨w4.heap.size, k, none⟩)) rfl (by kernel_rfl) (by kernel_rfl) (by kernel_rfl) (fun _ _ _ h => h) (Or.inl ⟨rfl, fun W => by go_simp⟩) ?_
  simp only [Act.put]
  refine wpAny_take (i := 5) (v := .pointer (some ⟨rb, 0, none⟩)) rfl (by kernel_rfl) (by kernel_rfl) (by kernel_rfl) (fun _ _ _ h => h) (Or.inl ⟨rfl, fun W => by rfl⟩) ?_
  simp only [Act.put]
  refine wpAny_two (i := 4) (j := 6) (by kernel_rfl) rfl rfl rfl rfl (fun K hK => ?_) (fun K hK => ?_)
  · go_simp
    refine hK _ _ ?_
    clear hK K
    refine wpAny_one (i := 6) (by kernel_rfl) rfl rfl (fun K hK => ?_)
    go_simp
    refine Calls.mono KN.out (fun e W1 hp => ?_)
    obtain ⟨v, t', E', rfl, hv, hS, hB1, hF1⟩ := hp
    simp only [Int.reducePow] at hv
    refine hK _ _ ?_
    clear hK K
    obtain ⟨ct, hb2, hr2⟩ := KTC.out W1 hF1
    have co := hb2.cell o (by omega)
    have fo := hb2.fz o
    have Q1 := Kept.mk (KNX.out _ _ _ hS)
    have Q2 := Kept.mk (hb2.set o v)
    have Q3 := Kept.mk (hr2.far (w' := W1.setCell ⟨wm.heap.size, o, none⟩ (.int .i64 v)) (by simp [World.setCell]) fun b hb hSb => ⟨hSb, Below.heap_setCell _ _ _ _ (by show b ≠ wm.heap.size; omega)⟩)
    have Q4 := Kept.mk (hB1.setFar (b := wm.heap.size) (by omega) (by omega) (KOJ.out _ (by omega)) o (.int .i64 v))
    have Q5 := Kept.mk (((KF.out.drewN 1).trans hF1).setNew (b := wm.heap.size) (by omega) o (.int .i64 v))
    clear hb2 hr2 hS hB1 hF1
    generalize acc.getD o 0 = old at *
    refine wpAny_one (i := 7) (by kernel_rfl) rfl rfl (fun K hK => ?_)
    go_simp
    refine hK _ _ ?_
    clear hK K
    refine wpAny_one (i := 8) (by kernel_rfl) rfl rfl (fun K hK => ?_)
    go_simp
    refine hK _ _ ?_
    clear hK K
    refine wpAny_done (by kernel_rfl) (NoPanic.normal ?_) _
    go_wp2
    go_roundw
    case rel =>
      refine ⟨k + 1, t', acc.set o v, E', by omega, by go_num, by simpa using hal, ?_, Q1.out, Q2.out, Q3.out, Q4.out, Q5.out⟩
      intro x hx
      rcases List.mem_or_eq_of_mem_set hx with hx | rfl
      · exact KA.out x hx
      · exact hv
    case measure => simp [intOf]; omega
  · go_simp
    refine Calls.mono KN.out (fun e W1 hp => ?_)
    obtain ⟨v, t', E', rfl, hv, hS, hB1, hF1⟩ := hp
    simp only [Int.reducePow] at hv
    refine hK _ _ ?_
    clear hK K
    obtain ⟨ct, hb2, hr2⟩ := KTC.out W1 hF1
    have co := hb2.cell o (by omega)
    have fo := hb2.fz o
    have Q1 := Kept.mk (KNX.out _ _ _ hS)
    have Q2 := Kept.mk (hb2.set o v)
    have Q3 := Kept.mk (hr2.far (w' := W1.setCell ⟨wm.heap.size, o, none⟩ (.int .i64 v)) (by simp [World.setCell]) fun b hb hSb => ⟨hSb, Below.heap_setCell _ _ _ _ (by show b ≠ wm.heap.size; omega)⟩)
    have Q4 := Kept.mk (hB1.setFar (b := wm.heap.size) (by omega) (by omega) (KOJ.out _ (by omega)) o (.int .i64 v))
    have Q5 := Kept.mk (((KF.out.drewN 1).trans hF1).setNew (b := wm.heap.size) (by omega) o (.int .i64 v))
    clear hb2 hr2 hS hB1 hF1
    generalize acc.getD o 0 = old at *
    refine wpAny_one (i := 4) (by kernel_rfl) rfl rfl (fun K hK => ?_)
    go_simp
    refine hK _ _ ?_
    clear hK K
    refine wpAny_one (i := 7) (by kernel_rfl) rfl rfl (fun K hK => ?_)
    go_simp
    refine hK _ _ ?_
    clear hK K
    refine wpAny_one (i := 8) (by kernel_rfl) rfl rfl (fun K hK => ?_)
    go_simp
    refine hK _ _ ?_
    clear hK K
    refine wpAny_done (by kernel_rfl) (NoPanic.normal ?_) _
    go_wp2
    go_roundw
    case rel =>
      refine ⟨k + 1, t', acc.set o v, E', by omega, by go_num, by simpa using hal, ?_, Q1.out, Q2.out, Q3.out, Q4.out, Q5.out⟩
      intro x hx
      rcases List.mem_or_eq_of_mem_set hx with hx | rfl
      · exact KA.out x hx
      · exact hv
    case measure => simp [intOf]; omega


set_option maxHeartbeats 8000000 in
set_option maxRecDepth 100000 in
theorem dlD (W0 w : World) (rb : Nat) (ob : Option Nat) (inV : Value) (p out : List Int) (most t : Nat) (R : Rs (List Int × List Int)) : (dlC W0 w rb ob inV p out most t R).1 := by
  intro hrb hrb0 hbs KOB KBW Q0 a d c ha0 ha1 hd0 hd1 hc0 hc1 want hwi hw400 hw258 wm u21 u22 u23 u24 u25 u26 u27 u28 hzs w4 hfb n hn hn19 KOJ K2 u31 u32 u33 u34 u35 u36 u37 u38 u39 u40 u41 u42 u43 u44 k tk acc hk hal KA16 Q1 wx u45 u46 u47 u48 u49 Ex hzx hlx w8 hz8 sa sc y0 y1 y2 y3 y4 y5 y6 y7 y8 y9 y10 y11 y12 y13 y14 y15 KTT KSV KF9 KCS hwi2 K5 hK5 wr u13 u57 u58 u59 u60 u61 u62 u63 u64 u65 u66 u67 u68 u69 u70 u71 u72 u73 u74 u75 f tk2 L qa qc hlq hqm hzr2 KQ KF hLw hfu KLI hRk cE KB hlt
  obtain ⟨f, rfl⟩ : ∃ f', f = f' + 1 := ⟨f - 1, by omega⟩
  have hlti : (L.length : Int) < (want : Int) := by omega
  rw [kL_step _ _ _ _ _ _ _ hlt] at hRk
  have hR2 : PreD R (((symF p (mkCd acc) tk2).bind fun s t1 => nxF p L s want t1).bind fun L' t2 => kL p a want acc f L' t2) 0 := by
    refine Or.inl ⟨rfl, ?_⟩
    rw [hRk]
    rcases symF p (mkCd acc) tk2 with ⟨s, t1⟩ | er <;> rfl
  obtain ⟨R3, hR3, hnx⟩ := preD_bind hR2
  have hR3e := preD_on hR3 rfl
  have KSY := Kept.mk (dsymbol_tab (R := symF p (mkCd acc) tk2) (L := acc) (by omega) (KSV.out wr KF.out) (Or.inl ⟨rfl, rfl⟩) KB.out)
  have KNX := Kept.mk hnx
  have KR3 := Kept.mk hR3e
  have HR := Kept.mk (KTT.out wr KF.out).range
  have HI : Kept ((Tryd.prog.info? 84).map (·.size) = some (Value.slice sa (symsF acc 15).length sc :: (csF acc 16 0).map (Value.int .i64)).length) := ⟨by rw [infoT]; simp [csF_length]⟩
  clear hR2 hR3 hnx hR3e hRk
  go_wp2_with (first | (refine wpList_load_mid rfl 84 _ rfl w8.heap.size 0 rfl _ _ HR.out Tryd.underlying84 rfl HI.out ?_) | fail)
  refine Calls.mono KSY.out (fun e w10 hp => ?_)
  obtain ⟨sy, t1, E1, rfl, hS1, hz1, hB1, hF1⟩ := hp
  have hsr : 0 ≤ sy ∧ sy ≤ 18 := by
    rcases hS1 with ⟨h1, -⟩ | ⟨er, -, h2⟩
    · obtain ⟨s0, s1, -, -⟩ := symF_ok (mkCd_ok acc (by omega) 19 (by omega)) (by omega) h1
      omega
    · have := hz1 (by rw [h2]; exact er_ne er)
      omega
  have how10 : Own .i64 3 w10 (w8.heap.size + 1) (.slice qa L.length qc) L := KQ.out.far fun g hg => hF1.block g (KQ.out.lt g hg).2 (by have := (KQ.out.lt g hg).1; omega) (KOJ.out _ (by have := (KQ.out.lt g hg).1; omega))
  have KNE := Kept.mk (dnext_any (w0 := (w8.alloc (.cells #[.slice sa (symsF acc 15).length sc, .int .i64 y0, .int .i64 y1, .int .i64 y2, .int .i64 y3, .int .i64 y4, .int .i64 y5, .int .i64 y6, .int .i64 y7, .int .i64 y8, .int .i64 y9, .int .i64 y10, .int .i64 y11, .int .i64 y12, .int .i64 y13, .int .i64 y14, .int .i64 y15] 84))) (R := R3) (L := L) (q := .slice qa L.length qc) sy want hS1 hz1 hsr KR3.out hlt hw400 (KF.out.trans hF1) (by simpa using how10) (by simp; omega) (fun k hk => by have := (KOB.out k hk).2; simp; omega) hB1)
  have hsf : ∀ L' t', R3 = .ok L' t' → L.length < L'.length ∧ L'.length ≤ want ∧ AllIn 0 16 L' := by
    intro L' t' e
    rw [KR3.out] at e
    rcases hS1 with ⟨h1, -⟩ | ⟨er, h1, -⟩
    · rw [h1] at e
      dsimp only [Rs.bind] at e
      exact nxF_ok e hsr KLI.out hlt
    · rw [h1] at e
      dsimp only [Rs.bind] at e
      cases e
  have KSF := Kept.mk hsf
  clear hS1 hz1 hB1 hF1 how10 hsr hsf
  go_wp2_with fail
  refine Calls.mono KNE.out (fun e w11 hp => ?_)
  obtain ⟨q', L', t2, E2, rfl, how2, hS2, hB2, hF2⟩ := hp
  have Q1 := Kept.mk (KNX.out _ _ _ hS2)
  have Q2 : Kept (Own .i64 3 w11 (w8.heap.size + 1) q' L') := ⟨by simpa using how2⟩
  have Q3 := Kept.mk hB2
  have Q4 := Kept.mk hF2
  have Q5 : Kept (E2 = 0 → L.length < L'.length ∧ L'.length ≤ want ∧ AllIn 0 16 L') := ⟨fun e => by
    rcases hS2 with ⟨h1, -⟩ | ⟨er, -, h2⟩
    · exact KSF.out _ _ h1
    · exact absurd (h2.symm.trans e) (er_ne er)⟩
  clear how2 hS2 hB2 hF2
  go_wp2
  go_roundw
  case rel => exact ⟨f, t2, L', q', E2, rfl, fun e => ⟨(Q5.out e).2.1, by have := (Q5.out e).1; omega, (Q5.out e).2.2⟩, Q1.out, Q2.out, Q3.out, Q4.out⟩
  case measure =>
    obtain ⟨_, _, e, -, -, -⟩ := Q2.out.rd.form
    rw [e, eOf_on Q3.out, eOf_on KB.out, if_pos rfl]
    simp only [lenOf]
    by_cases hE2 : E2 = 0
    · have := Q5.out hE2
      rw [if_pos hE2]
      show 1 * (want - L'.length + 1) < 1 * (want - L.length + 1)
      omega
    · rw [if_neg hE2]
      show 0 * (want - L'.length + 1) < 1 * (want - L.length + 1)
      omega


theorem dlengths_any {W0 w : World} {rb : Nat} {ob : Option Nat} {inV : Value} {p out : List Int} {most t : Nat} (h : Bts W0 w rb ob inV p most out t 0) :
    Calls Tryd.prog 31 #[.pointer (some ⟨rb, 0, none⟩)] w fun e w' => AfterLD W0 w w' rb ob inV p most out (tlF p t) e :=
  (dlA W0 w rb ob inV p out most t (tlF p t)).2.2 h (Or.inl ⟨rfl, rfl⟩) (dlB1 W0 w rb ob inV p out most t (tlF p t)) ((dlC W0 w rb ob inV p out most t (tlF p t)).2.2 (dlD W0 w rb ob inV p out most t (tlF p t)) (dlE W0 w rb ob inV p out most t (tlF p t)))
end Go.Proofs.YtjijkcmbbccfmaaDoor
