/-
  The document's lengths: a round of the second loop.
-/
import Derived.Test.YtjifhhafllegbaaDoorD15C
namespace Go.Proofs.YtjifhhafllegbaaDoor
open Go.RowKit
set_option linter.unusedVariables false

set_option maxHeartbeats 8000000 in
set_option maxRecDepth 100000 in
theorem dlD (W0 w : World) (rb : Nat) (ob : Option Nat) (inV : Value) (p out : List Int) (most t : Nat) (R : Rs (List Int × List Int)) : (dlC W0 w rb ob inV p out most t R).1 := by
  intro hrb hrb0 hbs KOB KBW Q0 a d c ha0 ha1 hd0 hd1 hc0 hc1 want hwi hw400 hw258 wm u21 u22 u23 u24 u25 u26 u27 u28 hzs w4 hfb n hn hn19 KOJ K2 u31 u32 u33 u34 u35 u36 u37 u38 u39 u40 u41 u42 u43 u44 k tk acc hk hal KA16 Q1 wx u45 u46 u47 u48 u49 Ex hzx hlx w8 hz8 sa sc y0 y1 y2 y3 y4 y5 y6 y7 y8 y9 y10 y11 y12 y13 y14 y15 KTT KSV KF9 KCS hwi2 K5 hK5 wr u13 u57 u58 u59 u60 u61 u62 u63 u64 u65 u66 u67 u68 u69 u70 u71 u72 u73 u74 u75 f tk2 L qa qc hlq hqm hzr2 KQ KF hLw hfu KLI hRk cE KB hlt
  obtain ⟨f, rfl⟩ : ∃ f', f = f' + 1 := ⟨f - 1, by omega⟩
  have hlti : (L.length : Int) < (want : Int) := by omega
  rw [kL_step _ _ _ _ _ _ _ hlt] at hRk
  have hR2 : PreD R (((symF p (mkCd acc) tk2).bind fun s t1 => nxF p L s want t1).bind fun L' t2 => kL p a want acc f L' t2) 0 := by
    refine Or.inl ⟨rfl, ?_⟩
    rw [hRk]
    rcases symF p (mkCd acc) tk2 with ⟨s, t1⟩ | er <;> rfl
  obtain ⟨R3, hR3, hnx⟩ := preD_bind hR2
  have hR3e := preD_on hR3 rfl
  have KSY := Kept.mk (dsymbol_tab (R := symF p (mkCd acc) tk2) (L := acc) (by omega) (KSV.out wr KF.out) (Or.inl ⟨rfl, rfl⟩) KB.out)
  have KNX := Kept.mk hnx
  have KR3 := Kept.mk hR3e
  have HR := Kept.mk (KTT.out wr KF.out).range
  have HI : Kept ((Tryd.prog.info? 71).map (·.size) = some (Value.slice sa (symsF acc 15).length sc :: (csF acc 16 0).map (Value.int .i64)).length) := ⟨by rw [infoT]; simp [csF_length]⟩
  clear hR2 hR3 hnx hR3e hRk
  go_wp2_with (first | (refine wpList_load_mid rfl 71 _ rfl w8.heap.size 0 rfl _ _ HR.out Tryd.underlying71 rfl HI.out ?_) | fail)
  refine Calls.mono KSY.out (fun e w10 hp => ?_)
  obtain ⟨sy, t1, E1, rfl, hS1, hz1, hB1, hF1⟩ := hp
  have hsr : 0 ≤ sy ∧ sy ≤ 18 := by
    rcases hS1 with ⟨h1, -⟩ | ⟨er, -, h2⟩
    · obtain ⟨s0, s1, -, -⟩ := symF_ok (mkCd_ok acc (by omega) 19 (by omega)) (by omega) h1
      omega
    · have := hz1 (by rw [h2]; exact er_ne er)
      omega
  have how10 : Own .i64 3 w10 (w8.heap.size + 1) (.slice qa L.length qc) L := KQ.out.far fun g hg => hF1.block g (KQ.out.lt g hg).2 (by have := (KQ.out.lt g hg).1; omega) (KOJ.out _ (by have := (KQ.out.lt g hg).1; omega))
  have KNE := Kept.mk (dnext_any (w0 := (w8.alloc (.cells #[.slice sa (symsF acc 15).length sc, .int .i64 y0, .int .i64 y1, .int .i64 y2, .int .i64 y3, .int .i64 y4, .int .i64 y5, .int .i64 y6, .int .i64 y7, .int .i64 y8, .int .i64 y9, .int .i64 y10, .int .i64 y11, .int .i64 y12, .int .i64 y13, .int .i64 y14, .int .i64 y15] 71))) (R := R3) (L := L) (q := .slice qa L.length qc) sy want hS1 hz1 hsr KR3.out hlt hw400 (KF.out.trans hF1) (by simpa using how10) (by simp; omega) (fun k hk => by have := (KOB.out k hk).2; simp; omega) hB1)
  have hsf : ∀ L' t', R3 = .ok L' t' → L.length < L'.length ∧ L'.length ≤ want ∧ AllIn 0 16 L' := by
    intro L' t' e
    rw [KR3.out] at e
    rcases hS1 with ⟨h1, -⟩ | ⟨er, h1, -⟩
    · rw [h1] at e
      dsimp only [Rs.bind] at e
      exact nxF_ok e hsr KLI.out hlt
    · rw [h1] at e
      dsimp only [Rs.bind] at e
      cases e
  have KSF := Kept.mk hsf
  clear hS1 hz1 hB1 hF1 how10 hsr hsf
  go_wp2_with fail
  refine Calls.mono KNE.out (fun e w11 hp => ?_)
  obtain ⟨q', L', t2, E2, rfl, how2, hS2, hB2, hF2⟩ := hp
  have Q1 := Kept.mk (KNX.out _ _ _ hS2)
  have Q2 : Kept (Own .i64 3 w11 (w8.heap.size + 1) q' L') := ⟨by simpa using how2⟩
  have Q3 := Kept.mk hB2
  have Q4 := Kept.mk hF2
  have Q5 : Kept (E2 = 0 → L.length < L'.length ∧ L'.length ≤ want ∧ AllIn 0 16 L') := ⟨fun e => by
    rcases hS2 with ⟨h1, -⟩ | ⟨er, -, h2⟩
    · exact KSF.out _ _ h1
    · exact absurd (h2.symm.trans e) (er_ne er)⟩
  clear how2 hS2 hB2 hF2
  go_wp2
  go_roundw
  case rel => exact ⟨f, t2, L', q', E2, rfl, fun e => ⟨(Q5.out e).2.1, by have := (Q5.out e).1; omega, (Q5.out e).2.2⟩, Q1.out, Q2.out, Q3.out, Q4.out⟩
  case measure =>
    obtain ⟨_, _, e, -, -, -⟩ := Q2.out.rd.form
    rw [e, eOf_on Q3.out, eOf_on KB.out, if_pos rfl]
    simp only [lenOf]
    by_cases hE2 : E2 = 0
    · have := Q5.out hE2
      rw [if_pos hE2]
      show 1 * (want - L'.length + 1) < 1 * (want - L.length + 1)
      omega
    · rw [if_neg hE2]
      show 0 * (want - L'.length + 1) < 1 * (want - L.length + 1)
      omega
end Go.Proofs.YtjifhhafllegbaaDoor
