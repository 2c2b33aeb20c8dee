/-
  The document's lengths: the table, and up to the second loop's rounds and its end.
-/
import Derived.Test.YthbcloplhjmkkaaDoorD15A
namespace Go.Proofs.YthbcloplhjmkkaaDoor
open Go.RowKit
set_option linter.unusedVariables false

set_option maxHeartbeats 8000000 in
set_option maxRecDepth 100000 in
def dlC (W0 w : World) (rb : Nat) (ob : Option Nat) (inV : Value) (p out : List Int) (most t : Nat) (R : Rs (List Int × List Int)) : PSigma fun G3 : Prop => PSigma fun G4 : Prop => G3 → G4 → (dlA W0 w rb ob inV p out most t R).2.1 := by
  apply PSigma.mk
  case snd =>
  apply PSigma.mk
  case snd =>
  intro HG3 HG4
  have KG3 := Kept.mk HG3
  have KG4 := Kept.mk HG4
  clear HG3 HG4
  intro hrb hrb0 hbs KOB KBW Q0 a d c ha0 ha1 hd0 hd1 hc0 hc1 want hwi hw400 hw258 wm u21 u22 u23 u24 u25 u26 u27 u28 hzs w4 hfb n hn hn19 KOJ K2 u31 u32 u33 u34 u35 u36 u37 u38 u39 u40 u41 u42 u43 u44 k tk acc hk hal hlt KA16 Q1 K0 hK0 wx u45 u46 u47 u48 u49 hcut
  obtain ⟨Ex, hst, hB, hbk, hF⟩ := hcut
  have hzx := hF.size
  have hlx := hbk.lt
  have hrd := hbk.rd (by omega)
  rw [hal] at hrd
  have KT := Kept.mk (dtabled_any wx _ acc KA16.out (by omega) hrd)
  have KST := Kept.mk hst
  have KB2 := Kept.mk hB
  have KF2 := Kept.mk hF
  clear hst hB hbk hF hrd
  go_wp2_with fail
  refine Calls.mono KT.out (fun e w8 hp => ?_)
  obtain ⟨sv, rfl, hsv, hb8⟩ := hp
  have hz8 := hb8.size
  obtain ⟨sa, sc, rfl, -, -, -⟩ := hsv.form
  obtain ⟨y0, y1, y2, y3, y4, y5, y6, y7, y8, y9, y10, y11, y12, y13, y14, y15, hcs⟩ : ∃ y0 y1 y2 y3 y4 y5 y6 y7 y8 y9 y10 y11 y12 y13 y14 y15, csF acc 16 0 = [y0, y1, y2, y3, y4, y5, y6, y7, y8, y9, y10, y11, y12, y13, y14, y15] := ⟨_, _, _, _, _, _, _, _, _, _, _, _, _, _, _, _, list16 _ (csF_length acc 16 0)⟩
  rw [hcs]
  have hTT : TT (w8.alloc (.cells #[.slice sa (symsF acc 15).length sc, .int .i64 y0, .int .i64 y1, .int .i64 y2, .int .i64 y3, .int .i64 y4, .int .i64 y5, .int .i64 y6, .int .i64 y7, .int .i64 y8, .int .i64 y9, .int .i64 y10, .int .i64 y11, .int .i64 y12, .int .i64 y13, .int .i64 y14, .int .i64 y15] 66)) w8.heap.size (.slice sa (symsF acc 15).length sc) (csF acc 16 0) := by
    unfold TT
    rw [hcs]
    exact heap_alloc_new w8 _
  have hB9 : Bts W0 (w8.alloc (.cells #[.slice sa (symsF acc 15).length sc, .int .i64 y0, .int .i64 y1, .int .i64 y2, .int .i64 y3, .int .i64 y4, .int .i64 y5, .int .i64 y6, .int .i64 y7, .int .i64 y8, .int .i64 y9, .int .i64 y10, .int .i64 y11, .int .i64 y12, .int .i64 y13, .int .i64 y14, .int .i64 y15] 66)) rb ob inV p most out tk Ex := (KB2.out.far hb8).far ((Below.refl _ _).alloc (Nat.le_refl _) _)
  have hF9 : Fr rb ob w (w8.alloc (.cells #[.slice sa (symsF acc 15).length sc, .int .i64 y0, .int .i64 y1, .int .i64 y2, .int .i64 y3, .int .i64 y4, .int .i64 y5, .int .i64 y6, .int .i64 y7, .int .i64 y8, .int .i64 y9, .int .i64 y10, .int .i64 y11, .int .i64 y12, .int .i64 y13, .int .i64 y14, .int .i64 y15] 66)) := (KF2.out.trans ⟨hb8.os, hb8.tape, hb8.output, hb8.size, fun k hk _ _ => hb8.block k hk⟩).alloc _
  have KTT : Kept (∀ wr, Fr rb ob (w8.alloc (.cells #[.slice sa (symsF acc 15).length sc, .int .i64 y0, .int .i64 y1, .int .i64 y2, .int .i64 y3, .int .i64 y4, .int .i64 y5, .int .i64 y6, .int .i64 y7, .int .i64 y8, .int .i64 y9, .int .i64 y10, .int .i64 y11, .int .i64 y12, .int .i64 y13, .int .i64 y14, .int .i64 y15] 66)) wr → TT wr w8.heap.size (.slice sa (symsF acc 15).length sc) (csF acc 16 0)) := ⟨fun wr hf => hTT.far (hf.block _ (by simp) (by omega) (KOJ.out _ (by omega)))⟩
  have KSV : Kept (∀ wr, Fr rb ob (w8.alloc (.cells #[.slice sa (symsF acc 15).length sc, .int .i64 y0, .int .i64 y1, .int .i64 y2, .int .i64 y3, .int .i64 y4, .int .i64 y5, .int .i64 y6, .int .i64 y7, .int .i64 y8, .int .i64 y9, .int .i64 y10, .int .i64 y11, .int .i64 y12, .int .i64 y13, .int .i64 y14, .int .i64 y15] 66)) wr → Rd .i64 (Sep rb ob) wr (.slice sa (symsF acc 15).length sc) (symsF acc 15)) := ⟨fun wr hf => hsv.far (Nat.le_trans (by simp) hf.size) fun b hb hS => ⟨⟨by omega, KOJ.out _ (by omega)⟩, by rw [hf.block b (by simp; omega) (by omega) (KOJ.out _ (by omega)), Below.heap_alloc _ _ _ hb]⟩⟩
  have KB9 := Kept.mk hB9
  have KF9 := Kept.mk hF9
  have KCS := Kept.mk hcs
  have hwi2 : a + 257 + d + 1 = (want : Int) := hwi
  clear hTT hB9 hF9 hsv hb8 hcs KB2 KF2 KT
  go_wp2
  go_loopw [10, 13] (fun s10 _ wr => ∃ (f tk : Nat) (L : List Int) (q : Value) (Ek : Int), s10 = q ∧ (Ek = 0 → L.length ≤ want ∧ want ≤ L.length + f ∧ AllIn 0 16 L) ∧ PreD R (kL p a want acc f L tk) Ek ∧ Own .i64 3 wr (w8.heap.size + 1) q L ∧ Bts W0 wr rb ob inV p most out tk Ek ∧ Fr rb ob (w8.alloc (.cells #[.slice sa (symsF acc 15).length sc, .int .i64 y0, .int .i64 y1, .int .i64 y2, .int .i64 y3, .int .i64 y4, .int .i64 y5, .int .i64 y6, .int .i64 y7, .int .i64 y8, .int .i64 y9, .int .i64 y10, .int .i64 y11, .int .i64 y12, .int .i64 y13, .int .i64 y14, .int .i64 y15] 66)) wr) (fun s10 _ wr => eOf wr rb * (want - lenOf s10 + 1))
  case atStart => exact ⟨want, tk, [], _, Ex, rfl, fun _ => ⟨by simp, by simp, AllIn.nil⟩, KST.out, Own.nil _ _ _ _, KB9.out, Fr.refl _ _ _⟩
  case round =>
    obtain ⟨f, tk2, L, q, Ek, rfl, hinv, hst, how, hB, hF⟩ := hrel
    have cE := hB.cE
    obtain ⟨qa, qc, rfl, -, hlq, hqm⟩ := how.rd.form
    have hzr2 := hF.size
    simp at hzr2
    have KIN := Kept.mk hinv
    have KS := Kept.mk hst
    have KQ := Kept.mk how
    have KB := Kept.mk hB
    have KF := Kept.mk hF
    clear hinv hst how hB hF
    by_cases hEk : Ek = 0
    · obtain ⟨hLw, hfu, hLi⟩ := KIN.out hEk
      have KLI := Kept.mk hLi
      have hRk := preD_on KS.out hEk
      subst hEk
      clear hLi KIN KS
      by_cases hlt : L.length < want
      · rename_i hltA K5 hK5
        clear hltA KST KB9
        revert hrb hrb0 hbs KOB KBW Q0 a d c want wm u21 u22 u23 u24 u25 u26 u27 u28 w4 n KOJ K2 u31 u32 u33 u34 u35 u36 u37 u38 u39 u40 u41 u42 u43 u44 k tk acc Q1 wx u45 u46 u47 u48 u49 Ex w8 sa sc y0 y1 y2 y3 y4 y5 y6 y7 y8 y9 y10 y11 y12 y13 y14 y15 K5 wr u13 u57 u58 u59 u60 u61 u62 u63 u64 u65 u66 u67 u68 u69 u70 u71 u72 u73 u74 u75 f tk2 L qa qc
        exact KG3.out
      · rename_i hltA K5 hK5
        clear hltA KST KB9 KTT KSV KCS KA16
        revert hrb hrb0 hbs KOB KBW Q0 a d c want wm u21 u22 u23 u24 u25 u26 u27 u28 w4 n KOJ K2 u31 u32 u33 u34 u35 u36 u37 u38 u39 u40 u41 u42 u43 u44 k tk acc Q1 wx u45 u46 u47 u48 u49 Ex w8 sa sc y0 y1 y2 y3 y4 y5 y6 y7 y8 y9 y10 y11 y12 y13 y14 y15 K5 wr u13 u57 u58 u59 u60 u61 u62 u63 u64 u65 u66 u67 u68 u69 u70 u71 u72 u73 u74 u75 f tk2 L qa qc
        exact KG4.out
    · obtain ⟨er, her1, her2⟩ := preD_off KS.out hEk
      have KE := Kept.mk her1
      have KE2 := Kept.mk her2
      clear her1 her2
      by_cases hlt : (L.length : Int) < (want : Int)
      · go_wp2
        go_ret2
        exact ⟨_, _, [], [], tk2, Ek, rfl, Rd.nil _ _ _, Rd.nil _ _ _, AllIn.nil, AllIn.nil, by simp, by simp, Or.inr ⟨er, KE.out, KE2.out⟩, KB.out, KF9.out.trans KF.out⟩
      · go_wp2
        go_ret2
        exact ⟨_, _, [], [], tk2, Ek, rfl, Rd.nil _ _ _, Rd.nil _ _ _, AllIn.nil, AllIn.nil, by simp, by simp, Or.inr ⟨er, KE.out, KE2.out⟩, KB.out, KF9.out.trans KF.out⟩
end Go.Proofs.YthbcloplhjmkkaaDoor

