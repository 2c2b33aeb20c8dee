/-
  The document's lengths: the table, and up to the second loop's rounds and its end.
-/
import Derived.Test.YtjijkcmbbccfmaaDoorD15A
namespace Go.Proofs.YtjijkcmbbccfmaaDoor
open Go.RowKit
set_option linter.unusedVariables false

set_option maxHeartbeats 8000000 in
set_option maxRecDepth 100000 in
def dlC (W0 w : World) (rb : Nat) (ob : Option Nat) (inV : Value) (p out : List Int) (most t : Nat) (R : Rs (List Int × List Int)) : PSigma fun G3 : Prop => PSigma fun G4 : Prop => G3 → G4 → (dlA W0 w rb ob inV p out most t R).2.1 := by
  apply PSigma.mk
  case snd =>
  apply PSigma.mk
  case snd =>
  intro HG3 HG4
  have KG3 := Kept.mk HG3
  have KG4 := Kept.mk HG4
  clear HG3 HG4
  intro hrb hrb0 hbs KOB KBW Q0 a d c ha0 ha1 hd0 hd1 hc0 hc1 want hwi hw400 hw258 wm u21 u22 u23 u24 u25 u26 u27 u28 hzs w4 hfb n hn hn19 KOJ K2 u31 u32 u33 u34 u35 u36 u37 u38 u39 u40 u41 u42 u43 u44 k tk acc hk hal hlt KA16 Q1 K0 hK0 wx u45 u46 u47 u48 u49 hcut
  obtain ⟨Ex, hst, hB, hbk, hF⟩ := hcut
  have hzx := hF.size
  have hlx := hbk.lt
  have hrd := hbk.rd (by omega)
  rw [hal] at hrd
  have KT := Kept.mk (dtabled_any wx _ acc KA16.out (by omega) hrd)
  have KST := Kept.mk hst
  have KB2 := Kept.mk hB
  have KF2 := Kept.mk hF
  clear hst hB hbk hF hrd
  go_wp2_with fail
  refine Calls.mono KT.out (fun e w8 hp => ?_)
  obtain ⟨sv, rfl, hsv, hb8⟩ := hp
  have hz8 := hb8.size
  obtain ⟨sa, sc, rfl, -, -, -⟩ := hsv.form
  obtain ⟨y0, y1, y2, y3, y4, y5, y6, y7, y8, y9, y10, y11, y12, y13, y14, y15, hcs⟩ : ∃ y0 y1 y2 y3 y4 y5 y6 y7 y8 y9 y10 y11 y12 y13 y14 y15, csF acc 16 0 = [y0, y1, y2, y3, y4, y5, y6, y7, y8, y9, y10, y11, y12, y13, y14, y15] := ⟨_, _, _, _, _, _, _, _, _, _, _, _, _, _, _, _, list16 _ (csF_length acc 16 0)⟩
  rw [hcs]
  have hTT : TT (w8.alloc (.cells #[.slice sa (symsF acc 15).length sc, .int .i64 y0, .int .i64 y1, .int .i64 y2, .int .i64 y3, .int .i64 y4, .int .i64 y5, .int .i64 y6, .int .i64 y7, .int .i64 y8, .int .i64 y9, .int .i64 y10, .int .i64 y11, .int .i64 y12, .int .i64 y13, .int .i64 y14, .int .i64 y15] 84)) w8.heap.size (.slice sa (symsF acc 15).length sc) (csF acc 16 0) := by
    unfold TT
    rw [hcs]
    exact heap_alloc_new w8 _
  have hB9 : Bts W0 (w8.alloc (.cells #[.slice sa (symsF acc 15).length sc, .int .i64 y0, .int .i64 y1, .int .i64 y2, .int .i64 y3, .int .i64 y4, .int .i64 y5, .int .i64 y6, .int .i64 y7, .int .i64 y8, .int .i64 y9, .int .i64 y10, .int .i64 y11, .int .i64 y12, .int .i64 y13, .int .i64 y14, .int .i64 y15] 84)) rb ob inV p most out tk Ex := (KB2.out.far hb8).far ((Below.refl _ _).alloc (Nat.le_refl _) _)
  have hF9 : Fr rb ob w (w8.alloc (.cells #[.slice sa (symsF acc 15).length sc, .int .i64 y0, .int .i64 y1, .int .i64 y2, .int .i64 y3, .int .i64 y4, .int .i64 y5, .int .i64 y6, .int .i64 y7, .int .i64 y8, .int .i64 y9, .int .i64 y10, .int .i64 y11, .int .i64 y12, .int .i64 y13, .int .i64 y14, .int .i64 y15] 84)) := (KF2.out.trans ⟨hb8.os, hb8.tape, hb8.output, hb8.size, fun k hk _ _ => hb8.block k hk⟩).alloc _
  have KTT : Kept (∀ wr, Fr rb ob (w8.alloc (.cells #[.slice sa (symsF acc 15).length sc, .int .i64 y0, .int .i64 y1, .int .i64 y2, .int .i64 y3, .int .i64 y4, .int .i64 y5, .int .i64 y6, .int .i64 y7, .int .i64 y8, .int .i64 y9, .int .i64 y10, .int .i64 y11, .int .i64 y12, .int .i64 y13, .int .i64 y14, .int .i64 y15] 84)) wr → TT wr w8.heap.size (.slice sa (symsF acc 15).length sc) (csF acc 16 0)) := ⟨fun wr hf => hTT.far (hf.block _ (by simp) (by omega) (KOJ.out _ (by omega)))⟩
  have KSV : Kept (∀ wr, Fr rb ob (w8.alloc (.cells #[.slice sa (symsF acc 15).length sc, .int .i64 y0, .int .i64 y1, .int .i64 y2, .int .i64 y3, .int .i64 y4, .int .i64 y5, .int .i64 y6, .int .i64 y7, .int .i64 y8, .int .i64 y9, .int .i64 y10, .int .i64 y11, .int .i64 y12, .int .i64 y13, .int .i64 y14, .int .i64 y15] 84)) wr → Rd .i64 (Sep rb ob) wr (.slice sa (symsF acc 15).length sc) (symsF acc 15)) := ⟨fun wr hf => hsv.far (Nat.le_trans (by simp) hf.size) fun b hb hS => ⟨⟨by omega, KOJ.out _ (by omega)⟩, by rw [hf.block b (by simp; omega) (by omega) (KOJ.out _ (by omega)), Below.heap_alloc _ _ _ hb]⟩⟩
  have KB9 := Kept.mk hB9
  have KF9 := Kept.mk hF9
  have KCS := Kept.mk hcs
  have hwi2 : a + 257 + d + 1 = (want : Int) := hwi
  clear hTT hB9 hF9 hsv hb8 hcs KB2 KF2 KT
  go_wp2
  go_loopw [10, 13] (fun s10 _ wr => ∃ (f tk : Nat) (L : List Int) (q : Value) (Ek : Int), s10 = q ∧ (Ek = 0 → L.length ≤ want ∧ want ≤ L.length + f ∧ AllIn 0 16 L) ∧ PreD R (kL p a want acc f L tk) Ek ∧ Own .i64 3 wr (w8.heap.size + 1) q L ∧ Bts W0 wr rb ob inV p most out tk Ek ∧ Fr rb ob (w8.alloc (.cells #[.slice sa (symsF acc 15).length sc, .int .i64 y0, .int .i64 y1, .int .i64 y2, .int .i64 y3, .int .i64 y4, .int .i64 y5, .int .i64 y6, .int .i64 y7, .int .i64 y8, .int .i64 y9, .int .i64 y10, .int .i64 y11, .int .i64 y12, .int .i64 y13, .int .i64 y14, .int .i64 y15] 84)) wr) (fun s10 _ wr => eOf wr rb * (want - lenOf s10 + 1))
  case atStart => exact ⟨want, tk, [], _, Ex, rfl, fun _ => ⟨by simp, by simp, AllIn.nil⟩, KST.out, Own.nil _ _ _ _, KB9.out, Fr.refl _ _ _⟩
  case round =>
    obtain ⟨f, tk2, L, q, Ek, rfl, hinv, hst, how, hB, hF⟩ := hrel
    have cE := hB.cE
    obtain ⟨qa, qc, rfl, -, hlq, hqm⟩ := how.rd.form
    have hzr2 := hF.size
    simp at hzr2
    have KIN := Kept.mk hinv
    have KS := Kept.mk hst
    have KQ := Kept.mk how
    have KB := Kept.mk hB
    have KF := Kept.mk hF
    clear hinv hst how hB hF
    by_cases hEk : Ek = 0
    · obtain ⟨hLw, hfu, hLi⟩ := KIN.out hEk
      have KLI := Kept.mk hLi
      have hRk := preD_on KS.out hEk
      subst hEk
      clear hLi KIN KS
      by_cases hlt : L.length < want
      · rename_i hltA K5 hK5
        clear hltA KST KB9
        revert hrb hrb0 hbs KOB KBW Q0 a d c want wm u21 u22 u23 u24 u25 u26 u27 u28 w4 n KOJ K2 u31 u32 u33 u34 u35 u36 u37 u38 u39 u40 u41 u42 u43 u44 k tk acc Q1 wx u45 u46 u47 u48 u49 Ex w8 sa sc y0 y1 y2 y3 y4 y5 y6 y7 y8 y9 y10 y11 y12 y13 y14 y15 K5 wr u13 u57 u58 u59 u60 u61 u62 u63 u64 u65 u66 u67 u68 u69 u70 u71 u72 u73 u74 u75 f tk2 L qa qc
        exact KG3.out
      · rename_i hltA K5 hK5
        clear hltA KST KB9 KTT KSV KCS KA16
        revert hrb hrb0 hbs KOB KBW Q0 a d c want wm u21 u22 u23 u24 u25 u26 u27 u28 w4 n KOJ K2 u31 u32 u33 u34 u35 u36 u37 u38 u39 u40 u41 u42 u43 u44 k tk acc Q1 wx u45 u46 u47 u48 u49 Ex w8 sa sc y0 y1 y2 y3 y4 y5 y6 y7 y8 y9 y10 y11 y12 y13 y14 y15 K5 wr u13 u57 u58 u59 u60 u61 u62 u63 u64 u65 u66 u67 u68 u69 u70 u71 u72 u73 u74 u75 f tk2 L qa qc
        exact KG4.out
    · obtain ⟨er, her1, her2⟩ := preD_off KS.out hEk
      have KE := Kept.mk her1
      have KE2 := Kept.mk her2
      clear her1 her2
      by_cases hlt : (L.length : Int) < (want : Int)
      · go_wp2
        go_ret2
        exact ⟨_, _, [], [], tk2, Ek, rfl, Rd.nil _ _ _, Rd.nil _ _ _, AllIn.nil, AllIn.nil, by simp, by simp, Or.inr ⟨er, KE.out, KE2.out⟩, KB.out, KF9.out.trans KF.out⟩
      · go_wp2
        go_ret2
        exact ⟨_, _, [], [], tk2, Ek, rfl, Rd.nil _ _ _, Rd.nil _ _ _, AllIn.nil, AllIn.nil, by simp, by simp, Or.inr ⟨er, KE.out, KE2.out⟩, KB.out, KF9.out.trans KF.out⟩

open Go.RowKit
set_option linter.unusedVariables false

set_option maxHeartbeats 8000000 in
set_option maxRecDepth 100000 in
theorem dlE (W0 w : World) (rb : Nat) (ob : Option Nat) (inV : Value) (p out : List Int) (most t : Nat) (R : Rs (List Int × List Int)) : (dlC W0 w rb ob inV p out most t R).2.1 := by
  intro hrb hrb0 hbs KOB KBW Q0 a d c ha0 ha1 hd0 hd1 hc0 hc1 want hwi hw400 hw258 wm u21 u22 u23 u24 u25 u26 u27 u28 hzs w4 hfb n hn hn19 KOJ K2 u31 u32 u33 u34 u35 u36 u37 u38 u39 u40 u41 u42 u43 u44 k tk acc hk hal Q1 wx u45 u46 u47 u48 u49 Ex hzx hlx w8 hz8 sa sc y0 y1 y2 y3 y4 y5 y6 y7 y8 y9 y10 y11 y12 y13 y14 y15 KF9 hwi2 K5 hK5 wr u13 u57 u58 u59 u60 u61 u62 u63 u64 u65 u66 u67 u68 u69 u70 u71 u72 u73 u74 u75 f tk2 L qa qc hlq hqm hzr2 KQ KF hLw hfu KLI hRk cE KB hlt
  have hlti : ¬ (L.length : Int) < (want : Int) := by omega
  have hLe : L.length = want := by omega
  rw [kL_end _ _ _ _ _ _ _ hlt] at hRk
  have KRk := Kept.mk hRk
  obtain ⟨k1, hk1⟩ : ∃ k1 : Nat, a + 257 = k1 := ⟨(a + 257).toNat, by omega⟩
  have hk1t : (a + 257).toNat = k1 := by omega
  have hk1l : k1 ≤ L.length := by omega
  obtain ⟨lb, lo, lc, hlv, hlb, hlc, hlm, hls, hcells⟩ := KQ.out.rd.open (by omega)
  injection hlv with hlv1 hlv2 hlv3
  subst hlv1 hlv3
  clear hlv2
  have c256 := hcells 256 (by omega)
  have hrt : Rd .i64 (fun g => w8.heap.size + 1 ≤ g) wr (.slice (some ⟨lb, lo, none⟩) L.length qc) L := KQ.out.rd.weak fun b _ e => (KQ.out.lt b e).1
  have KTL : Kept (∀ w', Fr rb ob wr w' → Rd .i64 (fun g => w.heap.size ≤ g) w' (.slice (some ⟨lb, lo, none⟩) k1 qc) (L.take k1)) := ⟨fun w' hf => (hrt.takeAt k1 hk1l (by omega)).far hf.size fun b hb hS => ⟨by omega, hf.block b hb (by omega) (KOJ.out _ (by omega))⟩⟩
  have KDL : Kept (∀ w', Fr rb ob wr w' → Rd .i64 (fun g => w.heap.size ≤ g) w' (.slice (some ⟨lb, lo + k1, none⟩) (L.length - k1) (qc - k1)) (L.drop k1)) := ⟨fun w' hf => (hrt.dropAt k1 hk1l).far hf.size fun b hb hS => ⟨by omega, hf.block b hb (by omega) (KOJ.out _ (by omega))⟩⟩
  have hlt1 : (L.take k1).length = k1 := by simp; omega
  have hr1 := dright_any wr _ (L.take k1) false (KLI.out.take k1) (by omega) (hrt.takeAt k1 hk1l (by omega))
  have hr2 := dright_any wr _ (L.drop k1) true (KLI.out.drop k1) (by simp; omega) (hrt.dropAt k1 hk1l)
  have hs1 := dright_same (L.take k1) (KLI.out.take k1) false
  have hs2 := dright_same (L.drop k1) (KLI.out.drop k1) true
  rw [Bool.false_and, Bool.or_false] at hs1
  rw [Bool.true_and] at hs2
  have KS1 := Kept.mk hs1
  have KS2 := Kept.mk hs2
  have hlk : ¬ qc = k1 := by omega
  have hx1 : (k1 : Int) ≤ (qc : Int) := by omega
  have hx2 : (k1 : Int) ≤ (L.length : Int) := by omega
  have hx3 : (L.length : Int) ≤ (qc : Int) := by omega
  have hx4 : (256 : Int) < (L.length : Int) := by omega
  have tok1 : True := trivial
  have KLE := Kept.mk hLe
  have KK1 := Kept.mk hk1t
  have hlen4 : L.length ≤ 400 := by omega
  clear hcells hls hlm hrt hs1 hs2 hRk hLe hlt1 hwi2 hwi hlt hn
  by_cases h256 : L.getD 256 0 = 0
  · rw [h256] at c256
    clear hr1 hr2 KS1 KS2
    have hfa := dfail_any KB.out
    rw [if_pos rfl] at hfa
    have KFA := Kept.mk hfa
    clear hfa
    have hRf : R = .bad .form := by
      rw [KRk.out]
      unfold kE
      rw [hk1t]
      rw [if_pos (Or.inl h256)]
    have KRf := Kept.mk hRf
    clear hRf
    go_wp2_with (first  | (go_at_call 32; refine Calls.mono KFA.out (fun e w3 hp => ?_); obtain ⟨rfl, hB3, hF3⟩ := hp; have KB3 := Kept.mk hB3; have KF3 := Kept.mk hF3; clear hB3 hF3))
    go_quiet (fail)
    go_wp2
    go_ret2
    exact ⟨_, _, L.take k1, L.drop k1, tk2, 4, rfl, KTL.out _ (KF3.out.drewN _), KDL.out _ (KF3.out.drewN _), KLI.out.take _, KLI.out.drop _, by simp; omega, by simp; omega, Or.inr ⟨.form, KRf.out, rfl⟩, KB3.out.drewN _, KF9.out.trans (KF.out.trans (KF3.out.drewN _))⟩
  · rcases hv1 : dright (L.take k1) false with _ | _
    · rw [hv1] at hr1
      have KR1 := Kept.mk hr1
      have hk1r : rightF (mkCd (L.take k1)) = false := by rw [← KS1.out, hv1]
      clear hr1 hr2 KS2 hv1
      have hfa := dfail_any KB.out
      rw [if_pos rfl] at hfa
      have KFA := Kept.mk hfa
      clear hfa
      have hRf : R = .bad .form := by
        rw [KRk.out]
        unfold kE
        rw [hk1t]
        rw [if_pos (Or.inr hk1r)]
      have KRf := Kept.mk hRf
      clear hRf
      obtain ⟨c0, hc0e⟩ : ∃ c0, L.getD 256 0 = c0 := ⟨_, rfl⟩
      rw [hc0e] at c256 h256
      have f256 : (c0 == 0) = false := by simpa using h256
      clear hc0e
      go_wp2_with (first | (go_at_call 58; have tt := tok1; refine Calls.mono KR1.out (fun e w3 hp => ?_); obtain ⟨rfl, rfl⟩ := hp; clear tok1) | (go_at_call 32; refine Calls.mono KFA.out (fun e w3 hp => ?_); obtain ⟨rfl, hB3, hF3⟩ := hp; have KB3 := Kept.mk hB3; have KF3 := Kept.mk hF3; clear hB3 hF3))
      go_quiet (fail)
      go_wp2
      go_ret2
      exact ⟨_, _, L.take k1, L.drop k1, tk2, 4, rfl, KTL.out _ (KF3.out.drewN _), KDL.out _ (KF3.out.drewN _), KLI.out.take _, KLI.out.drop _, by simp; omega, by simp; omega, Or.inr ⟨.form, KRf.out, rfl⟩, KB3.out.drewN _, KF9.out.trans (KF.out.trans (KF3.out.drewN _))⟩
    · rw [hv1] at hr1
      have KR1 := Kept.mk hr1
      have hk1r : rightF (mkCd (L.take k1)) = true := by rw [← KS1.out, hv1]
      rcases hv2 : dright (L.drop k1) true with _ | _
      · rw [hv2] at hr2
        have KR2 := Kept.mk hr2
        have hk2r : rightF (mkCd (L.drop k1)) = false ∧ (mkCd (L.drop k1)).symbols ≠ [] := by
          have := KS2.out
          rw [hv2] at this
          have h3 := Bool.or_eq_false_iff.1 this.symm
          exact ⟨h3.1, of_decide_eq_false h3.2⟩
        clear hr1 hr2 hv1 hv2
        have hfa := dfail_any KB.out
        rw [if_pos rfl] at hfa
        have KFA := Kept.mk hfa
        clear hfa
        have hRf : R = .bad .form := by
          rw [KRk.out]
          unfold kE
          rw [hk1t]
          rw [if_neg (by rw [hk1r]; exact fun e => e.elim h256 (fun e => by cases e)), if_pos hk2r]
        have KRf := Kept.mk hRf
        clear hRf
        obtain ⟨c0, hc0e⟩ : ∃ c0, L.getD 256 0 = c0 := ⟨_, rfl⟩
        rw [hc0e] at c256 h256
        have f256 : (c0 == 0) = false := by simpa using h256
        clear hc0e
        go_wp2_with (first | (go_at_call 58; have tt := tok1; refine Calls.mono KR1.out (fun e w3 hp => ?_); obtain ⟨rfl, rfl⟩ := hp; clear tok1) | (go_at_call 58; refine Calls.mono KR2.out (fun e w3 hp => ?_); obtain ⟨rfl, rfl⟩ := hp) | (go_at_call 32; refine Calls.mono KFA.out (fun e w3 hp => ?_); obtain ⟨rfl, hB3, hF3⟩ := hp; have KB3 := Kept.mk hB3; have KF3 := Kept.mk hF3; clear hB3 hF3))
        go_quiet (fail)
        go_wp2
        go_ret2
        exact ⟨_, _, L.take k1, L.drop k1, tk2, 4, rfl, KTL.out _ (KF3.out.drewN _), KDL.out _ (KF3.out.drewN _), KLI.out.take _, KLI.out.drop _, by simp; omega, by simp; omega, Or.inr ⟨.form, KRf.out, rfl⟩, KB3.out.drewN _, KF9.out.trans (KF.out.trans (KF3.out.drewN _))⟩
      · rw [hv2] at hr2
        have KR2 := Kept.mk hr2
        have hk2r : ¬ (rightF (mkCd (L.drop k1)) = false ∧ (mkCd (L.drop k1)).symbols ≠ []) := by
          have := KS2.out
          rw [hv2] at this
          rintro ⟨h3, h4⟩
          rw [h3, decide_eq_false h4] at this
          cases this
        have hRf : R = .ok (L.take k1, L.drop k1) tk2 := by
          rw [KRk.out]
          unfold kE
          rw [hk1t, if_neg (by rw [hk1r]; exact fun e => e.elim h256 (fun e => by cases e)), if_neg hk2r]
        have KRf := Kept.mk hRf
        clear hr1 hr2 hv1 hv2 hRf
        obtain ⟨c0, hc0e⟩ : ∃ c0, L.getD 256 0 = c0 := ⟨_, rfl⟩
        rw [hc0e] at c256 h256
        have f256 : (c0 == 0) = false := by simpa using h256
        clear hc0e
        go_wp2_with (first | (go_at_call 58; have tt := tok1; refine Calls.mono KR1.out (fun e w3 hp => ?_); obtain ⟨rfl, rfl⟩ := hp; clear tok1) | (go_at_call 58; refine Calls.mono KR2.out (fun e w3 hp => ?_); obtain ⟨rfl, rfl⟩ := hp))
        go_quiet (fail)
        go_wp2
        go_ret2
        exact ⟨_, _, L.take k1, L.drop k1, tk2, 0, rfl, KTL.out _ ((Fr.refl _ _ _).drewN _), KDL.out _ ((Fr.refl _ _ _).drewN _), KLI.out.take _, KLI.out.drop _, by simp; omega, by simp; omega, Or.inl ⟨KRf.out, rfl⟩, KB.out.drewN _, KF9.out.trans (KF.out.drewN _)⟩
end Go.Proofs.YtjijkcmbbccfmaaDoor
