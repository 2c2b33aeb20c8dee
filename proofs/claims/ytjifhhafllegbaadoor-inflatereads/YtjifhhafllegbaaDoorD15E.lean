/-
  The document's lengths: the end.
-/
import Derived.Test.YtjifhhafllegbaaDoorD15C
namespace Go.Proofs.YtjifhhafllegbaaDoor
open Go.RowKit
set_option linter.unusedVariables false

set_option maxHeartbeats 8000000 in
set_option maxRecDepth 100000 in
theorem dlE (W0 w : World) (rb : Nat) (ob : Option Nat) (inV : Value) (p out : List Int) (most t : Nat) (R : Rs (List Int × List Int)) : (dlC W0 w rb ob inV p out most t R).2.1 := by
  intro hrb hrb0 hbs KOB KBW Q0 a d c ha0 ha1 hd0 hd1 hc0 hc1 want hwi hw400 hw258 wm u21 u22 u23 u24 u25 u26 u27 u28 hzs w4 hfb n hn hn19 KOJ K2 u31 u32 u33 u34 u35 u36 u37 u38 u39 u40 u41 u42 u43 u44 k tk acc hk hal Q1 wx u45 u46 u47 u48 u49 Ex hzx hlx w8 hz8 sa sc y0 y1 y2 y3 y4 y5 y6 y7 y8 y9 y10 y11 y12 y13 y14 y15 KF9 hwi2 K5 hK5 wr u13 u57 u58 u59 u60 u61 u62 u63 u64 u65 u66 u67 u68 u69 u70 u71 u72 u73 u74 u75 f tk2 L qa qc hlq hqm hzr2 KQ KF hLw hfu KLI hRk cE KB hlt
  have hlti : ¬ (L.length : Int) < (want : Int) := by omega
  have hLe : L.length = want := by omega
  rw [kL_end _ _ _ _ _ _ _ hlt] at hRk
  have KRk := Kept.mk hRk
  obtain ⟨k1, hk1⟩ : ∃ k1 : Nat, a + 257 = k1 := ⟨(a + 257).toNat, by omega⟩
  have hk1t : (a + 257).toNat = k1 := by omega
  have hk1l : k1 ≤ L.length := by omega
  obtain ⟨lb, lo, lc, hlv, hlb, hlc, hlm, hls, hcells⟩ := KQ.out.rd.open (by omega)
  injection hlv with hlv1 hlv2 hlv3
  subst hlv1 hlv3
  clear hlv2
  have c256 := hcells 256 (by omega)
  have hrt : Rd .i64 (fun g => w8.heap.size + 1 ≤ g) wr (.slice (some ⟨lb, lo, none⟩) L.length qc) L := KQ.out.rd.weak fun b _ e => (KQ.out.lt b e).1
  have KTL : Kept (∀ w', Fr rb ob wr w' → Rd .i64 (fun g => w.heap.size ≤ g) w' (.slice (some ⟨lb, lo, none⟩) k1 qc) (L.take k1)) := ⟨fun w' hf => (hrt.takeAt k1 hk1l (by omega)).far hf.size fun b hb hS => ⟨by omega, hf.block b hb (by omega) (KOJ.out _ (by omega))⟩⟩
  have KDL : Kept (∀ w', Fr rb ob wr w' → Rd .i64 (fun g => w.heap.size ≤ g) w' (.slice (some ⟨lb, lo + k1, none⟩) (L.length - k1) (qc - k1)) (L.drop k1)) := ⟨fun w' hf => (hrt.dropAt k1 hk1l).far hf.size fun b hb hS => ⟨by omega, hf.block b hb (by omega) (KOJ.out _ (by omega))⟩⟩
  have hlt1 : (L.take k1).length = k1 := by simp; omega
  have hr1 := dright_any wr _ (L.take k1) false (KLI.out.take k1) (by omega) (hrt.takeAt k1 hk1l (by omega))
  have hr2 := dright_any wr _ (L.drop k1) true (KLI.out.drop k1) (by simp; omega) (hrt.dropAt k1 hk1l)
  have hs1 := dright_same (L.take k1) (KLI.out.take k1) false
  have hs2 := dright_same (L.drop k1) (KLI.out.drop k1) true
  rw [Bool.false_and, Bool.or_false] at hs1
  rw [Bool.true_and] at hs2
  have KS1 := Kept.mk hs1
  have KS2 := Kept.mk hs2
  have hlk : ¬ qc = k1 := by omega
  have hx1 : (k1 : Int) ≤ (qc : Int) := by omega
  have hx2 : (k1 : Int) ≤ (L.length : Int) := by omega
  have hx3 : (L.length : Int) ≤ (qc : Int) := by omega
  have hx4 : (256 : Int) < (L.length : Int) := by omega
  have tok1 : True := trivial
  have KLE := Kept.mk hLe
  have KK1 := Kept.mk hk1t
  have hlen4 : L.length ≤ 400 := by omega
  clear hcells hls hlm hrt hs1 hs2 hRk hLe hlt1 hwi2 hwi hlt hn
  by_cases h256 : L.getD 256 0 = 0
  · rw [h256] at c256
    clear hr1 hr2 KS1 KS2
    have hfa := dfail_any KB.out
    rw [if_pos rfl] at hfa
    have KFA := Kept.mk hfa
    clear hfa
    have hRf : R = .bad .form := by
      rw [KRk.out]
      unfold kE
      rw [hk1t]
      rw [if_pos (Or.inl h256)]
    have KRf := Kept.mk hRf
    clear hRf
    go_wp2_with (first  | (go_at_call 25; refine Calls.mono KFA.out (fun e w3 hp => ?_); obtain ⟨rfl, hB3, hF3⟩ := hp; have KB3 := Kept.mk hB3; have KF3 := Kept.mk hF3; clear hB3 hF3))
    go_quiet (fail)
    go_wp2
    go_ret2
    exact ⟨_, _, L.take k1, L.drop k1, tk2, 4, rfl, KTL.out _ (KF3.out.drewN _), KDL.out _ (KF3.out.drewN _), KLI.out.take _, KLI.out.drop _, by simp; omega, by simp; omega, Or.inr ⟨.form, KRf.out, rfl⟩, KB3.out.drewN _, KF9.out.trans (KF.out.trans (KF3.out.drewN _))⟩
  · rcases hv1 : dright (L.take k1) false with _ | _
    · rw [hv1] at hr1
      have KR1 := Kept.mk hr1
      have hk1r : rightF (mkCd (L.take k1)) = false := by rw [← KS1.out, hv1]
      clear hr1 hr2 KS2 hv1
      have hfa := dfail_any KB.out
      rw [if_pos rfl] at hfa
      have KFA := Kept.mk hfa
      clear hfa
      have hRf : R = .bad .form := by
        rw [KRk.out]
        unfold kE
        rw [hk1t]
        rw [if_pos (Or.inr hk1r)]
      have KRf := Kept.mk hRf
      clear hRf
      obtain ⟨c0, hc0e⟩ : ∃ c0, L.getD 256 0 = c0 := ⟨_, rfl⟩
      rw [hc0e] at c256 h256
      have f256 : (c0 == 0) = false := by simpa using h256
      clear hc0e
      go_wp2_with (first | (go_at_call 40; have tt := tok1; refine Calls.mono KR1.out (fun e w3 hp => ?_); obtain ⟨rfl, rfl⟩ := hp; clear tok1) | (go_at_call 25; refine Calls.mono KFA.out (fun e w3 hp => ?_); obtain ⟨rfl, hB3, hF3⟩ := hp; have KB3 := Kept.mk hB3; have KF3 := Kept.mk hF3; clear hB3 hF3))
      go_quiet (fail)
      go_wp2
      go_ret2
      exact ⟨_, _, L.take k1, L.drop k1, tk2, 4, rfl, KTL.out _ (KF3.out.drewN _), KDL.out _ (KF3.out.drewN _), KLI.out.take _, KLI.out.drop _, by simp; omega, by simp; omega, Or.inr ⟨.form, KRf.out, rfl⟩, KB3.out.drewN _, KF9.out.trans (KF.out.trans (KF3.out.drewN _))⟩
    · rw [hv1] at hr1
      have KR1 := Kept.mk hr1
      have hk1r : rightF (mkCd (L.take k1)) = true := by rw [← KS1.out, hv1]
      rcases hv2 : dright (L.drop k1) true with _ | _
      · rw [hv2] at hr2
        have KR2 := Kept.mk hr2
        have hk2r : rightF (mkCd (L.drop k1)) = false ∧ (mkCd (L.drop k1)).symbols ≠ [] := by
          have := KS2.out
          rw [hv2] at this
          have h3 := Bool.or_eq_false_iff.1 this.symm
          exact ⟨h3.1, of_decide_eq_false h3.2⟩
        clear hr1 hr2 hv1 hv2
        have hfa := dfail_any KB.out
        rw [if_pos rfl] at hfa
        have KFA := Kept.mk hfa
        clear hfa
        have hRf : R = .bad .form := by
          rw [KRk.out]
          unfold kE
          rw [hk1t]
          rw [if_neg (by rw [hk1r]; exact fun e => e.elim h256 (fun e => by cases e)), if_pos hk2r]
        have KRf := Kept.mk hRf
        clear hRf
        obtain ⟨c0, hc0e⟩ : ∃ c0, L.getD 256 0 = c0 := ⟨_, rfl⟩
        rw [hc0e] at c256 h256
        have f256 : (c0 == 0) = false := by simpa using h256
        clear hc0e
        go_wp2_with (first | (go_at_call 40; have tt := tok1; refine Calls.mono KR1.out (fun e w3 hp => ?_); obtain ⟨rfl, rfl⟩ := hp; clear tok1) | (go_at_call 40; refine Calls.mono KR2.out (fun e w3 hp => ?_); obtain ⟨rfl, rfl⟩ := hp) | (go_at_call 25; refine Calls.mono KFA.out (fun e w3 hp => ?_); obtain ⟨rfl, hB3, hF3⟩ := hp; have KB3 := Kept.mk hB3; have KF3 := Kept.mk hF3; clear hB3 hF3))
        go_quiet (fail)
        go_wp2
        go_ret2
        exact ⟨_, _, L.take k1, L.drop k1, tk2, 4, rfl, KTL.out _ (KF3.out.drewN _), KDL.out _ (KF3.out.drewN _), KLI.out.take _, KLI.out.drop _, by simp; omega, by simp; omega, Or.inr ⟨.form, KRf.out, rfl⟩, KB3.out.drewN _, KF9.out.trans (KF.out.trans (KF3.out.drewN _))⟩
      · rw [hv2] at hr2
        have KR2 := Kept.mk hr2
        have hk2r : ¬ (rightF (mkCd (L.drop k1)) = false ∧ (mkCd (L.drop k1)).symbols ≠ []) := by
          have := KS2.out
          rw [hv2] at this
          rintro ⟨h3, h4⟩
          rw [h3, decide_eq_false h4] at this
          cases this
        have hRf : R = .ok (L.take k1, L.drop k1) tk2 := by
          rw [KRk.out]
          unfold kE
          rw [hk1t, if_neg (by rw [hk1r]; exact fun e => e.elim h256 (fun e => by cases e)), if_neg hk2r]
        have KRf := Kept.mk hRf
        clear hr1 hr2 hv1 hv2 hRf
        obtain ⟨c0, hc0e⟩ : ∃ c0, L.getD 256 0 = c0 := ⟨_, rfl⟩
        rw [hc0e] at c256 h256
        have f256 : (c0 == 0) = false := by simpa using h256
        clear hc0e
        go_wp2_with (first | (go_at_call 40; have tt := tok1; refine Calls.mono KR1.out (fun e w3 hp => ?_); obtain ⟨rfl, rfl⟩ := hp; clear tok1) | (go_at_call 40; refine Calls.mono KR2.out (fun e w3 hp => ?_); obtain ⟨rfl, rfl⟩ := hp))
        go_quiet (fail)
        go_wp2
        go_ret2
        exact ⟨_, _, L.take k1, L.drop k1, tk2, 0, rfl, KTL.out _ ((Fr.refl _ _ _).drewN _), KDL.out _ ((Fr.refl _ _ _).drewN _), KLI.out.take _, KLI.out.drop _, by simp; omega, by simp; omega, Or.inl ⟨KRf.out, rfl⟩, KB.out.drewN _, KF9.out.trans (KF.out.drewN _)⟩
end Go.Proofs.YtjifhhafllegbaaDoor
