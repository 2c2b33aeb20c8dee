/-
  The document's reader: lengths.
-/
import Derived.Test.YtjijkcmbbccfmaaDoorD16
import Derived.Test.YtjijkcmbbccfmaaDoorT2
import Derived.Deep.MidRow
import Derived.Deep.CutRange
namespace Go.Proofs.YtjijkcmbbccfmaaDoor
open Go.RowKit
set_option linter.unusedVariables false

/-- Both lists of lengths, or what was met. -/
def AfterLD (W0 w w' : World) (rb : Nat) (ob : Option Nat) (inV : Value) (p : List Int) (most : Nat) (out : List Int) (R : Rs (List Int × List Int)) (e : Ending) : Prop :=
  ∃ lv dv Ll Ld t' E', e = .returned (.tuple #[lv, dv]) ∧ Rd .i64 (fun g => w.heap.size ≤ g) w' lv Ll ∧ Rd .i64 (fun g => w.heap.size ≤ g) w' dv Ld ∧ AllIn 0 16 Ll ∧ AllIn 0 16 Ld ∧ Ll.length ≤ 400 ∧ Ld.length ≤ 400 ∧ StD R (Ll, Ld) t' E' ∧ Bts W0 w' rb ob inV p most out t' E' ∧ Fr rb ob w w'

theorem Bts.setFar {W0 w : World} {rb : Nat} {ob : Option Nat} {inV : Value} {p out : List Int} {most t : Nat} {E : Int} (h : Bts W0 w rb ob inV p most out t E) {b : Nat} (h0 : W0.heap.size ≤ b) (h1 : b ≠ rb) (h2 : some b ≠ ob) (i : Nat) (u : Value) : Bts W0 (w.setCell ⟨b, i, none⟩ u) rb ob inV p most out t E :=
  h.keep (Below.heap_setCell _ _ _ _ (Ne.symm h1)) (fun k hk => Below.heap_setCell _ _ _ _ (fun e => h2 (by have e' : k = b := e; rw [← e']; exact hk.symm))) (h.bel.setCell h0 _)

theorem Rd.takeAt {k : IntKind} {S : Nat → Prop} {w : World} {a : Option Addr} {n c : Nat} {xs : List Int} (h : Rd k S w (.slice a n c) xs) (i : Nat) (hi : i ≤ xs.length) (h0 : 0 < xs.length) : Rd k S w (.slice a i c) (xs.take i) := by
  obtain ⟨a0, c0, hv, h1, h2, h3, h4⟩ := h
  cases hv
  obtain ⟨b, off, rfl, hlt, hs, hc⟩ := h4 h0
  have hl : (xs.take i).length = i := by simp; omega
  refine ⟨some ⟨b, off, none⟩, c, by rw [hl], by omega, h2, (fun e => by cases e), fun _ => ⟨b, off, rfl, hlt, hs, fun j hj => ?_⟩⟩
  rw [hl] at hj
  rw [hc j (by omega)]
  simp [List.getD, hj]
set_option maxHeartbeats 8000000 in
set_option maxRecDepth 100000 in
/-- Up to the first loop's rounds (the first claim), and up to the table (the second one). -/
def dlA (W0 w : World) (rb : Nat) (ob : Option Nat) (inV : Value) (p out : List Int) (most t : Nat) (R : Rs (List Int × List Int)) :
    PSigma fun G1 : Prop => PSigma fun G2 : Prop => Bts W0 w rb ob inV p most out t 0 → PreD R (tlF p t) 0 → G1 → G2 → Calls Tryd.prog 31 #[.pointer (some ⟨rb, 0, none⟩)] w fun e w' => AfterLD W0 w w' rb ob inV p most out R e := by
  apply PSigma.mk
  case snd =>
  apply PSigma.mk
  case snd =>
  intro h hst HG1 HG2
  have KG1 := Kept.mk HG1
  have KG2 := Kept.mk HG2
  clear HG1 HG2
  have hrb := h.rb_lt
  have hrb0 := h.hb
  have hbs := h.bel.size
  have KOB := Kept.mk h.ob_ge
  have KBW := Kept.mk h.bel
  obtain ⟨R1, hR1, hn1⟩ := preD_bind (show PreD R ((numF p 5 t).bind _) 0 from hst)
  have K1 := Kept.mk (dnumR 5 (by omega) hR1 h)
  have KN1 := Kept.mk hn1
  clear h hst hR1 hn1
  go_enter Tryd.func31, Tryd.ntmps31
  go_wp2_with fail
  refine Calls.mono K1.out (fun e w1 hp => ?_)
  obtain ⟨a, t1, E1, rfl, ha, hS1, hB1, hF1⟩ := hp
  simp only [Int.reducePow] at ha
  obtain ⟨R2, hR2, hn2⟩ := preD_bind (show PreD R ((numF p 5 t1).bind _) E1 from KN1.out _ _ _ hS1)
  have K2 := Kept.mk (dnumR 5 (by omega) hR2 hB1)
  have KN2 := Kept.mk hn2
  have KF1 := Kept.mk hF1
  clear hS1 hB1 hF1 hR2 hn2 KN1 K1
  go_wp2_with fail
  refine Calls.mono K2.out (fun e w2 hp => ?_)
  obtain ⟨d, t2, E2, rfl, hd, hS2, hB2, hF2⟩ := hp
  simp only [Int.reducePow] at hd
  obtain ⟨R3, hR3, hn3⟩ := preD_bind (show PreD R ((numF p 4 t2).bind _) E2 from KN2.out _ _ _ hS2)
  have K3 := Kept.mk (dnumR 4 (by omega) hR3 hB2)
  have KN3 := Kept.mk hn3
  have KF2 := Kept.mk (KF1.out.trans hF2)
  clear hS2 hB2 hF2 hR3 hn3 KN2 K2 KF1
  go_wp2_with fail
  refine Calls.mono K3.out (fun e w3 hp => ?_)
  obtain ⟨c, t3, E3, rfl, hc, hS3, hB3, hF3⟩ := hp
  simp only [Int.reducePow] at hc
  have KST := Kept.mk (KN3.out _ _ _ hS3)
  have KB3 := Kept.mk hB3
  have KF3 := Kept.mk (KF2.out.trans hF3)
  clear hS3 hB3 hF3 KN3 K3 KF2
  obtain ⟨ha0, ha1⟩ := ha
  obtain ⟨hd0, hd1⟩ := hd
  obtain ⟨hc0, hc1⟩ := hc
  obtain ⟨want, hwant⟩ : ∃ want : Nat, (a + 257 + d + 1).toNat = want := ⟨_, rfl⟩
  have hwi : a + 257 + d + 1 = (want : Int) := by omega
  have hw400 : want ≤ 400 := by omega
  have hw258 : 258 ≤ want := by omega
  have KST2 : Kept (PreD R (if 29 < a ∨ 29 < d then .bad .form else kO p a want (orderL.take (c + 4).toNat) (List.replicate 19 0) t3) E3) := ⟨by have := KST.out; unfold kC at this; rw [hwant] at this; exact this⟩
  clear KST hwant
  go_upto_region 2 with fail
  go_cut [26] from 21 to 26 (fun s26 wx => s26 = .bool (decide (29 < a) || decide (29 < d)) ∧ wx = w3)
  case first =>
    go_wp2_with fail
    all_goals go_meet
    all_goals (case rel => exact ⟨by simp_all, rfl⟩)
  case rest =>
  obtain ⟨rfl, rfl⟩ := hcut
  go_upto_if 26 with fail
  go_cut [26] from 21 to 28 (fun _ wx => ∃ Es, PreD R (kO p a want (orderL.take (c + 4).toNat) (List.replicate 19 0) t3) Es ∧ Bts W0 wx rb ob inV p most out t3 Es ∧ Fr rb ob w wx)
  case first =>
    have hx := KST2.out
    by_cases h29 : 29 < a ∨ 29 < d
    · rw [if_pos h29] at hx
      have KFA := Kept.mk (dfail_any KB3.out)
      obtain ⟨er, her1, her2⟩ := preD_fail hx
      have KE := Kept.mk her1
      have KE2 := Kept.mk her2
      have hcond : (decide (29 < a) || decide (29 < d)) = true := by simpa using h29
      clear hx her1 her2
      go_wp2_with (go_at_call 32; refine Calls.mono KFA.out (fun e w4 hp => ?_); obtain ⟨rfl, hB4, hF4⟩ := hp; have KB4 := Kept.mk hB4; have KF4 := Kept.mk hF4; clear hB4 hF4)
      all_goals go_meet
      all_goals (case rel => exact ⟨_, Or.inr ⟨er, KE.out, KE2.out⟩, KB4.out, KF3.out.trans KF4.out⟩)
    · rw [if_neg h29] at hx
      have KX := Kept.mk hx
      have hcond : (decide (29 < a) || decide (29 < d)) = false := by
        rw [Bool.eq_false_iff]
        simpa using h29
      clear hx
      go_wp2
      all_goals go_meet
      all_goals (case rel => exact ⟨_, KX.out, KB3.out, KF3.out⟩)
  case rest =>
    rename World => wm
    obtain ⟨Es, hst, hBs, hFs⟩ := hcut
    have hzs := hFs.size
    have KST := Kept.mk hst
    have KBs := Kept.mk hBs
    have KFs := Kept.mk hFs
    clear hst hBs hFs KST2 KB3 KF3
    go_wp2_with (at_make; refine wpList_make_ints _ rfl _ _ rfl 19 19 19 rfl rfl rfl rfl (by omega) ?_; intro w4 hbk hgr; have KBK := Kept.mk hbk; have KGR := Kept.mk hgr; clear hbk hgr)
    have hfb := KBK.out.lt
    have hk4 : ∀ k, k < wm.heap.size → w4.heap[k]? = wm.heap[k]? := fun k hk => KGR.out.block k hk (by simp)
    have hF4 : Fr rb ob w w4 := KFs.out.trans ⟨KGR.out.os, KGR.out.tape, KGR.out.output, by omega, fun k hk _ _ => hk4 k hk⟩
    have hB4 : Bts W0 w4 rb ob inV p most out t3 Es := KBs.out.keep (hk4 _ KBs.out.rb_lt) (fun k hk => hk4 _ (KBs.out.ob_ge k hk).2) (hF4.below KBW.out hrb0 (fun k hk => (KOB.out k hk).1) hbs)
    have KB4 := Kept.mk hB4
    have KF4 := Kept.mk hF4
    clear hk4 hF4 hB4 KGR KBs KFs
    refine Calls.mono (dorder_any w4) (fun e w5 hp => ?_)
    obtain ⟨rfl, hor, hb5⟩ := hp
    have hz5 := hb5.size
    obtain ⟨n, hn⟩ : ∃ n : Nat, c + 4 = n := ⟨(c + 4).toNat, by omega⟩
    have hn19 : n ≤ 19 := by omega
    have hobn : ∀ j, w.heap.size ≤ j → some j ≠ ob := fun j hj e => by have := (KOB.out j e.symm).2; omega
    have KOJ := Kept.mk hobn
    have K5 := Kept.mk (KB4.out.far hb5)
    have K6 := Kept.mk (KF4.out.trans (⟨hb5.os, hb5.tape, hb5.output, hb5.size, fun k hk _ _ => hb5.block k hk⟩ : Fr rb ob w4 w5))
    have K7 := Kept.mk (KBK.out.far (hb5.block _ hfb))
    have K8 := Kept.mk hor
    have K9 := Kept.mk KST.out
    rw [hn, Int.toNat_natCast] at K9
    clear hor hb5 hobn KST KB4 KF4 KBK
    go_wp2_with fail
    go_loopw [9] (fun s9 wr => ∃ (k tk : Nat) (acc : List Int) (Ek : Int), k ≤ n ∧ s9 = .int .i64 k ∧ acc.length = 19 ∧ AllIn 0 8 acc ∧ PreD R (kO p a want ((orderL.take n).drop k) acc tk) Ek ∧ Blk wr wm.heap.size acc ∧ Rd .i64 (fun b => b = w4.heap.size) wr (.slice (some ⟨w4.heap.size, 0, none⟩) 19 19) orderL ∧ Bts W0 wr rb ob inV p most out tk Ek ∧ Fr rb ob w wr) (fun s9 _ => n - (intOf s9).toNat)
    case atStart => exact ⟨0, t3, List.replicate 19 0, Es, by omega, rfl, by simp, by intro x hx; simp at hx; omega, K9.out, K7.out, K8.out, K5.out, K6.out⟩
    case round =>
      clear K5 K6 K7 K8 K9
      obtain ⟨k, tk, acc, Ek, hk, rfl, hal, hai, hst, hbk, hor, hB, hF⟩ := hrel
      have hzr := hbk.lt
      have hzo : w4.heap.size < wr.heap.size := by
        obtain ⟨b, off, cc, hv, hlt, -, -, hS, -⟩ := hor.open (by decide)
        injection hv with hv1
        injection hv1 with hv1
        injection hv1 with hv1
        omega
      have KA := Kept.mk hai
      have KST := Kept.mk hst
      have KBK := Kept.mk hbk
      have KOR := Kept.mk hor
      have KB := Kept.mk hB
      have KF := Kept.mk hF
      clear hai hst hbk hor hB hF
      by_cases hlt : k < n
      · clear hz5
        rename_i Q0 x21 x22 x23 x24 x25 K0 hK0
        revert hrb hrb0 hbs KOB KBW Q0 a d c want wm u21 u22 u23 u24 u25 u26 u27 u28 w4 n KOJ K0 wr u31 u32 u33 u34 u35 u36 u37 u38 u39 u40 u41 u42 u43 u44 k tk acc Ek
        exact KG1.out
      · have hkn : k = n := by omega
        have hx := KST.out
        rw [hkn, List.drop_of_length_le (by simp; omega)] at hx
        have hx2 : PreD R (kR p a want acc tk) Ek := hx
        have hlti : ¬ (k : Int) < c + 4 := by omega
        have hrd := KBK.out.rd (by omega)
        rw [hal] at hrd
        have hai16 : AllIn 0 16 acc := KA.out.mono (by omega) (by omega)
        have hrs := dright_same acc hai16 false
        rw [Bool.false_and, Bool.or_false] at hrs
        have hri := dright_any wr _ acc false hai16 (by omega) hrd
        rw [hrs] at hri
        have KRI := Kept.mk hri
        have KX := Kept.mk hx2
        have KA16 := Kept.mk hai16
        clear hx hkn KST hrd hai16 hrs hri hx2
        go_wp2_with fail
        refine Calls.mono KRI.out (fun e w7 hp => ?_)
        obtain ⟨rfl, rfl⟩ := hp
        go_upto_if 47 with fail
        go_cut [47] from 45 to 49 (fun _ wx => ∃ E', PreD R (kL p a want acc want [] tk) E' ∧ Bts W0 wx rb ob inV p most out tk E' ∧ Blk wx wm.heap.size acc ∧ Fr rb ob w wx)
        case first =>
          have hx := KX.out
          unfold kR at hx
          rcases hr : rightF (mkCd acc) with _ | _
          · rw [hr, if_neg (by simp)] at hx
            have KFA := Kept.mk (dfail_any KB.out)
            obtain ⟨er, her1, her2⟩ := preD_fail hx
            have KE := Kept.mk her1
            have KE2 := Kept.mk her2
            clear hx her1 her2
            go_wp2_with (go_at_call 32; refine Calls.mono KFA.out (fun e w4 hp => ?_); obtain ⟨rfl, hB4, hF4⟩ := hp; have KB4 := Kept.mk hB4; have KF4 := Kept.mk hF4; clear hB4 hF4)
            go_meet
            case rel => exact ⟨_, Or.inr ⟨er, KE.out, KE2.out⟩, KB4.out, KBK.out.far (KF4.out.block _ hzr (by omega) (KOJ.out _ (by omega))), KF.out.trans KF4.out⟩
          · rw [hr, if_pos rfl] at hx
            have KX2 := Kept.mk hx
            clear hx
            go_wp2
            go_meet
            case rel => exact ⟨_, KX2.out, KB.out, KBK.out, KF.out⟩
        case rest =>
          rename World => wx
          rename_i Q0 x21 x22 x23 x24 x25 K2 Q1 K1 hK1 K0 hK0
          clear hz5 hlti hzr hzo KBK KOR KB KF KRI KX KA hK1 K1
          revert hrb hrb0 hbs KOB KBW Q0 a d c want wm u21 u22 u23 u24 u25 u26 u27 u28 w4 n KOJ K2 u31 u32 u33 u34 u35 u36 u37 u38 u39 u40 u41 u42 u43 u44 k tk acc Q1 K0 wx u45 u46 u47 u48 u49
          exact KG2.out
end Go.Proofs.YtjijkcmbbccfmaaDoor
