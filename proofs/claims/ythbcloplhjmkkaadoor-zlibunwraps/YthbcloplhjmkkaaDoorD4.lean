/-
  The document's reader: stored.
-/
import Derived.Test.YthbcloplhjmkkaaDoorD3
namespace Go.Proofs.YthbcloplhjmkkaaDoor
open Go.RowKit

/-- No form, if nothing was met. -/
def dfail (E : Int) : Int := if E = 0 then 4 else E
/-- n bytes of a block of way 0. -/
def dstGo (p : List Int) (most : Nat) : Nat → List Int → Nat → Int → List Int × Nat × Int
  | 0, out, t, E => (out, t, E)
  | n + 1, out, t, E => if E ≠ 0 then (out, t, E) else dstGo p most n (dput most (dnum p t E 8).1 out (dnum p t E 8).2.2).1 (dnum p t E 8).2.1 (dput most (dnum p t E 8).1 out (dnum p t E 8).2.2).2
theorem dstGo_off (p : List Int) (most : Nat) (n : Nat) (out : List Int) (t : Nat) (E : Int) (hE : E ≠ 0) : dstGo p most n out t E = (out, t, E) := by
  cases n with
  | zero => rfl
  | succ n => rw [dstGo, if_pos hE]
theorem Bts.cE {W0 w : World} {rb : Nat} {ob : Option Nat} {inV : Value} {p out : List Int} {most t : Nat} {E : Int} (h : Bts W0 w rb ob inV p most out t E) : w.cell? ⟨rb, 4, none⟩ = some (.int .i64 E) := by
  obtain ⟨_, hB, -⟩ := h.blk
  exact hB.c4
set_option maxHeartbeats 1000000 in
set_option maxRecDepth 100000 in
theorem dstored_any {W0 w : World} {rb : Nat} {ob : Option Nat} {inV : Value} {p out : List Int} {most t : Nat} (h : Bts W0 w rb ob inV p most out t 0)
    (n m E2 E3 : Int) (t2 t3 : Nat) (hn : dnum p ((t + 7) / 8 * 8) 0 16 = (n, t2, E2)) (hm : dnum p t2 E2 16 = (m, t3, E3)) :
    Calls Tryd.prog 19 #[.pointer (some ⟨rb, 0, none⟩)] w fun e w' => e = .returned (.tuple #[]) ∧ ∃ ob', Bts W0 w' rb ob' inV p most (dstGo p most n.toNat out t3 (if n + m = 65535 then E3 else dfail E3)).1 (dstGo p most n.toNat out t3 (if n + m = 65535 then E3 else dfail E3)).2.1 (dstGo p most n.toNat out t3 (if n + m = 65535 then E3 else dfail E3)).2.2 ∧ Mv rb ob ob' w w' := by
  have hnr := dnum_range p ((t + 7) / 8 * 8) 0 16
  have hmr := dnum_range p t2 E2 16
  rw [hn] at hnr
  rw [hm] at hmr
  dsimp only at hnr hmr
  obtain ⟨outV, hB, -⟩ := h.blk
  have c1 := hB.c1
  have f1 := hB.fz 1
  have htl := h.tle
  have hlp := h.lp
  obtain ⟨a, ha⟩ : ∃ a, (t + 7) / 8 * 8 = a := ⟨_, rfl⟩
  have hq : ((t : Int) + 7) / 8 * 8 = (a : Int) := by omega
  have hal : a ≤ 8 * p.length := by omega
  rw [ha] at hn
  have KN := Kept.mk hn
  have KM := Kept.mk hm
  have KH := Kept.mk h
  clear h hB hn hm ha
  have K1 := Kept.mk (dnumber_any 16 (by omega) (KH.out.at a hal))
  rw [KN.out] at K1
  dsimp only at K1
  have K2 : Kept (∀ w1, Bts W0 w1 rb ob inV p most out t2 E2 → _) := ⟨fun w1 h1 => dnumber_any 16 (by omega) h1⟩
  rw [KM.out] at K2
  dsimp only at K2
  have KF : Kept (Fr rb ob w (w.setCell ⟨rb, 1, none⟩ (.int .i64 a))) := ⟨(Fr.refl rb ob w).set 1 _⟩
  obtain ⟨n, rfl⟩ := Int.eq_ofNat_of_zero_le hnr.1
  rw [Int.toNat_natCast]
  simp only [Int.reducePow] at hnr hmr
  by_cases hsum : (n : Int) + m = 65535
  · rw [if_pos hsum]
    have hm2 : m = 65535 - (n : Int) := by omega
    subst hm2
    clear hsum
    have hs2 : (n : Int) + (65535 - (n : Int)) = 65535 := by omega
    go_enter Tryd.func19, Tryd.ntmps19
    go_wp2_with fail
    refine Calls.mono K1.out (fun e w1 hp => ?_)
    obtain ⟨rfl, hR1, hF1⟩ := hp
    have K3 := Kept.mk (K2.out w1 hR1)
    have KF1 := Kept.mk (KF.out.trans hF1)
    clear hR1 hF1
    go_wp2_with fail
    refine Calls.mono K3.out (fun e w2 hp => ?_)
    obtain ⟨rfl, hR2, hF2⟩ := hp
    have KR2 := Kept.mk hR2
    have KF2 := Kept.mk (KF1.out.trans hF2)
    clear hR2 hF2
    go_wp2_with fail
    clear c1 f1 hq
    go_loopw [4, 5] (fun s4 _ wr => ∃ (i tk : Nat) (o : List Int) (ob' : Option Nat) (E' : Int), s4 = .int .i64 i ∧ i ≤ n ∧ dstGo p most (n - i) o tk E' = dstGo p most n out t3 (E3) ∧ Bts W0 wr rb ob' inV p most o tk E' ∧ Mv rb ob ob' w wr) (fun s4 _ _ => n - (intOf s4).toNat)
    case atStart => exact ⟨0, t3, out, ob, _, rfl, by omega, rfl, KR2.out, KF2.out.mv⟩
    case round =>
      obtain ⟨i, tk, o, ob', E', rfl, hi, hgo, hR, hM⟩ := hrel
      have c4 := hR.cE
      have KGO := Kept.mk hgo
      have KR := Kept.mk hR
      have KM := Kept.mk hM
      clear hgo hR hM
      by_cases hlt : i < n
      · have hlti : (i : Int) < (n : Int) := by omega
        by_cases hE' : E' = 0
        · subst hE'
          have hG := KGO.out
          rw [show n - i = (n - (i + 1)) + 1 from by omega, dstGo, if_neg (by simp)] at hG
          have hvr := dnum_range p tk 0 8
          have K5 := Kept.mk (dnumber_any 8 (by omega) KR.out)
          rcases hd : dnum p tk 0 8 with ⟨v, t4, E4⟩
          rw [hd] at hG hvr K5
          dsimp only at hG hvr K5
          simp only [Int.reducePow] at hvr
          have KG := Kept.mk hG
          clear hG hd
          go_wp2_with fail
          refine Calls.mono K5.out (fun e w5 hp => ?_)
          obtain ⟨rfl, hR5, hF5⟩ := hp
          have K6 := Kept.mk (dput_any v hvr.1 hvr.2 hR5)
          have KM5 := Kept.mk (KM.out.trans hF5.mv)
          clear hR5 hF5
          go_wp2_with fail
          refine Calls.mono K6.out (fun e w6 hp => ?_)
          obtain ⟨rfl, ob6, hR6, hM6⟩ := hp
          have K7 := Kept.mk hR6
          have K8 := Kept.mk (KM5.out.trans hM6)
          clear hR6 hM6
          go_wp2
          go_roundw
          case rel => exact ⟨i + 1, t4, _, ob6, _, by go_num, by omega, KG.out, K7.out, K8.out⟩
          case measure => simp [intOf]; omega
        · have KE2 := Kept.mk (KGO.out.symm.trans (dstGo_off p most _ o tk E' hE'))
          go_wp2
          refine bodyPost_end (results_none rfl _ _ _) rfl ?_
          rw [KE2.out]
          exact ⟨rfl, ob', KR.out, KM.out⟩
      · have KE2 : Kept (dstGo p most n out t3 (E3) = (o, tk, E')) := ⟨by rw [← KGO.out, show n - i = 0 from by omega, dstGo]⟩
        go_wp2
        refine bodyPost_end (results_none rfl _ _ _) rfl ?_
        rw [KE2.out]
        exact ⟨rfl, ob', KR.out, KM.out⟩
  · rw [if_neg hsum]
    go_enter Tryd.func19, Tryd.ntmps19
    go_wp2_with fail
    refine Calls.mono K1.out (fun e w1 hp => ?_)
    obtain ⟨rfl, hR1, hF1⟩ := hp
    have K3 := Kept.mk (K2.out w1 hR1)
    have KF1 := Kept.mk (KF.out.trans hF1)
    clear hR1 hF1
    go_wp2_with fail
    refine Calls.mono K3.out (fun e w2 hp => ?_)
    obtain ⟨rfl, hR2, hF2⟩ := hp
    have KR2 := Kept.mk hR2
    have KF2 := Kept.mk (KF1.out.trans hF2)
    clear hR2 hF2
    go_wp2_with fail
    refine Calls.mono (dfail_any KR2.out) (fun e w3 hp => ?_)
    obtain ⟨rfl, hR3, hF3⟩ := hp
    have KR3 := Kept.mk hR3
    have KF3 := Kept.mk (KF2.out.trans hF3)
    clear hR3 hF3 KR2 KF2
    have KR2 := KR3
    have KF2 := KF3
    go_wp2_with fail
    clear c1 f1 hq
    go_loopw [4, 5] (fun s4 _ wr => ∃ (i tk : Nat) (o : List Int) (ob' : Option Nat) (E' : Int), s4 = .int .i64 i ∧ i ≤ n ∧ dstGo p most (n - i) o tk E' = dstGo p most n out t3 (dfail E3) ∧ Bts W0 wr rb ob' inV p most o tk E' ∧ Mv rb ob ob' w wr) (fun s4 _ _ => n - (intOf s4).toNat)
    case atStart => exact ⟨0, t3, out, ob, _, rfl, by omega, rfl, KR2.out, KF2.out.mv⟩
    case round =>
      obtain ⟨i, tk, o, ob', E', rfl, hi, hgo, hR, hM⟩ := hrel
      have c4 := hR.cE
      have KGO := Kept.mk hgo
      have KR := Kept.mk hR
      have KM := Kept.mk hM
      clear hgo hR hM
      by_cases hlt : i < n
      · have hlti : (i : Int) < (n : Int) := by omega
        by_cases hE' : E' = 0
        · subst hE'
          have hG := KGO.out
          rw [show n - i = (n - (i + 1)) + 1 from by omega, dstGo, if_neg (by simp)] at hG
          have hvr := dnum_range p tk 0 8
          have K5 := Kept.mk (dnumber_any 8 (by omega) KR.out)
          rcases hd : dnum p tk 0 8 with ⟨v, t4, E4⟩
          rw [hd] at hG hvr K5
          dsimp only at hG hvr K5
          simp only [Int.reducePow] at hvr
          have KG := Kept.mk hG
          clear hG hd
          go_wp2_with fail
          refine Calls.mono K5.out (fun e w5 hp => ?_)
          obtain ⟨rfl, hR5, hF5⟩ := hp
          have K6 := Kept.mk (dput_any v hvr.1 hvr.2 hR5)
          have KM5 := Kept.mk (KM.out.trans hF5.mv)
          clear hR5 hF5
          go_wp2_with fail
          refine Calls.mono K6.out (fun e w6 hp => ?_)
          obtain ⟨rfl, ob6, hR6, hM6⟩ := hp
          have K7 := Kept.mk hR6
          have K8 := Kept.mk (KM5.out.trans hM6)
          clear hR6 hM6
          go_wp2
          go_roundw
          case rel => exact ⟨i + 1, t4, _, ob6, _, by go_num, by omega, KG.out, K7.out, K8.out⟩
          case measure => simp [intOf]; omega
        · have KE2 := Kept.mk (KGO.out.symm.trans (dstGo_off p most _ o tk E' hE'))
          go_wp2
          refine bodyPost_end (results_none rfl _ _ _) rfl ?_
          rw [KE2.out]
          exact ⟨rfl, ob', KR.out, KM.out⟩
      · have KE2 : Kept (dstGo p most n out t3 (dfail E3) = (o, tk, E')) := ⟨by rw [← KGO.out, show n - i = 0 from by omega, dstGo]⟩
        go_wp2
        refine bodyPost_end (results_none rfl _ _ _) rfl ?_
        rw [KE2.out]
        exact ⟨rfl, ob', KR.out, KM.out⟩
end Go.Proofs.YthbcloplhjmkkaaDoor
