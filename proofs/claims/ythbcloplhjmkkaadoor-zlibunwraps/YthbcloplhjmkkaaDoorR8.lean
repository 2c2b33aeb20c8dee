/-
  Walks: stored.
-/
import Derived.Test.YthbcloplhjmkkaaDoorR7
namespace Go.Proofs.YthbcloplhjmkkaaDoor
open Go.RowKit

section
variable {W0 w : World} {rb : Nat} {ob : Option Nat} {inV : Value} {p out : List Int} {most t : Nat}
theorem put_ok (b : Int) (hb0 : 0 ≤ b) (hb1 : b < 256) (hl : ¬ most ≤ out.length) (h : Rdr W0 w rb ob inV p most out t) :
    Calls Tryd.prog 29 #[.pointer (some ⟨rb, 0, none⟩), .int .u8 b] w fun e w' => e = .returned (.int .i64 0) ∧ ∃ ob', Rdr W0 w' rb ob' inV p most (out ++ [b]) t ∧ Mv rb ob ob' w w' := by
  have := put_any b hb0 hb1 h
  unfold putF at this
  rw [if_neg hl] at this
  exact this
theorem put_bad (b : Int) (hb0 : 0 ≤ b) (hb1 : b < 256) (hl : most ≤ out.length) (h : Rdr W0 w rb ob inV p most out t) :
    Calls Tryd.prog 29 #[.pointer (some ⟨rb, 0, none⟩), .int .u8 b] w fun e w' => e = .returned (.int .i64 10) ∧ Below W0.heap.size W0 w' := by
  have := put_any b hb0 hb1 h
  unfold putF at this
  rw [if_pos hl] at this
  exact this
/-- The rest of the byte at hand is left out. -/
theorem Rdr.align (h : Rdr W0 w rb ob inV p most out t) : Rdr W0 ((w.setCell ⟨rb, 2, none⟩ (.int .u32 0)).setCell ⟨rb, 3, none⟩ (.int .i64 0)) rb ob inV p most out ((t + 7) / 8 * 8) := by
  obtain ⟨at_, held, outV, hB, h1, h2, h3, own, hob⟩ := h.blk
  refine ⟨⟨at_, 0, outV, ?_, by omega, by omega, h3, ?_, hob⟩, (h.bel.setCell h.hb _).setCell h.hb _, h.hb, h.ho, h.rd, h.ap, h.ao, h.lp, h.hm, h.lo⟩
  · exact (hB.s2 0).s3 0
  · refine own.far fun g hg => ?_
    have hne : g ≠ rb := fun e => h.ho (by rw [← hob, hg, e])
    rw [Below.heap_setCell _ _ _ _ hne, Below.heap_setCell _ _ _ _ hne]
end

set_option maxHeartbeats 2000000 in
set_option maxRecDepth 100000 in
theorem stored_any {W0 w : World} {rb : Nat} {ob : Option Nat} {inV : Value} {p out : List Int} {most t : Nat} (h : Rdr W0 w rb ob inV p most out t) :
    Calls Tryd.prog 26 #[.pointer (some ⟨rb, 0, none⟩)] w fun e w' => AfterO W0 w w' rb ob inV p most (storedF p most out t) e := by
  obtain ⟨at0, held0, outV, hB, -⟩ := h.blk
  have c2 := hB.c2
  have c3 := hB.c3
  have f2 := hB.fz 2
  have f3 := hB.fz 3
  have KA := Kept.mk h.align
  have KH := Kept.mk h
  have KF : Kept (Fr rb ob w ((w.setCell ⟨rb, 2, none⟩ (.int .u32 0)).setCell ⟨rb, 3, none⟩ (.int .i64 0))) := ⟨((Fr.refl rb ob w).set 2 _).set 3 _⟩
  clear h hB
  rcases hq : numF p 16 ((t + 7) / 8 * 8) with ⟨l, t1⟩ | er
  · have K1 := Kept.mk (number_ok 16 hq (by omega) KA.out)
    obtain ⟨l0, l1, -, -⟩ := numF_ok hq
    simp only [Int.reducePow] at l1
    rcases hq2 : numF p 16 t1 with ⟨m, t2⟩ | er2
    · have K2 : Kept (∀ w1, Rdr W0 w1 rb ob inV p most out t1 → _) := ⟨fun w1 h1 => number_ok 16 hq2 (by omega) h1⟩
      have hx := xor_16 l l0 l1
      by_cases hm : m = 65535 - l
      · obtain ⟨n, rfl⟩ := Int.eq_ofNat_of_zero_le l0
        have KE : Kept (storedF p most out t = storedGo p most n out t2) := ⟨by unfold storedF; rw [hq]; dsimp only; rw [hq2]; dsimp only; rw [if_pos hm, Int.toNat_natCast]⟩
        subst hm
        clear hq hq2
        go_enter Tryd.func26, Tryd.ntmps26
        go_wp2_with fail
        refine Calls.mono K1.out (fun e w1 hp => ?_)
        obtain ⟨rfl, hR1, hF1⟩ := hp
        have K3 := Kept.mk (K2.out w1 hR1)
        have KF1 := Kept.mk (KF.out.trans hF1)
        clear hR1 hF1
        go_wp2_with fail
        refine Calls.mono K3.out (fun e w2 hp => ?_)
        obtain ⟨rfl, hR2, hF2⟩ := hp
        have KR2 := Kept.mk hR2
        have KF2 := Kept.mk (KF1.out.trans hF2)
        clear hR2 hF2
        go_wp2_with fail
        clear hx c2 c3 f2 f3
        go_loopw [35, 6, 7] (fun s35 _ _ wr => ∃ (i tk : Nat) (o : List Int) (ob' : Option Nat), s35 = .int .i64 i ∧ i ≤ n ∧ storedGo p most (n - i) o tk = storedGo p most n out t2 ∧ Rdr W0 wr rb ob' inV p most o tk ∧ Mv rb ob ob' w wr) (fun s35 _ _ _ => n - (intOf s35).toNat)
        case atStart => exact ⟨0, t2, out, ob, rfl, by omega, rfl, KR2.out, KF2.out.mv⟩
        case round =>
          obtain ⟨i, tk, o, ob', rfl, hi, hgo, hR, hM⟩ := hrel
          have KGO := Kept.mk hgo
          have KR := Kept.mk hR
          have KM := Kept.mk hM
          clear hgo hR hM
          by_cases hlt : i < n
          · have hlti : (i : Int) < (n : Int) := by omega
            have hG := KGO.out
            rw [show n - i = (n - (i + 1)) + 1 from by omega, storedGo] at hG
            rcases hq : numF p 8 tk with ⟨v, t3⟩ | er
            · rw [hq] at hG
              dsimp only at hG
              have K5 := Kept.mk (number_ok 8 hq (by omega) KR.out)
              obtain ⟨v0, v1, -, -⟩ := numF_ok hq
              simp only [Int.reducePow] at v1
              by_cases hfull : most ≤ o.length
              · rw [if_pos hfull] at hG
                have KE2 : Kept (storedF p most out t = .bad .limit) := ⟨by rw [KE.out, ← hG]⟩
                clear hG hq
                go_wp2_with fail
                refine Calls.mono K5.out (fun e w5 hp => ?_)
                obtain ⟨rfl, hR5, hF5⟩ := hp
                have K6 := Kept.mk (put_bad v v0 v1 hfull hR5)
                clear hR5 hF5
                go_wp2_with fail
                refine Calls.mono K6.out (fun e w6 hp => ?_)
                obtain ⟨rfl, hB6⟩ := hp
                have K7 := Kept.mk hB6
                clear hB6
                go_wp2
                go_ret
                unfold AfterO
                rw [KE2.out]
                exact ⟨rfl, K7.out⟩
              · rw [if_neg hfull] at hG
                have KG := Kept.mk hG
                clear hG hq
                go_wp2_with fail
                refine Calls.mono K5.out (fun e w5 hp => ?_)
                obtain ⟨rfl, hR5, hF5⟩ := hp
                have K6 := Kept.mk (put_ok v v0 v1 hfull hR5)
                have KM5 := Kept.mk (KM.out.trans hF5.mv)
                clear hR5 hF5
                go_wp2_with fail
                refine Calls.mono K6.out (fun e w6 hp => ?_)
                obtain ⟨rfl, ob6, hR6, hM6⟩ := hp
                have K7 := Kept.mk hR6
                have K8 := Kept.mk (KM5.out.trans hM6)
                clear hR6 hM6
                go_wp2
                go_roundw
                case rel => exact ⟨i + 1, t3, o ++ [v], ob6, by go_num, by omega, KG.out, K7.out, K8.out⟩
                case measure => simp [intOf]; omega
            · rw [hq] at hG
              have KE2 : Kept (storedF p most out t = .bad er) := ⟨by rw [KE.out, ← hG]⟩
              have K5 := Kept.mk (number_bad 8 hq (by omega) KR.out)
              have her := er.rng
              have hne : ¬ er.v = 0 := by omega
              clear hG hq
              go_wp2_with fail
              refine Calls.mono K5.out (fun e w5 hp => ?_)
              obtain ⟨rfl, hR5, -⟩ := hp
              have K6 := Kept.mk hR5
              clear hR5
              clear her l0 l1 KGO KR KM KE KA KH KF K1 K2 KR2 KF1 KF2 K3 hi hlt hlti
              go_wp2
              go_ret
              unfold AfterO
              rw [KE2.out]
              exact ⟨rfl, K6.out⟩
          · have KE2 : Kept (storedF p most out t = .ok o tk) := ⟨by rw [KE.out, ← KGO.out, show n - i = 0 from by omega, storedGo]⟩
            go_wp2
            go_ret
            unfold AfterO
            rw [KE2.out]
            exact ⟨rfl, ob', KR.out, KM.out⟩
      · have KE : Kept (storedF p most out t = .bad .form) := ⟨by unfold storedF; rw [hq]; dsimp only; rw [hq2]; dsimp only; rw [if_neg hm]⟩
        clear hq hq2
        go_enter Tryd.func26, Tryd.ntmps26
        go_wp2_with fail
        refine Calls.mono K1.out (fun e w1 hp => ?_)
        obtain ⟨rfl, hR1, hF1⟩ := hp
        have K3 := Kept.mk (K2.out w1 hR1)
        clear hR1 hF1
        go_wp2_with fail
        refine Calls.mono K3.out (fun e w2 hp => ?_)
        obtain ⟨rfl, hR2, hF2⟩ := hp
        have KR2 := Kept.mk hR2
        clear hR2 hF2
        go_wp2
        go_ret
        unfold AfterO
        rw [KE.out]
        exact ⟨rfl, KR2.out.bel⟩
    · have K2 : Kept (∀ w1, Rdr W0 w1 rb ob inV p most out t1 → _) := ⟨fun w1 h1 => number_bad 16 hq2 (by omega) h1⟩
      have KE : Kept (storedF p most out t = .bad er2) := ⟨by unfold storedF; rw [hq]; dsimp only; rw [hq2]⟩
      have her := er2.rng
      have hne : ¬ er2.v = 0 := by omega
      clear hq hq2
      go_enter Tryd.func26, Tryd.ntmps26
      go_wp2_with fail
      refine Calls.mono K1.out (fun e w1 hp => ?_)
      obtain ⟨rfl, hR1, hF1⟩ := hp
      have K3 := Kept.mk (K2.out w1 hR1)
      clear hR1 hF1
      go_wp2_with fail
      refine Calls.mono K3.out (fun e w2 hp => ?_)
      obtain ⟨rfl, hR2, -⟩ := hp
      have KR2 := Kept.mk hR2
      clear hR2
      go_wp2
      go_ret
      unfold AfterO
      rw [KE.out]
      exact ⟨rfl, KR2.out⟩
  · have K1 := Kept.mk (number_bad 16 hq (by omega) KA.out)
    have KE : Kept (storedF p most out t = .bad er) := ⟨by unfold storedF; rw [hq]⟩
    have her := er.rng
    have hne : ¬ er.v = 0 := by omega
    clear hq
    go_enter Tryd.func26, Tryd.ntmps26
    go_wp2_with fail
    refine Calls.mono K1.out (fun e w1 hp => ?_)
    obtain ⟨rfl, hR1, -⟩ := hp
    have KR2 := Kept.mk hR1
    clear hR1
    go_wp2
    go_ret
    unfold AfterO
    rw [KE.out]
    exact ⟨rfl, KR2.out⟩
end Go.Proofs.YthbcloplhjmkkaaDoor
