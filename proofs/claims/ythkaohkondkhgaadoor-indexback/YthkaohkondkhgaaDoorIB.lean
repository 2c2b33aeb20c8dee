/-
  IndexBack's walk.
-/
import Derived.Test.YthkaohkondkhgaaDoorIA
import Derived.Laws.OwnMore
import Derived.Laws.BitsAllLaws
namespace Go.Proofs.YthkaohkondkhgaaDoor
open Go.RowKit

theorem Own.setq {k : IntKind} {e : TypeId} {w : World} {base g n c : Nat} {xs : List Int} (h : Own k e w base (.slice (some ⟨g, 0, none⟩) n c) xs) (j : Nat) (x : Int) : Own k e (w.setCell ⟨g, j, none⟩ (.int k x)) base (.slice (some ⟨g, 0, none⟩) n c) (xs.set j x) := by
  have hn : n = xs.length := by
    obtain ⟨a', c', hv, -⟩ := h.rd.form
    injection hv
  subst hn
  have := World.ownsRow.stored h j (.int k x)
  unfold Own
  rw [List.length_set]
  have e2 : cellsK k (xs.set j x) = (cellsK k xs).set j (.int k x) := by simp [cellsK, List.map_set]
  rw [e2]
  exact this.1

/-- Where what is owned lies. -/
theorem Own.addrq {k : IntKind} {e : TypeId} {w : World} {base n c : Nat} {a : Option Addr} {xs : List Int} (h : Own k e w base (.slice a n c) xs) (h0 : 0 < xs.length) :
    ∃ g, a = some ⟨g, 0, none⟩ ∧ n = xs.length ∧ base ≤ g ∧ g < w.heap.size ∧ (∀ i, i < xs.length → w.cell? ⟨g, i, none⟩ = some (.int k (xs.getD i 0))) ∧ ∀ i, w.frozen? ⟨g, i, none⟩ = false := by
  have hlen : n = xs.length := by
    obtain ⟨a', c', hv, -⟩ := h.rd.form
    injection hv
  rcases h.2 with ⟨hv, hn⟩ | ⟨g, cap, cur, hv, hbg, hg, hnc, hcm, hcs, htake⟩
  · omega
  · injection hv with h1 h2 h3
    subst h1
    refine ⟨g, rfl, hlen, hbg, (h.lt g rfl).2, fun i hi => ?_, fun i => by simp [World.frozen?, hg]⟩
    have hk := World.ownsRow.cells h (g := g) rfl i (.int k (xs.getD i 0)) (by simp [cellsK, List.getElem?_eq_getElem hi, List.getD])
    rw [add_plain, Nat.zero_add] at hk
    exact hk
theorem xor_ne {x b : Int} (h0 : 0 ≤ x) (h1 : x < 256) (b0 : 0 < b) (b1 : b < 256) : ¬ bits .xor .u8 x b = x ∧ 0 ≤ bits .xor .u8 x b ∧ bits .xor .u8 x b < 256 := by
  rw [u8_xor x b h0 h1 (by omega) b1]
  have hlt : x.toNat ^^^ b.toNat < 2 ^ 8 := Nat.xor_lt_two_pow (by omega) (by omega)
  refine ⟨fun e => ?_, by omega, by omega⟩
  have e1 : x.toNat ^^^ b.toNat = x.toNat := by omega
  have e2 : x.toNat ^^^ (x.toNat ^^^ b.toNat) = b.toNat := by rw [← Nat.xor_assoc, Nat.xor_self, Nat.zero_xor]
  rw [e1, Nat.xor_self] at e2
  omega
theorem prs_turn {es : List SlC} (hok : ∀ e ∈ es, e.ok) (h : chkE es = 0) {S : List Int} (hl : S.length = 32) (hne : ¬ sumB (bodL es) = S) : prsE (bodL es ++ S) = 6 := by
  have hb := bod_len hok h
  have hpl := put_len h
  have hX : (bodL es ++ S).length = (bodL es).length + 32 := by rw [List.length_append, hl]
  have hn : (bodL es ++ S).length - 32 = (bodL es).length := by omega
  have hS : prsS (bodL es ++ S) = es := by
    unfold prsS
    rw [hn, List.take_left]
    unfold bodL
    rw [List.drop_append_of_le_length (by rw [List.length_append, Nu.bigF_length]; show 12 ≤ 8 + 4; omega), List.drop_of_length_le (by rw [List.length_append, Nu.bigF_length]; show 8 + 4 ≤ 12; omega), List.nil_append]
    exact slots_flat (fit_of hok h)
  have hP : putF es = bodL es ++ sumB (bodL es) := by unfold putF; rw [if_pos h]
  unfold prsE
  rw [hS, hn, if_neg (by omega), if_neg (by omega), if_neg (by simp [h]), if_neg (by omega), hP, List.take_left, List.take_left, if_neg (by simp), List.drop_left, List.drop_left, if_pos hne]
theorem turn_set {es : List SlC} {j : Nat} {y : Int} (h : chkE es = 0) (hj : j < 32) : (putF es).set ((bodL es).length + j) y = bodL es ++ (sumB (bodL es)).set j y ∧ (putF es).getD ((bodL es).length + j) 0 = (sumB (bodL es)).getD j 0 := by
  have hP : putF es = bodL es ++ sumB (bodL es) := by unfold putF; rw [if_pos h]
  rw [hP]
  refine ⟨?_, ?_⟩
  · rw [List.set_append_right _ _ (by omega), Nat.add_sub_cancel_left]
  · simp only [List.getD]
    rw [List.getElem?_append_right (by omega), Nat.add_sub_cancel_left]
theorem allB_set {xs : List Int} (h : AllIn 0 256 xs) (j : Nat) {y : Int} (h0 : 0 ≤ y) (h1 : y < 256) : AllIn 0 256 (xs.set j y) := by
  intro x hx
  rcases List.mem_or_eq_of_mem_set hx with hx | rfl
  · exact h x hx
  · exact ⟨h0, h1⟩
set_option maxHeartbeats 4000000 in
set_option maxRecDepth 100000 in
/-- The law's second half: what is parsed is put as it was. -/
theorem ixback_walk (v u : Value) (es : List SlC) (xs : List Int) (by_ at_ : Int) (w : World) (hg : Gl w) (hr : RdZ w v es) (hx : Rd .u8 anyB w u xs) (hA : AllB xs) (hle : es.length * 80 ≤ 140737488355328) (hlx : xs.length + 4096 ≤ 140737488355328) (hb : 0 ≤ by_ ∧ by_ ≤ 255) (ha : -9223372036854775808 ≤ at_ ∧ at_ ≤ 9223372036854775807) :
    Calls Tryd.prog 5 #[v, u, .int .u8 by_, .int .i64 at_] w fun e w' => e = .returned (.bool true) ∧ Below w.heap.size w w' := by
  have KA := Kept.mk (awake_any w hg)
  have KG := Kept.mk hg
  have KR := Kept.mk hr
  have KX := Kept.mk hx
  have KAx := Kept.mk hA
  have Kok := Kept.mk hr.ok
  obtain ⟨a, c, hv, hlc, -⟩ := hr
  subst hv
  obtain ⟨ua, uc, rfl, -, huc, -⟩ := hx.form
  clear hg hx hA
  by_cases h200 : 200 < es.length
  · have h2i : (200 : Int) < (es.length : Int) := by omega
    clear h200
    go_enter Tryd.func5, Tryd.ntmps5
    go_wp2_with fail
    refine Calls.mono KA.out (fun x w1 hp => ?_)
    obtain ⟨rfl, hb1⟩ := hp
    have KB1 := Kept.mk hb1
    clear hb1 KA
    go_wp2
    go_ret
    exact ⟨rfl, KB1.out⟩
  · have h2i : ¬ (200 : Int) < (es.length : Int) := by omega
    by_cases h10 : 10000 < xs.length
    · have h1i : (10000 : Int) < (xs.length : Int) := by omega
      clear h200 h10
      go_enter Tryd.func5, Tryd.ntmps5
      go_wp2_with fail
      refine Calls.mono KA.out (fun x w1 hp => ?_)
      obtain ⟨rfl, hb1⟩ := hp
      have KB1 := Kept.mk hb1
      clear hb1 KA
      go_wp2
      go_ret
      exact ⟨rfl, KB1.out⟩
    · have h1i : ¬ (10000 : Int) < (xs.length : Int) := by omega
      have Kl200 : Kept (es.length ≤ 200) := ⟨by omega⟩
      have Klx : Kept (xs.length ≤ 10000) := ⟨by omega⟩
      clear h200 h10
      go_enter Tryd.func5, Tryd.ntmps5
      go_wp2_with fail
      refine Calls.mono KA.out (fun x w1 hp => ?_)
      obtain ⟨rfl, hb1⟩ := hp
      have KB1 := Kept.mk hb1
      have KP := Kept.mk (put_any _ es w1 (KG.out.later hb1) (KR.out.later hb1) (by have := Kl200.out; omega))
      clear hb1 KA
      go_wp2_with fail
      refine Calls.mono KP.out (fun x w2 hp => ?_)
      obtain ⟨v2, rfl, hO2, hb2⟩ := hp
      obtain ⟨a2, c2, rfl, -⟩ := hO2.rd.form
      have KO2 := Kept.mk hO2
      have KB2 := Kept.mk (KB1.out.trans (hb2.mono KB1.out.size))
      have KB12 := Kept.mk hb2
      clear hO2 hb2 KP
      obtain ⟨E, hE⟩ : ∃ E, chkE es = E := ⟨_, rfl⟩
      have KE := Kept.mk hE
      rw [hE]
      clear hE
      by_cases hE0 : E = 0
      · subst hE0
        obtain ⟨hpe, hpl⟩ := prs_put Kok.out KE.out
        have Kpl := Kept.mk (put_len KE.out)
        have Kbl := Kept.mk (bod_len Kok.out KE.out)
        have KAp := Kept.mk (all_put Kok.out)
        have KP2 := Kept.mk (parse_any _ (putF es) w2 (KG.out.later KB2.out) KO2.out.rd KAp.out)
        rw [hpe, hpl] at KP2
        have hq44 : ¬ ((putF es).length : Int) < 44 := by have := Kpl.out; have := Kbl.out; omega
        obtain ⟨Q, hQ⟩ : ∃ Q, putF es = Q := ⟨_, rfl⟩
        have KQ := Kept.mk hQ
        rw [hQ] at KO2 Kpl KAp KP2 hq44 ⊢
        clear hpe hpl hQ
        go_wp2_with fail
        refine Calls.mono KP2.out (fun x w3 hp => ?_)
        obtain ⟨v3, rfl, hO3, hb3⟩ := hp
        obtain ⟨a3, c3, rfl, -⟩ := hO3.form
        have KB3 := Kept.mk (KB2.out.trans (hb3.mono KB2.out.size))
        have KSz := Kept.mk (sameZ_any _ _ es w3 hO3.rd (KR.out.later KB3.out) (by have := Kl200.out; omega))
        have KO3 := Kept.mk (KO2.out.later hb3 (Nat.le_refl _))
        clear hO3 hb3 KP2 KO2
        go_wp2_with fail
        refine Calls.mono KSz.out (fun x w4 hp => ?_)
        obtain ⟨rfl, hb4⟩ := hp
        have KB4 := Kept.mk (KB3.out.trans (hb4.mono KB3.out.size))
        have KO4 := Kept.mk ((KO3.out.later hb4 (Nat.le_refl _)).mono KB1.out.size)
        clear hb4 KSz KO3
        by_cases hby : by_ = 0
        · have hbb : (by_ != 0) = false := by simp [hby]
          clear hby
          have KTw := Kept.mk (Nu.twin_any _ xs w4 (nuRd (KX.out.later KB4.out (Nat.le_refl _)) KAx.out) (by have := Klx.out; omega))
          go_wp2_with fail
          refine Calls.mono KTw.out (fun x t1 hp => ?_)
          obtain ⟨vt, rfl, hOt, hbt⟩ := hp
          have hOt2 : Own .u8 5 t1 w4.heap.size vt xs := hOt
          obtain ⟨at1, ct1, rfl, -⟩ := hOt2.rd.form
          have KBt := Kept.mk (KB4.out.trans (hbt.mono KB4.out.size))
          have KPt := Kept.mk (parse_any _ xs t1 (KG.out.later KBt.out) hOt2.rd KAx.out)
          obtain ⟨PE, hPE⟩ : ∃ PE, prsE xs = PE := ⟨_, rfl⟩
          obtain ⟨PL, hPL⟩ : ∃ PL, prsL xs = PL := ⟨_, rfl⟩
          have KpE : Kept (¬ PE = 0 → PL = []) := ⟨fun h => by rw [← hPL]; unfold prsL; rw [if_neg (by rw [hPE]; exact h)]⟩
          have KpP : Kept (PE = 0 → chkE PL = 0 ∧ putF PL = xs) := ⟨fun h => by rw [← hPL]; exact put_prs (by rw [hPE]; exact h)⟩
          have KpL : Kept (PL.length ≤ 4398046511104) := ⟨by
            rw [← hPL]
            unfold prsL
            split
            · have h := slotsF_len _ _ (Nat.le_refl ((xs.take (xs.length - 32)).drop 12).length)
              rw [List.length_drop, List.length_take] at h
              have := Klx.out
              unfold prsS
              omega
            · simp⟩
          rw [hPE, hPL] at KPt
          clear hOt hOt2 hbt KTw hPE hPL
          go_wp2_with fail
          refine Calls.mono KPt.out (fun x t2 hp => ?_)
          obtain ⟨vm, rfl, hOm, hbm⟩ := hp
          obtain ⟨am, cm, rfl, -⟩ := hOm.form
          have KOm := Kept.mk hOm
          have KBm := Kept.mk (KBt.out.trans (hbm.mono KBt.out.size))
          clear hOm hbm KPt
          by_cases hPE : PE = 0
          · subst hPE
            obtain ⟨hck, hpf⟩ := KpP.out rfl
            have KPm := Kept.mk (put_any _ PL t2 (KG.out.later KBm.out) KOm.out.rd KpL.out)
            rw [hck, hpf] at KPm
            have Kck := Kept.mk hck
            clear hck hpf
            go_wp2_with fail
            refine Calls.mono KPm.out (fun x t3 hp => ?_)
            obtain ⟨vq, rfl, hOq, hbq⟩ := hp
            obtain ⟨aq, cq, rfl, -⟩ := hOq.rd.form
            have KBq := Kept.mk (KBm.out.trans (hbq.mono KBm.out.size))
            have KSm := Kept.mk (Nu.same_any _ _ xs xs t3 (nuRd hOq.rd KAx.out) (nuRd (KX.out.later KBq.out (Nat.le_refl _)) KAx.out))
            rw [decide_eq_true rfl] at KSm
            have KRm := Kept.mk (KOm.out.rd.later hbq)
            clear hOq hbq KPm
            go_wp2_with fail
            refine Calls.mono KSm.out (fun x t4 hp => ?_)
            obtain ⟨rfl, rfl⟩ := hp
            have KCm := Kept.mk (check_any _ PL t4 (KG.out.later KBq.out) KRm.out KpL.out)
            rw [Kck.out] at KCm
            clear KSm
            go_wp2_with fail
            refine Calls.mono KCm.out (fun x t5 hp => ?_)
            obtain ⟨rfl, hb5⟩ := hp
            have KB5 := Kept.mk (KBq.out.trans (hb5.mono KBq.out.size))
            clear hb5 KCm
            go_wp2
            go_ret
            exact ⟨rfl, KB5.out⟩
          · have hPb : (PE != 0) = true := by simpa using hPE
            have hPL := KpE.out hPE
            subst hPL
            clear hPE
            go_wp2
            go_ret
            exact ⟨rfl, KBm.out⟩
        · have hbb : (by_ != 0) = true := by simpa using hby
          by_cases hat : 0 ≤ at_
          · have hai : 0 ≤ at_ := hat
            have hm0 : 0 ≤ at_ % 32 ∧ at_ % 32 < 32 := by omega
            obtain ⟨J, hJ⟩ : ∃ J : Nat, (J : Int) = 31 - at_ % 32 := ⟨(31 - at_ % 32).toNat, by omega⟩
            have hJ32 : J < 32 := by omega
            obtain ⟨N, hN⟩ : ∃ N, (bodL es).length = N := ⟨_, rfl⟩
            have hQl : Q.length = N + 32 := by rw [Kpl.out, hN]
            have hNb : N ≤ 1200000 := by have := Kbl.out; omega
            obtain ⟨hts, htg⟩ := turn_set (y := 0) KE.out hJ32
            obtain ⟨g, rfl, -, hgw, hgl, hcell, hfz⟩ := KO4.out.addrq (by omega)
            have hxv := (all_sum (bodL es)).getD (by omega) J
            obtain ⟨X, hX⟩ : ∃ X, (sumB (bodL es)).getD J 0 = X := ⟨_, rfl⟩
            rw [hX] at hxv htg
            rw [hN, KQ.out] at htg
            have hc1 : w4.cell? ⟨g, N + J, none⟩ = some (.int .u8 X) := by rw [hcell (N + J) (by omega), htg]
            have hf1 := hfz (N + J)
            obtain ⟨hx1, hx2, hx3⟩ := xor_ne hxv.1 hxv.2 (show 0 < by_ by omega) (show by_ < 256 by omega)
            obtain ⟨Y, hY⟩ : ∃ Y, bits .xor .u8 X by_ = Y := ⟨_, rfl⟩
            rw [hY] at hx1 hx2 hx3
            have KT : Kept (Own .u8 5 (w4.setCell ⟨g, N + J, none⟩ (.int .u8 Y)) w.heap.size (.slice (some ⟨g, 0, none⟩) Q.length c2) (Q.set (N + J) Y)) := ⟨KO4.out.setq (N + J) Y⟩
            have KSet : Kept (Q.set (N + J) Y = bodL es ++ (sumB (bodL es)).set J Y) := ⟨by rw [← KQ.out, ← hN]; exact (turn_set KE.out hJ32).1⟩
            have K6 : Kept (prsE (Q.set (N + J) Y) = 6) := ⟨by
              rw [KSet.out]
              refine prs_turn Kok.out KE.out (by rw [List.length_set]; exact sumB_len _) (fun h => hx1 ?_)
              have : (sumB (bodL es)).getD J 0 = ((sumB (bodL es)).set J Y).getD J 0 := by rw [← h]
              rw [hX] at this
              rw [this]
              simp [List.getD, sumB_len, hJ32]⟩
            have KA6 := Kept.mk (allB_set KAp.out (N + J) hx2 hx3)
            have KB6 : Kept (Below w.heap.size w (w4.setCell ⟨g, N + J, none⟩ (.int .u8 Y))) := ⟨KB4.out.setCell hgw _⟩
            have e1 : IntKind.i64.wrap ((Q.length : Int) - 1) = (Q.length : Int) - 1 := wr64 (by omega) (by omega)
            have e2 : IntKind.i64.wrap ((Q.length : Int) - 1 - at_ % 32) = ((N + J : Nat) : Int) := by rw [wr64 (by omega) (by omega)]; omega
            have hlt : ((N + J : Nat) : Int) < (Q.length : Int) := by omega
            have hl6 : (Q.set (N + J) Y).length = Q.length := List.length_set
            have Kl6 := Kept.mk hl6
            clear hcell hfz htg hts hJ hm0 hx1 hx2 hx3 hX hN hl6
            obtain ⟨I, hI⟩ : ∃ I, N + J = I := ⟨_, rfl⟩
            rw [hI] at hc1 hf1 KT K6 KA6 KB6 e2 hlt Kl6
            have hQc : (Q.length : Int) ≤ 2000000 := by omega
            clear hI hQl hNb hJ32 KSet
            go_upto_region 12 with fail
            generalize w4.setCell ⟨g, I, none⟩ (.int .u8 Y) = w5 at *
            have KP6 := Kept.mk (parse_any _ (Q.set I Y) w5 (KG.out.later KB6.out) KT.out.rd KA6.out)
            rw [K6.out] at KP6
            clear hc1 hf1 e1 e2 hlt
            go_wp2_with fail
            refine Calls.mono KP6.out (fun x w6 hp => ?_)
            obtain ⟨v6, rfl, -, hb6⟩ := hp
            have KB7 := Kept.mk (KB6.out.trans (hb6.mono KB6.out.size))
            clear hb6 KP6
            have KTw := Kept.mk (Nu.twin_any _ xs w6 (nuRd (KX.out.later KB7.out (Nat.le_refl _)) KAx.out) (by have := Klx.out; omega))
            go_wp2_with fail
            refine Calls.mono KTw.out (fun x t1 hp => ?_)
            obtain ⟨vt, rfl, hOt, hbt⟩ := hp
            have hOt2 : Own .u8 5 t1 w6.heap.size vt xs := hOt
            obtain ⟨at1, ct1, rfl, -⟩ := hOt2.rd.form
            have KBt := Kept.mk (KB7.out.trans (hbt.mono KB7.out.size))
            have KPt := Kept.mk (parse_any _ xs t1 (KG.out.later KBt.out) hOt2.rd KAx.out)
            obtain ⟨PE, hPE⟩ : ∃ PE, prsE xs = PE := ⟨_, rfl⟩
            obtain ⟨PL, hPL⟩ : ∃ PL, prsL xs = PL := ⟨_, rfl⟩
            have KpE : Kept (¬ PE = 0 → PL = []) := ⟨fun h => by rw [← hPL]; unfold prsL; rw [if_neg (by rw [hPE]; exact h)]⟩
            have KpP : Kept (PE = 0 → chkE PL = 0 ∧ putF PL = xs) := ⟨fun h => by rw [← hPL]; exact put_prs (by rw [hPE]; exact h)⟩
            have KpL : Kept (PL.length ≤ 4398046511104) := ⟨by
              rw [← hPL]
              unfold prsL
              split
              · have h := slotsF_len _ _ (Nat.le_refl ((xs.take (xs.length - 32)).drop 12).length)
                rw [List.length_drop, List.length_take] at h
                have := Klx.out
                unfold prsS
                omega
              · simp⟩
            rw [hPE, hPL] at KPt
            clear hOt hOt2 hbt KTw hPE hPL
            go_wp2_with fail
            refine Calls.mono KPt.out (fun x t2 hp => ?_)
            obtain ⟨vm, rfl, hOm, hbm⟩ := hp
            obtain ⟨am, cm, rfl, -⟩ := hOm.form
            have KOm := Kept.mk hOm
            have KBm := Kept.mk (KBt.out.trans (hbm.mono KBt.out.size))
            clear hOm hbm KPt
            by_cases hPE : PE = 0
            · subst hPE
              obtain ⟨hck, hpf⟩ := KpP.out rfl
              have KPm := Kept.mk (put_any _ PL t2 (KG.out.later KBm.out) KOm.out.rd KpL.out)
              rw [hck, hpf] at KPm
              have Kck := Kept.mk hck
              clear hck hpf
              go_wp2_with fail
              refine Calls.mono KPm.out (fun x t3 hp => ?_)
              obtain ⟨vq, rfl, hOq, hbq⟩ := hp
              obtain ⟨aq, cq, rfl, -⟩ := hOq.rd.form
              have KBq := Kept.mk (KBm.out.trans (hbq.mono KBm.out.size))
              have KSm := Kept.mk (Nu.same_any _ _ xs xs t3 (nuRd hOq.rd KAx.out) (nuRd (KX.out.later KBq.out (Nat.le_refl _)) KAx.out))
              rw [decide_eq_true rfl] at KSm
              have KRm := Kept.mk (KOm.out.rd.later hbq)
              clear hOq hbq KPm
              go_wp2_with fail
              refine Calls.mono KSm.out (fun x t4 hp => ?_)
              obtain ⟨rfl, rfl⟩ := hp
              have KCm := Kept.mk (check_any _ PL t4 (KG.out.later KBq.out) KRm.out KpL.out)
              rw [Kck.out] at KCm
              clear KSm
              go_wp2_with fail
              refine Calls.mono KCm.out (fun x t5 hp => ?_)
              obtain ⟨rfl, hb5⟩ := hp
              have KB5 := Kept.mk (KBq.out.trans (hb5.mono KBq.out.size))
              clear hb5 KCm
              go_wp2
              go_ret
              exact ⟨rfl, KB5.out⟩
            · have hPb : (PE != 0) = true := by simpa using hPE
              have hPL := KpE.out hPE
              subst hPL
              clear hPE
              go_wp2
              go_ret
              exact ⟨rfl, KBm.out⟩
          · have hai : ¬ 0 ≤ at_ := hat
            clear hat hby
            have KTw := Kept.mk (Nu.twin_any _ xs w4 (nuRd (KX.out.later KB4.out (Nat.le_refl _)) KAx.out) (by have := Klx.out; omega))
            go_wp2_with fail
            refine Calls.mono KTw.out (fun x t1 hp => ?_)
            obtain ⟨vt, rfl, hOt, hbt⟩ := hp
            have hOt2 : Own .u8 5 t1 w4.heap.size vt xs := hOt
            obtain ⟨at1, ct1, rfl, -⟩ := hOt2.rd.form
            have KBt := Kept.mk (KB4.out.trans (hbt.mono KB4.out.size))
            have KPt := Kept.mk (parse_any _ xs t1 (KG.out.later KBt.out) hOt2.rd KAx.out)
            obtain ⟨PE, hPE⟩ : ∃ PE, prsE xs = PE := ⟨_, rfl⟩
            obtain ⟨PL, hPL⟩ : ∃ PL, prsL xs = PL := ⟨_, rfl⟩
            have KpE : Kept (¬ PE = 0 → PL = []) := ⟨fun h => by rw [← hPL]; unfold prsL; rw [if_neg (by rw [hPE]; exact h)]⟩
            have KpP : Kept (PE = 0 → chkE PL = 0 ∧ putF PL = xs) := ⟨fun h => by rw [← hPL]; exact put_prs (by rw [hPE]; exact h)⟩
            have KpL : Kept (PL.length ≤ 4398046511104) := ⟨by
              rw [← hPL]
              unfold prsL
              split
              · have h := slotsF_len _ _ (Nat.le_refl ((xs.take (xs.length - 32)).drop 12).length)
                rw [List.length_drop, List.length_take] at h
                have := Klx.out
                unfold prsS
                omega
              · simp⟩
            rw [hPE, hPL] at KPt
            clear hOt hOt2 hbt KTw hPE hPL
            go_wp2_with fail
            refine Calls.mono KPt.out (fun x t2 hp => ?_)
            obtain ⟨vm, rfl, hOm, hbm⟩ := hp
            obtain ⟨am, cm, rfl, -⟩ := hOm.form
            have KOm := Kept.mk hOm
            have KBm := Kept.mk (KBt.out.trans (hbm.mono KBt.out.size))
            clear hOm hbm KPt
            by_cases hPE : PE = 0
            · subst hPE
              obtain ⟨hck, hpf⟩ := KpP.out rfl
              have KPm := Kept.mk (put_any _ PL t2 (KG.out.later KBm.out) KOm.out.rd KpL.out)
              rw [hck, hpf] at KPm
              have Kck := Kept.mk hck
              clear hck hpf
              go_wp2_with fail
              refine Calls.mono KPm.out (fun x t3 hp => ?_)
              obtain ⟨vq, rfl, hOq, hbq⟩ := hp
              obtain ⟨aq, cq, rfl, -⟩ := hOq.rd.form
              have KBq := Kept.mk (KBm.out.trans (hbq.mono KBm.out.size))
              have KSm := Kept.mk (Nu.same_any _ _ xs xs t3 (nuRd hOq.rd KAx.out) (nuRd (KX.out.later KBq.out (Nat.le_refl _)) KAx.out))
              rw [decide_eq_true rfl] at KSm
              have KRm := Kept.mk (KOm.out.rd.later hbq)
              clear hOq hbq KPm
              go_wp2_with fail
              refine Calls.mono KSm.out (fun x t4 hp => ?_)
              obtain ⟨rfl, rfl⟩ := hp
              have KCm := Kept.mk (check_any _ PL t4 (KG.out.later KBq.out) KRm.out KpL.out)
              rw [Kck.out] at KCm
              clear KSm
              go_wp2_with fail
              refine Calls.mono KCm.out (fun x t5 hp => ?_)
              obtain ⟨rfl, hb5⟩ := hp
              have KB5 := Kept.mk (KBq.out.trans (hb5.mono KBq.out.size))
              clear hb5 KCm
              go_wp2
              go_ret
              exact ⟨rfl, KB5.out⟩
            · have hPb : (PE != 0) = true := by simpa using hPE
              have hPL := KpE.out hPE
              subst hPL
              clear hPE
              go_wp2
              go_ret
              exact ⟨rfl, KBm.out⟩
      · have hEb : (E == 0) = false := by simpa using hE0
        clear hE0
        have KTw := Kept.mk (Nu.twin_any _ xs w2 (nuRd (KX.out.later KB2.out (Nat.le_refl _)) KAx.out) (by have := Klx.out; omega))
        go_wp2_with fail
        refine Calls.mono KTw.out (fun x t1 hp => ?_)
        obtain ⟨vt, rfl, hOt, hbt⟩ := hp
        have hOt2 : Own .u8 5 t1 w2.heap.size vt xs := hOt
        obtain ⟨at1, ct1, rfl, -⟩ := hOt2.rd.form
        have KBt := Kept.mk (KB2.out.trans (hbt.mono KB2.out.size))
        have KPt := Kept.mk (parse_any _ xs t1 (KG.out.later KBt.out) hOt2.rd KAx.out)
        obtain ⟨PE, hPE⟩ : ∃ PE, prsE xs = PE := ⟨_, rfl⟩
        obtain ⟨PL, hPL⟩ : ∃ PL, prsL xs = PL := ⟨_, rfl⟩
        have KpE : Kept (¬ PE = 0 → PL = []) := ⟨fun h => by rw [← hPL]; unfold prsL; rw [if_neg (by rw [hPE]; exact h)]⟩
        have KpP : Kept (PE = 0 → chkE PL = 0 ∧ putF PL = xs) := ⟨fun h => by rw [← hPL]; exact put_prs (by rw [hPE]; exact h)⟩
        have KpL : Kept (PL.length ≤ 4398046511104) := ⟨by
          rw [← hPL]
          unfold prsL
          split
          · have h := slotsF_len _ _ (Nat.le_refl ((xs.take (xs.length - 32)).drop 12).length)
            rw [List.length_drop, List.length_take] at h
            have := Klx.out
            unfold prsS
            omega
          · simp⟩
        rw [hPE, hPL] at KPt
        clear hOt hOt2 hbt KTw hPE hPL
        go_wp2_with fail
        refine Calls.mono KPt.out (fun x t2 hp => ?_)
        obtain ⟨vm, rfl, hOm, hbm⟩ := hp
        obtain ⟨am, cm, rfl, -⟩ := hOm.form
        have KOm := Kept.mk hOm
        have KBm := Kept.mk (KBt.out.trans (hbm.mono KBt.out.size))
        clear hOm hbm KPt
        by_cases hPE : PE = 0
        · subst hPE
          obtain ⟨hck, hpf⟩ := KpP.out rfl
          have KPm := Kept.mk (put_any _ PL t2 (KG.out.later KBm.out) KOm.out.rd KpL.out)
          rw [hck, hpf] at KPm
          have Kck := Kept.mk hck
          clear hck hpf
          go_wp2_with fail
          refine Calls.mono KPm.out (fun x t3 hp => ?_)
          obtain ⟨vq, rfl, hOq, hbq⟩ := hp
          obtain ⟨aq, cq, rfl, -⟩ := hOq.rd.form
          have KBq := Kept.mk (KBm.out.trans (hbq.mono KBm.out.size))
          have KSm := Kept.mk (Nu.same_any _ _ xs xs t3 (nuRd hOq.rd KAx.out) (nuRd (KX.out.later KBq.out (Nat.le_refl _)) KAx.out))
          rw [decide_eq_true rfl] at KSm
          have KRm := Kept.mk (KOm.out.rd.later hbq)
          clear hOq hbq KPm
          go_wp2_with fail
          refine Calls.mono KSm.out (fun x t4 hp => ?_)
          obtain ⟨rfl, rfl⟩ := hp
          have KCm := Kept.mk (check_any _ PL t4 (KG.out.later KBq.out) KRm.out KpL.out)
          rw [Kck.out] at KCm
          clear KSm
          go_wp2_with fail
          refine Calls.mono KCm.out (fun x t5 hp => ?_)
          obtain ⟨rfl, hb5⟩ := hp
          have KB5 := Kept.mk (KBq.out.trans (hb5.mono KBq.out.size))
          clear hb5 KCm
          go_wp2
          go_ret
          exact ⟨rfl, KB5.out⟩
        · have hPb : (PE != 0) = true := by simpa using hPE
          have hPL := KpE.out hPE
          subst hPL
          clear hPE
          go_wp2
          go_ret
          exact ⟨rfl, KBm.out⟩
end Go.Proofs.YthkaohkondkhgaaDoor
