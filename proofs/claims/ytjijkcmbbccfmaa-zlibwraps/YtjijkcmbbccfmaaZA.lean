/-
  Walks: DocWrap; the law ZlibWraps.
-/
import Derived.Test.YtjijkcmbbccfmaaZW
import Derived.Test.YtjijkcmbbccfmaaF37A
import Derived.Test.YtjijkcmbbccfmaaF26
namespace Go.Proofs.Ytjijkcmbbccfmaa
open Go.RowKit

set_option maxHeartbeats 1000000 in
set_option maxRecDepth 100000 in
theorem docWrap_any (pv : Value) (p : List Int) (way : Int) (w : World) (hp : Rd .u8 anyB w pv p) (ha : AllB p) :
    Calls Try.prog 7 #[pv, .int .i64 way] w fun e w' => ∃ v', e = .returned (.tuple #[v', .int .i64 (wrpF p way).2]) ∧ Own .u8 5 w' w.heap.size v' (wrpF p way).1 ∧ Below w.heap.size w w' := by
  obtain ⟨pa, pc, rfl, -, -, -⟩ := hp.form
  have KD := docDeflate_any (.slice none 0 0) [] way w (Rd.nil _ _ _) AllIn.nil
  by_cases h1 : way < 0 ∨ 2 < way
  · have KE : Kept (wrpF p way = ([], 1)) := ⟨by
      have e : dflF p way = ([], 1) := by unfold dflF; rw [if_pos h1]
      unfold wrpF
      rw [e]
      rfl⟩
    have e0 : dflF [] way = ([], 1) := by unfold dflF; rw [if_pos h1]
    rw [e0] at KD
    have KD := Kept.mk KD
    clear hp h1 e0
    go_enter Try.func7, Try.ntmps7
    go_wp2_with fail
    refine Calls.mono KD.out (fun e w1 hq => ?_)
    obtain ⟨v1, rfl, -, hb1⟩ := hq
    have KB1 := Kept.mk hb1
    clear hb1
    go_wp2
    go_ret2
    rw [KE.out]
    exact ⟨_, rfl, Own.nil .u8 5 _ _, KB1.out⟩
  · have e0 : dflF [] way = (dfF [] way, 0) := dflF_ok (by omega) (by omega) (by simp)
    rw [e0] at KD
    have KD := Kept.mk KD
    clear e0
    by_cases h3 : 1048576 < p.length
    · have KE : Kept (wrpF p way = ([], 2)) := ⟨by
        have e : dflF p way = ([], 2) := by unfold dflF; rw [if_neg h1, if_pos h3]
        unfold wrpF
        rw [e]
        rfl⟩
      have h3i : (1048576 : Int) < (p.length : Int) := by omega
      clear hp h1
      go_enter Try.func7, Try.ntmps7
      go_wp2_with fail
      refine Calls.mono KD.out (fun e w1 hq => ?_)
      obtain ⟨v1, rfl, -, hb1⟩ := hq
      have KB1 := Kept.mk hb1
      clear hb1
      go_wp2
      go_ret2
      rw [KE.out]
      exact ⟨_, rfl, Own.nil .u8 5 _ _, KB1.out⟩
    · have KE : Kept (wrpF p way = (wrF p way, 0)) := ⟨by
        have e : dflF p way = (dfF p way, 0) := dflF_ok (by omega) (by omega) (by omega)
        unfold wrpF
        rw [e]
        rfl⟩
      have h3i : ¬ (1048576 : Int) < (p.length : Int) := by omega
      have KH := Kept.mk hp
      have KA := Kept.mk ha
      clear hp ha h1
      go_enter Try.func7, Try.ntmps7
      go_wp2_with fail
      refine Calls.mono KD.out (fun e w1 hq => ?_)
      obtain ⟨v1, rfl, -, hb1⟩ := hq
      have KB1 := Kept.mk hb1
      have K2 := Kept.mk (rwrap_any _ p way w1 (KH.out.later hb1 (Nat.le_refl _)) KA.out (by omega))
      clear hb1 KD
      go_wp2_with fail
      refine Calls.mono K2.out (fun e w2 hq => ?_)
      obtain ⟨v2, rfl, ho2, hb2⟩ := hq
      have KO2 := Kept.mk ho2
      have KB2 := Kept.mk hb2
      clear ho2 hb2
      go_wp2
      go_ret2
      rw [KE.out]
      exact ⟨_, rfl, KO2.out.mono KB1.out.size, KB1.out.trans (KB2.out.mono KB1.out.size)⟩

set_option maxHeartbeats 4000000 in
set_option maxRecDepth 100000 in
theorem wraps_walk (v : Value) (p : List Int) (way : Int) (w : World) (h : Rd .u8 anyB w v p) (ha : AllB p) :
    Calls Try.prog 3 #[v, .int .i64 way] w fun e w' => e = .returned (.bool true) ∧ Below w.heap.size w w' := by
  have KW := Kept.mk (awake_any w)
  obtain ⟨va, vc, rfl, -, -, -⟩ := h.form
  have KH := Kept.mk h
  have KA := Kept.mk ha
  clear h ha
  by_cases h1 : 3000 < p.length
  · have h1o : decide ((3000 : Int) < (p.length : Int)) = true := by simp; omega
    have h1p : (3000 : Int) < (p.length : Int) := by omega
    clear h1
    go_enter Try.func3, Try.ntmps3
    go_wp2_with fail
    refine Calls.mono KW.out (fun e w1 hp => ?_)
    obtain ⟨rfl, hb1⟩ := hp
    have KB1 := Kept.mk hb1
    clear hb1
    go_wp2
    go_ret
    exact ⟨rfl, KB1.out⟩
  · have h1o : decide ((3000 : Int) < (p.length : Int)) = false := by simp; omega
    have h1p : ¬ (3000 : Int) < (p.length : Int) := by omega
    have KL : Kept (p.length ≤ 3000) := ⟨by omega⟩
    clear h1
    go_enter Try.func3, Try.ntmps3
    go_wp2_with fail
    refine Calls.mono KW.out (fun e w1 hp => ?_)
    obtain ⟨rfl, hb1⟩ := hp
    have K2 := Kept.mk (twin_any _ p w1 (KH.out.later hb1 (Nat.le_refl _)) (by have := KL.out; omega))
    have KB1 := Kept.mk hb1
    clear hb1
    go_wp2_with fail
    refine Calls.mono K2.out (fun e w2 hp => ?_)
    obtain ⟨v2, rfl, ho2, hb2⟩ := hp
    have hB2 : Below w.heap.size w w2 := KB1.out.trans (hb2.mono KB1.out.size)
    have K3 := Kept.mk (wrap_any _ p way w2 ho2.rd.any KA.out)
    have KB2 := Kept.mk hB2
    clear hb2 hB2 ho2 K2
    go_wp2_with fail
    refine Calls.mono K3.out (fun e w3 hp => ?_)
    obtain ⟨v3, rfl, ho3, hb3⟩ := hp
    have hB3 : Below w.heap.size w w3 := KB2.out.trans (hb3.mono KB2.out.size)
    have K4 := Kept.mk (docWrap_any _ p way w3 (KH.out.later hB3 (Nat.le_refl _)) KA.out)
    have KB3 := Kept.mk hB3
    have KO3 := Kept.mk ho3
    clear hb3 hB3 ho3 K3
    go_wp2_with fail
    refine Calls.mono K4.out (fun e w4 hp => ?_)
    obtain ⟨v4, rfl, ho4, hb4⟩ := hp
    have hB4 : Below w.heap.size w w4 := KB3.out.trans (hb4.mono KB3.out.size)
    have K5 := same_any _ _ _ _ w4 (KO3.out.later hb4 (Nat.le_refl _)).rd ho4.rd (wrpF_all KA.out way) (wrpF_all KA.out way)
    rw [decide_eq_true rfl] at K5
    have K5 := Kept.mk K5
    have KB4 := Kept.mk hB4
    clear hb4 hB4 ho4 K4 KO3
    generalize (wrpF p way).2 = E at *
    go_wp2_with fail
    refine Calls.mono K5.out (fun e w5 hp => ?_)
    obtain ⟨rfl, rfl⟩ := hp
    go_wp2
    go_ret
    exact ⟨rfl, KB4.out⟩
end Go.Proofs.Ytjijkcmbbccfmaa
