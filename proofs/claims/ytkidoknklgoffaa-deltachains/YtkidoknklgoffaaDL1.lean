/-
  The walk of DeltaApplies.
-/
import Derived.Test.YtkidoknklgoffaaDA
namespace Go.Proofs.Ytkidoknklgoffaa
open Go.RowKit

/-- What Apply answers at whatever number. -/
def applG (base d : List Int) (most : Int) : An (List Int) := if most < 0 ∨ 1048576 < most then .bad 1 else applF base d most.toNat
def AfterG (w w' : World) (r : An (List Int)) (e : Ending) : Prop := ∃ v, e = .returned (.tuple #[v, .int .i64 (anE r)]) ∧ Own .u8 5 w' w.heap.size v (anL r) ∧ AllB (anL r) ∧ (anL r).length ≤ 1048576 ∧ Below w.heap.size w w'
theorem applyG_any {S S' : Nat → Prop} (u v : Value) (base d : List Int) (most : Int) (w : World) (g : Rd .u8 S' w u base) (h : Rd .u8 S w v d) (hg : AllB base) (hd : AllB d) (hl : d.length + 20 ≤ 140737488355328) (hgl : base.length + 20 ≤ 140737488355328) :
    Calls Try.prog 10 #[u, v, .int .i64 most] w fun e w' => AfterG w w' (applG base d most) e := by
  unfold applG
  by_cases hm : most < 0 ∨ 1048576 < most
  · rw [if_pos hm]
    exact (apply_arg w most hm).mono fun e w' ⟨h1, h2⟩ => by
      subst h2
      exact ⟨_, h1, Own.nil _ _ _ _, AllIn.nil, by simp [anL], Below.refl _ _⟩
  · rw [if_neg hm]
    obtain ⟨m, rfl⟩ := Int.eq_ofNat_of_zero_le (show 0 ≤ most by omega)
    rw [Int.toNat_natCast]
    exact (apply_any u v base d m w g h hg hd hl hgl (by omega)).mono fun e w' h => afterA_own h
theorem docApplyG_any {S S' : Nat → Prop} (u v : Value) (base d : List Int) (most : Int) (w : World) (g : Rd .u8 S' w u base) (h : Rd .u8 S w v d) (hg : AllB base) (hd : AllB d) (hl : d.length + 20 ≤ 140737488355328) (hgl : base.length + 20 ≤ 140737488355328) :
    Calls Try.prog 12 #[u, v, .int .i64 most] w fun e w' => AfterG w w' (applG base d most) e := by
  unfold applG
  by_cases hm : most < 0 ∨ 1048576 < most
  · rw [if_pos hm]
    exact (docApply_arg w most hm).mono fun e w' ⟨h1, h2⟩ => by
      subst h2
      exact ⟨_, h1, Own.nil _ _ _ _, AllIn.nil, by simp [anL], Below.refl _ _⟩
  · rw [if_neg hm]
    obtain ⟨m, rfl⟩ := Int.eq_ofNat_of_zero_le (show 0 ≤ most by omega)
    rw [Int.toNat_natCast]
    exact (docApply_any u v base d m w g h hg hd hl hgl (by omega)).mono fun e w' h => afterA_own h

set_option maxHeartbeats 4000000 in
set_option maxRecDepth 100000 in
theorem applies_walk {S S' : Nat → Prop} (u v : Value) (base d : List Int) (most : Int) (w : World) (g : Rd .u8 S' w u base) (h : Rd .u8 S w v d) (hg : AllB base) (hd : AllB d) :
    Calls Try.prog 3 #[u, v, .int .i64 most] w fun e w' => e = .returned (.bool true) ∧ Below w.heap.size w w' := by
  have KW := Kept.mk (awake_any w)
  obtain ⟨ua, uc, rfl, -, -, -⟩ := g.form
  obtain ⟨va, vc, rfl, -, -, -⟩ := h.form
  have KG := Kept.mk g
  have KH := Kept.mk h
  have KA := Kept.mk (And.intro hg hd)
  clear g h hg hd
  by_cases h1 : 100000 < base.length
  · have h1o : decide ((100000 : Int) < (base.length : Int)) = true := by simp; omega
    clear h1
    go_enter Try.func3, Try.ntmps3
    go_wp2_with fail
    refine Calls.mono KW.out (fun e w1 hp => ?_)
    obtain ⟨rfl, hb1⟩ := hp
    have KB1 := Kept.mk hb1
    clear hb1
    go_wp2
    go_ret
    exact ⟨rfl, KB1.out⟩
  · have h1o : decide ((100000 : Int) < (base.length : Int)) = false := by simp; omega
    by_cases h2 : 3000 < d.length
    · have h2o : decide ((3000 : Int) < (d.length : Int)) = true := by simp; omega
      clear h1 h2
      go_enter Try.func3, Try.ntmps3
      go_wp2_with fail
      refine Calls.mono KW.out (fun e w1 hp => ?_)
      obtain ⟨rfl, hb1⟩ := hp
      have KB1 := Kept.mk hb1
      clear hb1
      go_wp2
      go_ret
      exact ⟨rfl, KB1.out⟩
    · have h2o : decide ((3000 : Int) < (d.length : Int)) = false := by simp; omega
      by_cases h3 : 300000 < most ∧ most ≤ 1048576
      · have h3o : decide ((300000 : Int) < most) = true := by simp; omega
        have h3p : decide (most ≤ (1048576 : Int)) = true := by simp; omega
        clear h1 h2 h3
        go_enter Try.func3, Try.ntmps3
        go_wp2_with fail
        refine Calls.mono KW.out (fun e w1 hp => ?_)
        obtain ⟨rfl, hb1⟩ := hp
        have KB1 := Kept.mk hb1
        clear hb1
        go_wp2
        go_ret
        exact ⟨rfl, KB1.out⟩
      · by_cases h4 : 300000 < most
        · have h3o : decide ((300000 : Int) < most) = true := by simp; omega
          have h3p : decide (most ≤ (1048576 : Int)) = false := by simp; omega
          have hbl : base.length ≤ 100000 := by omega
          have hdl : d.length ≤ 3000 := by omega
          have KL := Kept.mk (And.intro hbl hdl)
          clear h1 h2 h3 hbl hdl h4
          go_enter Try.func3, Try.ntmps3
          go_wp2_with fail
          refine Calls.mono KW.out (fun e w1 hp => ?_)
          obtain ⟨rfl, hb1⟩ := hp
          have K2 := Kept.mk (twin_any _ base w1 (KG.out.later hb1 (Nat.le_refl _)) (by have := KL.out; omega))
          have KB1 := Kept.mk hb1
          clear hb1
          go_wp2_with fail
          refine Calls.mono K2.out (fun e w2 hp => ?_)
          obtain ⟨v2, rfl, ho2, hb2⟩ := hp
          have hB2 : Below w.heap.size w w2 := KB1.out.trans (hb2.mono KB1.out.size)
          have K3 := Kept.mk (twin_any _ d w2 (KH.out.later hB2 (Nat.le_refl _)) (by have := KL.out; omega))
          have KB2 := Kept.mk hB2
          have KO2 := Kept.mk ho2
          clear hb2 hB2 ho2 K2
          go_wp2_with fail
          refine Calls.mono K3.out (fun e w3 hp => ?_)
          obtain ⟨v3, rfl, ho3, hb3⟩ := hp
          have hB3 : Below w.heap.size w w3 := KB2.out.trans (hb3.mono KB2.out.size)
          have K4 := Kept.mk (applyG_any _ _ base d most w3 (KO2.out.later hb3 (Nat.le_refl _)).rd ho3.rd KA.out.1 KA.out.2 (by have := KL.out; omega) (by have := KL.out; omega))
          have KB3 := Kept.mk hB3
          clear hb3 hB3 ho3 K3 KO2
          go_wp2_with fail
          refine Calls.mono K4.out (fun e w4 hp => ?_)
          obtain ⟨v4, rfl, ho4, ha4, -, hb4⟩ := hp
          have hB4 : Below w.heap.size w w4 := KB3.out.trans (hb4.mono KB3.out.size)
          have K5 := Kept.mk (docApplyG_any _ _ base d most w4 (KG.out.later hB4 (Nat.le_refl _)) (KH.out.later hB4 (Nat.le_refl _)) KA.out.1 KA.out.2 (by have := KL.out; omega) (by have := KL.out; omega))
          have KB4 := Kept.mk hB4
          have KO4 := Kept.mk ho4
          have KA4 := Kept.mk ha4
          clear hb4 hB4 ho4 ha4 K4
          go_wp2_with fail
          refine Calls.mono K5.out (fun e w5 hp => ?_)
          obtain ⟨v5, rfl, ho5, ha5, -, hb5⟩ := hp
          have hB5 : Below w.heap.size w w5 := KB4.out.trans (hb5.mono KB4.out.size)
          have K6 := same_any _ _ _ _ w5 (KO4.out.later hb5 (Nat.le_refl _)).rd ho5.rd KA4.out ha5
          rw [decide_eq_true rfl] at K6
          have K6 := Kept.mk K6
          have KB5 := Kept.mk hB5
          clear hb5 hB5 ho5 ha5 K5
          generalize anE (applG base d most) = E at *
          go_wp2_with fail
          refine Calls.mono K6.out (fun e w6 hp => ?_)
          obtain ⟨rfl, rfl⟩ := hp
          go_wp2
          go_ret
          exact ⟨rfl, KB5.out⟩
        · have h3o : decide ((300000 : Int) < most) = false := by simp; omega
          have hbl : base.length ≤ 100000 := by omega
          have hdl : d.length ≤ 3000 := by omega
          have KL := Kept.mk (And.intro hbl hdl)
          clear h1 h2 h3 hbl hdl h4
          go_enter Try.func3, Try.ntmps3
          go_wp2_with fail
          refine Calls.mono KW.out (fun e w1 hp => ?_)
          obtain ⟨rfl, hb1⟩ := hp
          have K2 := Kept.mk (twin_any _ base w1 (KG.out.later hb1 (Nat.le_refl _)) (by have := KL.out; omega))
          have KB1 := Kept.mk hb1
          clear hb1
          go_wp2_with fail
          refine Calls.mono K2.out (fun e w2 hp => ?_)
          obtain ⟨v2, rfl, ho2, hb2⟩ := hp
          have hB2 : Below w.heap.size w w2 := KB1.out.trans (hb2.mono KB1.out.size)
          have K3 := Kept.mk (twin_any _ d w2 (KH.out.later hB2 (Nat.le_refl _)) (by have := KL.out; omega))
          have KB2 := Kept.mk hB2
          have KO2 := Kept.mk ho2
          clear hb2 hB2 ho2 K2
          go_wp2_with fail
          refine Calls.mono K3.out (fun e w3 hp => ?_)
          obtain ⟨v3, rfl, ho3, hb3⟩ := hp
          have hB3 : Below w.heap.size w w3 := KB2.out.trans (hb3.mono KB2.out.size)
          have K4 := Kept.mk (applyG_any _ _ base d most w3 (KO2.out.later hb3 (Nat.le_refl _)).rd ho3.rd KA.out.1 KA.out.2 (by have := KL.out; omega) (by have := KL.out; omega))
          have KB3 := Kept.mk hB3
          clear hb3 hB3 ho3 K3 KO2
          go_wp2_with fail
          refine Calls.mono K4.out (fun e w4 hp => ?_)
          obtain ⟨v4, rfl, ho4, ha4, -, hb4⟩ := hp
          have hB4 : Below w.heap.size w w4 := KB3.out.trans (hb4.mono KB3.out.size)
          have K5 := Kept.mk (docApplyG_any _ _ base d most w4 (KG.out.later hB4 (Nat.le_refl _)) (KH.out.later hB4 (Nat.le_refl _)) KA.out.1 KA.out.2 (by have := KL.out; omega) (by have := KL.out; omega))
          have KB4 := Kept.mk hB4
          have KO4 := Kept.mk ho4
          have KA4 := Kept.mk ha4
          clear hb4 hB4 ho4 ha4 K4
          go_wp2_with fail
          refine Calls.mono K5.out (fun e w5 hp => ?_)
          obtain ⟨v5, rfl, ho5, ha5, -, hb5⟩ := hp
          have hB5 : Below w.heap.size w w5 := KB4.out.trans (hb5.mono KB4.out.size)
          have K6 := same_any _ _ _ _ w5 (KO4.out.later hb5 (Nat.le_refl _)).rd ho5.rd KA4.out ha5
          rw [decide_eq_true rfl] at K6
          have K6 := Kept.mk K6
          have KB5 := Kept.mk hB5
          clear hb5 hB5 ho5 ha5 K5
          generalize anE (applG base d most) = E at *
          go_wp2_with fail
          refine Calls.mono K6.out (fun e w6 hp => ?_)
          obtain ⟨rfl, rfl⟩ := hp
          go_wp2
          go_ret
          exact ⟨rfl, KB5.out⟩
end Go.Proofs.Ytkidoknklgoffaa
