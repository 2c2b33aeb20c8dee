/-
  The walk of DeltaMakes.
-/
import Derived.Test.YtkidoknklgoffaaDL1
namespace Go.Proofs.Ytkidoknklgoffaa
open Go.RowKit

set_option maxHeartbeats 1000000 in
set_option maxRecDepth 100000 in
theorem bound_any (n : Nat) (w : World) (hn : n ≤ 1048576) : Calls Try.prog 17 #[.int .i64 n] w fun e w' => e = .returned (.int .i64 ((20 + n + (n + 126) / 127 : Nat) : Int)) ∧ w' = w := by
  have hd : ((n : Int) + 126).tdiv 127 = (((n + 126) / 127 : Nat) : Int) := by rw [Int.tdiv_eq_ediv_of_nonneg (by omega)]; omega
  go_enter Try.func17, Try.ntmps17
  go_wp2
  go_ret
  refine ⟨?_, rfl⟩
  congr 2
theorem dlL_len {base target I : List Int} : (dlL base target I).length ≤ 20 + I.length := by
  have h1 := Nu.sizeL_length (base.length : Int)
  have h2 := Nu.sizeL_length (target.length : Int)
  unfold dlL
  simp only [List.length_append]
  omega

set_option maxHeartbeats 4000000 in
set_option maxRecDepth 100000 in
theorem makes_walk {S S' : Nat → Prop} (u v : Value) (base target : List Int) (w : World) (g : Rd .u8 S' w u base) (h : Rd .u8 S w v target) (hg : AllB base) (ht : AllB target) :
    Calls Try.prog 5 #[u, v] w fun e w' => e = .returned (.bool true) ∧ Below w.heap.size w w' := by
  have KW := Kept.mk (awake_any w)
  obtain ⟨ua, uc, rfl, -, -, -⟩ := g.form
  obtain ⟨va, vc, rfl, -, -, -⟩ := h.form
  have KG := Kept.mk g
  have KH := Kept.mk h
  have KA := Kept.mk (And.intro hg ht)
  clear g h hg ht
  by_cases h1 : 60000 < base.length
  · have h1o : decide ((60000 : Int) < (base.length : Int)) = true := by simp; omega
    clear h1
    go_enter Try.func5, Try.ntmps5
    go_wp2_with fail
    refine Calls.mono KW.out (fun e w1 hp => ?_)
    obtain ⟨rfl, hb1⟩ := hp
    have KB1 := Kept.mk hb1
    clear hb1
    go_wp2
    go_ret
    exact ⟨rfl, KB1.out⟩
  · have h1o : decide ((60000 : Int) < (base.length : Int)) = false := by simp; omega
    by_cases h2 : 60000 < target.length
    · have h2o : decide ((60000 : Int) < (target.length : Int)) = true := by simp; omega
      clear h1 h2
      go_enter Try.func5, Try.ntmps5
      go_wp2_with fail
      refine Calls.mono KW.out (fun e w1 hp => ?_)
      obtain ⟨rfl, hb1⟩ := hp
      have KB1 := Kept.mk hb1
      clear hb1
      go_wp2
      go_ret
      exact ⟨rfl, KB1.out⟩
    · have h2o : decide ((60000 : Int) < (target.length : Int)) = false := by simp; omega
      have hbl : base.length ≤ 60000 := by omega
      have htl : target.length ≤ 60000 := by omega
      have KL := Kept.mk (And.intro hbl htl)
      clear h1 h2 hbl htl
      go_enter Try.func5, Try.ntmps5
      go_wp2_with fail
      refine Calls.mono KW.out (fun e w1 hp => ?_)
      obtain ⟨rfl, hb1⟩ := hp
      have K2 := Kept.mk (twin_any _ base w1 (KG.out.later hb1 (Nat.le_refl _)) (by have := KL.out; omega))
      have KB1 := Kept.mk hb1
      clear hb1
      go_wp2_with fail
      refine Calls.mono K2.out (fun e w2 hp => ?_)
      obtain ⟨v2, rfl, ho2, hb2⟩ := hp
      have hB2 : Below w.heap.size w w2 := KB1.out.trans (hb2.mono KB1.out.size)
      have K3 := Kept.mk (twin_any _ target w2 (KH.out.later hB2 (Nat.le_refl _)) (by have := KL.out; omega))
      have KB2 := Kept.mk hB2
      have KO2 := Kept.mk ho2
      clear hb2 hB2 ho2 K2
      go_wp2_with fail
      refine Calls.mono K3.out (fun e w3 hp => ?_)
      obtain ⟨v3, rfl, ho3, hb3⟩ := hp
      have hB3 : Below w.heap.size w w3 := KB2.out.trans (hb3.mono KB2.out.size)
      have K4 := Kept.mk (make_any _ _ base target w3 (KO2.out.later hb3 (Nat.le_refl _)).rd ho3.rd KA.out.1 KA.out.2 (by have := KL.out; omega) (by have := KL.out; omega))
      have KB3 := Kept.mk hB3
      clear hb3 hB3 ho3 K3 KO2
      go_wp2_with fail
      refine Calls.mono K4.out (fun e w4 hp => ?_)
      obtain ⟨v4, I, rfl, ho4, hTl, hIl, hsp, hb4⟩ := hp
      have hB4 : Below w.heap.size w w4 := KB3.out.trans (hb4.mono KB3.out.size)
      have K5 := Kept.mk (bound_any target.length w4 (by have := KL.out; omega))
      have KB4 := Kept.mk hB4
      have KT := Kept.mk hTl
      have hD4 := dlL_all (base := base) (target := target) (I := I) (by have := KL.out; omega) (by have := KL.out; omega) hTl.1
      have hap := fun most (hm : target.length ≤ most) => appl_tl KA.out.1 (by have := KL.out; omega) (by have := KL.out; omega) hTl most hm
      have hdlen := dlL_len (base := base) (target := target) (I := I)
      have hI8 : base = target → 64 ≤ base.length → (dlL base target I).length ≤ 28 := fun e1 e2 => by
        have := hsp e1 (by omega)
        omega
      have hdb : (dlL base target I).length ≤ 20 + target.length + (target.length + 126) / 127 := by omega
      generalize dlL base target I = D at *
      obtain ⟨da, dc, rfl, -, -, -⟩ := ho4.rd.form
      have KO4 := Kept.mk ho4
      have KD := Kept.mk hD4
      have KAp := Kept.mk hap
      have K8 := Kept.mk hI8
      have hdo : decide ((((20 + target.length + (target.length + 126) / 127 : Nat) : Int)) < (D.length : Int)) = false := by simp only [decide_eq_false_iff_not]; omega
      have hDl : D.length ≤ 200000 := by have := KL.out; omega
      have KDl := Kept.mk hDl
      clear hb4 hB4 ho4 hTl hIl hsp hD4 hap hdlen hI8 hdb K4 hDl
      go_wp2_with fail
      refine Calls.mono K5.out (fun e w4b hp => ?_)
      obtain ⟨rfl, rfl⟩ := hp
      generalize ((20 + target.length + (target.length + 126) / 127 : Nat) : Int) = BD at *
      by_cases h64 : 64 ≤ base.length
      · have h64o : decide ((64 : Int) ≤ (base.length : Int)) = true := by simp; omega
        by_cases hbt : base = target
        · have h40 : D.length ≤ 28 := K8.out hbt h64
          have h40o : decide ((40 : Int) < (D.length : Int)) = false := by simp; omega
          have KBT := Kept.mk hbt
          clear h64 h40 hbt
          have K6 := same_any _ _ _ _ w4b (KG.out.later KB4.out (Nat.le_refl _)) (KH.out.later KB4.out (Nat.le_refl _)) KA.out.1 KA.out.2
          rw [decide_eq_true KBT.out] at K6
          have K6 := Kept.mk K6
          go_wp2_with fail
          refine Calls.mono K6.out (fun e w4c hp => ?_)
          obtain ⟨rfl, rfl⟩ := hp
          have K9 := Kept.mk (twin_any _ base w4c (KG.out.later KB4.out (Nat.le_refl _)) (by have := KL.out; omega))
          go_wp2_with fail
          refine Calls.mono K9.out (fun e w5 hp => ?_)
          obtain ⟨v5, rfl, ho5, hb5⟩ := hp
          have hB5 : Below w.heap.size w w5 := KB4.out.trans (hb5.mono KB4.out.size)
          have hO45 := KO4.out.later hb5 (Nat.le_refl _)
          have K10 := Kept.mk (twin_any _ D w5 hO45.rd (by have := KDl.out; omega))
          have KB5 := Kept.mk hB5
          have KO5 := Kept.mk ho5
          have KO45 := Kept.mk hO45
          clear hb5 hB5 ho5 hO45 K9
          go_wp2_with fail
          refine Calls.mono K10.out (fun e w6 hp => ?_)
          obtain ⟨v6, rfl, ho6, hb6⟩ := hp
          have hB6 : Below w.heap.size w w6 := KB5.out.trans (hb6.mono KB5.out.size)
          have K11 := apply_any _ _ base D target.length w6 (KO5.out.later hb6 (Nat.le_refl _)).rd ho6.rd KA.out.1 KD.out (by have := KDl.out; omega) (by have := KL.out; omega) (by have := KL.out; omega)
          rw [KAp.out target.length (Nat.le_refl _)] at K11
          have K11 := Kept.mk K11
          have KB6 := Kept.mk hB6
          have KO46 := Kept.mk (KO45.out.later hb6 (Nat.le_refl _))
          clear hb6 hB6 ho6 K10 KO45 KO5
          go_wp2_with fail
          refine Calls.mono K11.out (fun e w7 hp => ?_)
          obtain ⟨v7, rfl, ho7, ha7, -, hb7⟩ := hp
          have hB7 : Below w.heap.size w w7 := KB6.out.trans (hb7.mono KB6.out.size)
          have K12 := docApply_any _ _ base D target.length w7 (KG.out.later hB7 (Nat.le_refl _)) (KO46.out.later hb7 (Nat.le_refl _)).rd KA.out.1 KD.out (by have := KDl.out; omega) (by have := KL.out; omega) (by have := KL.out; omega)
          rw [KAp.out target.length (Nat.le_refl _)] at K12
          have K12 := Kept.mk K12
          have KB7 := Kept.mk hB7
          have KO7 := Kept.mk ho7
          clear hb7 hB7 ho7 ha7 K11 KO46
          go_wp2_with fail
          refine Calls.mono K12.out (fun e w8 hp => ?_)
          obtain ⟨v8, rfl, ho8, ha8, -, hb8⟩ := hp
          have hB8 : Below w.heap.size w w8 := KB7.out.trans (hb8.mono KB7.out.size)
          have K13 := same_any _ _ _ _ w8 (KO7.out.later hb8 (Nat.le_refl _)).rd (KH.out.later hB8 (Nat.le_refl _)) KA.out.2 KA.out.2
          have K14 := same_any _ _ _ _ w8 ho8.rd (KH.out.later hB8 (Nat.le_refl _)) KA.out.2 KA.out.2
          rw [decide_eq_true rfl] at K13 K14
          have K13 := Kept.mk K13
          have K14 := Kept.mk K14
          have KB8 := Kept.mk hB8
          clear hb8 hB8 ho8 ha8 K12
          go_wp2_with fail
          refine Calls.mono K13.out (fun e w9 hp => ?_)
          obtain ⟨rfl, rfl⟩ := hp
          go_wp2_with fail
          refine Calls.mono K14.out (fun e w9 hp => ?_)
          obtain ⟨rfl, rfl⟩ := hp
          go_wp2
          go_ret
          exact ⟨rfl, KB8.out⟩
        · clear h64
          have KBT := Kept.mk hbt
          clear hbt
          have K6 := same_any _ _ _ _ w4b (KG.out.later KB4.out (Nat.le_refl _)) (KH.out.later KB4.out (Nat.le_refl _)) KA.out.1 KA.out.2
          rw [decide_eq_false KBT.out] at K6
          have K6 := Kept.mk K6
          go_wp2_with fail
          refine Calls.mono K6.out (fun e w4c hp => ?_)
          obtain ⟨rfl, rfl⟩ := hp
          have K9 := Kept.mk (twin_any _ base w4c (KG.out.later KB4.out (Nat.le_refl _)) (by have := KL.out; omega))
          go_wp2_with fail
          refine Calls.mono K9.out (fun e w5 hp => ?_)
          obtain ⟨v5, rfl, ho5, hb5⟩ := hp
          have hB5 : Below w.heap.size w w5 := KB4.out.trans (hb5.mono KB4.out.size)
          have hO45 := KO4.out.later hb5 (Nat.le_refl _)
          have K10 := Kept.mk (twin_any _ D w5 hO45.rd (by have := KDl.out; omega))
          have KB5 := Kept.mk hB5
          have KO5 := Kept.mk ho5
          have KO45 := Kept.mk hO45
          clear hb5 hB5 ho5 hO45 K9
          go_wp2_with fail
          refine Calls.mono K10.out (fun e w6 hp => ?_)
          obtain ⟨v6, rfl, ho6, hb6⟩ := hp
          have hB6 : Below w.heap.size w w6 := KB5.out.trans (hb6.mono KB5.out.size)
          have K11 := apply_any _ _ base D target.length w6 (KO5.out.later hb6 (Nat.le_refl _)).rd ho6.rd KA.out.1 KD.out (by have := KDl.out; omega) (by have := KL.out; omega) (by have := KL.out; omega)
          rw [KAp.out target.length (Nat.le_refl _)] at K11
          have K11 := Kept.mk K11
          have KB6 := Kept.mk hB6
          have KO46 := Kept.mk (KO45.out.later hb6 (Nat.le_refl _))
          clear hb6 hB6 ho6 K10 KO45 KO5
          go_wp2_with fail
          refine Calls.mono K11.out (fun e w7 hp => ?_)
          obtain ⟨v7, rfl, ho7, ha7, -, hb7⟩ := hp
          have hB7 : Below w.heap.size w w7 := KB6.out.trans (hb7.mono KB6.out.size)
          have K12 := docApply_any _ _ base D target.length w7 (KG.out.later hB7 (Nat.le_refl _)) (KO46.out.later hb7 (Nat.le_refl _)).rd KA.out.1 KD.out (by have := KDl.out; omega) (by have := KL.out; omega) (by have := KL.out; omega)
          rw [KAp.out target.length (Nat.le_refl _)] at K12
          have K12 := Kept.mk K12
          have KB7 := Kept.mk hB7
          have KO7 := Kept.mk ho7
          clear hb7 hB7 ho7 ha7 K11 KO46
          go_wp2_with fail
          refine Calls.mono K12.out (fun e w8 hp => ?_)
          obtain ⟨v8, rfl, ho8, ha8, -, hb8⟩ := hp
          have hB8 : Below w.heap.size w w8 := KB7.out.trans (hb8.mono KB7.out.size)
          have K13 := same_any _ _ _ _ w8 (KO7.out.later hb8 (Nat.le_refl _)).rd (KH.out.later hB8 (Nat.le_refl _)) KA.out.2 KA.out.2
          have K14 := same_any _ _ _ _ w8 ho8.rd (KH.out.later hB8 (Nat.le_refl _)) KA.out.2 KA.out.2
          rw [decide_eq_true rfl] at K13 K14
          have K13 := Kept.mk K13
          have K14 := Kept.mk K14
          have KB8 := Kept.mk hB8
          clear hb8 hB8 ho8 ha8 K12
          go_wp2_with fail
          refine Calls.mono K13.out (fun e w9 hp => ?_)
          obtain ⟨rfl, rfl⟩ := hp
          go_wp2_with fail
          refine Calls.mono K14.out (fun e w9 hp => ?_)
          obtain ⟨rfl, rfl⟩ := hp
          go_wp2
          go_ret
          exact ⟨rfl, KB8.out⟩
      · have h64o : decide ((64 : Int) ≤ (base.length : Int)) = false := by simp; omega
        clear h64
        have K9 := Kept.mk (twin_any _ base w4b (KG.out.later KB4.out (Nat.le_refl _)) (by have := KL.out; omega))
        go_wp2_with fail
        refine Calls.mono K9.out (fun e w5 hp => ?_)
        obtain ⟨v5, rfl, ho5, hb5⟩ := hp
        have hB5 : Below w.heap.size w w5 := KB4.out.trans (hb5.mono KB4.out.size)
        have hO45 := KO4.out.later hb5 (Nat.le_refl _)
        have K10 := Kept.mk (twin_any _ D w5 hO45.rd (by have := KDl.out; omega))
        have KB5 := Kept.mk hB5
        have KO5 := Kept.mk ho5
        have KO45 := Kept.mk hO45
        clear hb5 hB5 ho5 hO45 K9
        go_wp2_with fail
        refine Calls.mono K10.out (fun e w6 hp => ?_)
        obtain ⟨v6, rfl, ho6, hb6⟩ := hp
        have hB6 : Below w.heap.size w w6 := KB5.out.trans (hb6.mono KB5.out.size)
        have K11 := apply_any _ _ base D target.length w6 (KO5.out.later hb6 (Nat.le_refl _)).rd ho6.rd KA.out.1 KD.out (by have := KDl.out; omega) (by have := KL.out; omega) (by have := KL.out; omega)
        rw [KAp.out target.length (Nat.le_refl _)] at K11
        have K11 := Kept.mk K11
        have KB6 := Kept.mk hB6
        have KO46 := Kept.mk (KO45.out.later hb6 (Nat.le_refl _))
        clear hb6 hB6 ho6 K10 KO45 KO5
        go_wp2_with fail
        refine Calls.mono K11.out (fun e w7 hp => ?_)
        obtain ⟨v7, rfl, ho7, ha7, -, hb7⟩ := hp
        have hB7 : Below w.heap.size w w7 := KB6.out.trans (hb7.mono KB6.out.size)
        have K12 := docApply_any _ _ base D target.length w7 (KG.out.later hB7 (Nat.le_refl _)) (KO46.out.later hb7 (Nat.le_refl _)).rd KA.out.1 KD.out (by have := KDl.out; omega) (by have := KL.out; omega) (by have := KL.out; omega)
        rw [KAp.out target.length (Nat.le_refl _)] at K12
        have K12 := Kept.mk K12
        have KB7 := Kept.mk hB7
        have KO7 := Kept.mk ho7
        clear hb7 hB7 ho7 ha7 K11 KO46
        go_wp2_with fail
        refine Calls.mono K12.out (fun e w8 hp => ?_)
        obtain ⟨v8, rfl, ho8, ha8, -, hb8⟩ := hp
        have hB8 : Below w.heap.size w w8 := KB7.out.trans (hb8.mono KB7.out.size)
        have K13 := same_any _ _ _ _ w8 (KO7.out.later hb8 (Nat.le_refl _)).rd (KH.out.later hB8 (Nat.le_refl _)) KA.out.2 KA.out.2
        have K14 := same_any _ _ _ _ w8 ho8.rd (KH.out.later hB8 (Nat.le_refl _)) KA.out.2 KA.out.2
        rw [decide_eq_true rfl] at K13 K14
        have K13 := Kept.mk K13
        have K14 := Kept.mk K14
        have KB8 := Kept.mk hB8
        clear hb8 hB8 ho8 ha8 K12
        go_wp2_with fail
        refine Calls.mono K13.out (fun e w9 hp => ?_)
        obtain ⟨rfl, rfl⟩ := hp
        go_wp2_with fail
        refine Calls.mono K14.out (fun e w9 hp => ?_)
        obtain ⟨rfl, rfl⟩ := hp
        go_wp2
        go_ret
        exact ⟨rfl, KB8.out⟩
end Go.Proofs.Ytkidoknklgoffaa
