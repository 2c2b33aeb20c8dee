/-
  The walk of DeflateSizes.
-/
import Derived.Test.YtlcfedgeboafkaaF37
namespace Go.Proofs.Ytlcfedgeboafkaa
open Go.RowKit

theorem dfl_zero {p : List Int} (hl : p.length ≤ 5000) : dflF p 0 = (storedL p, 0) ∧ (storedL p).length = p.length + 5 := by
  refine ⟨by rw [dflF_ok (by omega) (by omega) (by omega)]; unfold dfF; rw [if_pos rfl], ?_⟩
  rw [storedL_last (by omega), List.length_append]
  have : (hdL 1 p.length).length = 5 := rfl
  omega
theorem dfl_one {p : List Int} (hl : p.length ≤ 5000) : dflF p 1 = (packF (fixL p), 0) := by
  rw [dflF_ok (by omega) (by omega) (by omega)]
  unfold dfF
  rw [if_neg (by omega), if_neg (fun e => by omega)]
theorem dfl_two {p : List Int} (hl : p.length ≤ 5000) : ∃ r, dflF p 2 = (r, 0) ∧ r.length = min (storedL p).length (packF (fixL p)).length := by
  refine ⟨_, dflF_ok (by omega) (by omega) (by omega), ?_⟩
  unfold dfF
  rw [if_neg (by omega)]
  split
  · omega
  · rename_i hh
    have : ¬ (storedL p).length ≤ (packF (fixL p)).length := fun e => hh ⟨rfl, e⟩
    omega

set_option maxHeartbeats 4000000 in
set_option maxRecDepth 100000 in
theorem sizes_walk (v : Value) (p : List Int) (w : World) (h : Rd .u8 anyB w v p) (ha : AllB p) :
    Calls Try.prog 4 #[v] w fun e w' => e = .returned (.bool true) ∧ Below w.heap.size w w' := by
  have KW := Kept.mk (awake_any w)
  obtain ⟨va, vc, rfl, -, -, -⟩ := h.form
  have KH := Kept.mk h
  have KA := Kept.mk ha
  clear h ha
  by_cases h1 : 5000 < p.length
  · have h1o : decide ((5000 : Int) < (p.length : Int)) = true := by simp; omega
    have h1p : (5000 : Int) < (p.length : Int) := by omega
    clear h1
    go_enter Try.func4, Try.ntmps4
    go_wp2_with fail
    refine Calls.mono KW.out (fun e w1 hp => ?_)
    obtain ⟨rfl, hb1⟩ := hp
    have KB1 := Kept.mk hb1
    clear hb1
    go_wp2
    go_ret
    exact ⟨rfl, KB1.out⟩
  · have h1o : decide ((5000 : Int) < (p.length : Int)) = false := by simp; omega
    have h1p : ¬ (5000 : Int) < (p.length : Int) := by omega
    have KL : Kept (p.length ≤ 5000) := ⟨by omega⟩
    have hz := dfl_zero KL.out
    have ho := dfl_one KL.out
    obtain ⟨r, ht, hr⟩ := dfl_two KL.out
    have hf := fixP_length p
    have KD : Kept (∀ v2 w2, Rd .u8 anyB w2 v2 p → (Calls Try.prog 7 #[v2, .int .i64 0] w2 fun e w' => ∃ v', e = .returned (.tuple #[v', .int .i64 0]) ∧ Own .u8 5 w' w2.heap.size v' (storedL p) ∧ Below w2.heap.size w2 w') ∧ (Calls Try.prog 7 #[v2, .int .i64 1] w2 fun e w' => ∃ v', e = .returned (.tuple #[v', .int .i64 0]) ∧ Own .u8 5 w' w2.heap.size v' (packF (fixL p)) ∧ Below w2.heap.size w2 w') ∧ (Calls Try.prog 7 #[v2, .int .i64 2] w2 fun e w' => ∃ v', e = .returned (.tuple #[v', .int .i64 0]) ∧ Own .u8 5 w' w2.heap.size v' r ∧ Below w2.heap.size w2 w')) := ⟨fun v2 w2 h2 => by
      have d0 := deflate_any v2 p 0 w2 h2 KA.out
      have d1 := deflate_any v2 p 1 w2 h2 KA.out
      have d2 := deflate_any v2 p 2 w2 h2 KA.out
      rw [hz.1] at d0
      rw [ho] at d1
      rw [ht] at d2
      exact ⟨d0, d1, d2⟩⟩
    have hzl := hz.2
    clear h1 hz ho ht
    generalize packF (fixL p) = F at *
    generalize storedL p = S at *
    have e1 : (S.length : Int) = (p.length : Int) + 5 := by omega
    have e2 : (r.length : Int) = min (S.length : Int) (F.length : Int) := by omega
    have e3 : (F.length : Int) ≤ (9 * (p.length : Int) + 10 + 7) / 8 := by omega
    have hpl : (p.length : Int) ≤ 5000 := by omega
    go_enter Try.func4, Try.ntmps4
    go_wp2_with fail
    refine Calls.mono KW.out (fun e w1 hp => ?_)
    obtain ⟨rfl, hb1⟩ := hp
    have K2 := Kept.mk (twin_any _ p w1 (KH.out.later hb1 (Nat.le_refl _)) (by have := KL.out; omega))
    have KB1 := Kept.mk hb1
    clear hb1
    go_wp2_with fail
    refine Calls.mono K2.out (fun e w2 hp => ?_)
    obtain ⟨v2, rfl, ho2, hb2⟩ := hp
    have KB2 := Kept.mk (KB1.out.trans (hb2.mono KB1.out.size))
    have K3 := Kept.mk (KD.out _ w2 ho2.rd.any).1
    clear hb2 ho2 K2
    go_wp2_with fail
    refine Calls.mono K3.out (fun e w3 hp => ?_)
    obtain ⟨v3, rfl, ho3, hb3⟩ := hp
    have KB3 := Kept.mk (KB2.out.trans (hb3.mono KB2.out.size))
    obtain ⟨a3, c3, rfl, -, -, -⟩ := ho3.rd.form
    have K2 := Kept.mk (twin_any _ p w3 (KH.out.later KB3.out (Nat.le_refl _)) (by have := KL.out; omega))
    clear hb3 ho3 K3
    go_wp2_with fail
    refine Calls.mono K2.out (fun e w4 hp => ?_)
    obtain ⟨v4, rfl, ho4, hb4⟩ := hp
    have KB4 := Kept.mk (KB3.out.trans (hb4.mono KB3.out.size))
    have K3 := Kept.mk (KD.out _ w4 ho4.rd.any).2.1
    clear hb4 ho4 K2
    go_wp2_with fail
    refine Calls.mono K3.out (fun e w5 hp => ?_)
    obtain ⟨v5, rfl, ho5, hb5⟩ := hp
    have KB5 := Kept.mk (KB4.out.trans (hb5.mono KB4.out.size))
    obtain ⟨a5, c5, rfl, -, -, -⟩ := ho5.rd.form
    have K2 := Kept.mk (twin_any _ p w5 (KH.out.later KB5.out (Nat.le_refl _)) (by have := KL.out; omega))
    clear hb5 ho5 K3
    go_wp2_with fail
    refine Calls.mono K2.out (fun e w6 hp => ?_)
    obtain ⟨v6, rfl, ho6, hb6⟩ := hp
    have KB6 := Kept.mk (KB5.out.trans (hb6.mono KB5.out.size))
    have K3 := Kept.mk (KD.out _ w6 ho6.rd.any).2.2
    clear hb6 ho6 K2
    go_wp2_with fail
    refine Calls.mono K3.out (fun e w7 hp => ?_)
    obtain ⟨v7, rfl, ho7, hb7⟩ := hp
    have KB7 := Kept.mk (KB6.out.trans (hb7.mono KB6.out.size))
    obtain ⟨a7, c7, rfl, -, -, -⟩ := ho7.rd.form
    clear hb7 ho7 K3 KD
    have g1 : ((S.length : Int) == (p.length : Int) + 5) = true := by simp; omega
    have g2 : (if (F.length : Int) < (S.length : Int) then (F.length : Int) else (S.length : Int)) = (r.length : Int) := by split <;> omega
    have g3 : decide ((F.length : Int) ≤ (9 * (p.length : Int) + 10 + 7) / 8) = true := by simp; omega
    clear hr hzl hf e2
    go_wp2
    all_goals go_ret
    all_goals exact ⟨rfl, KB7.out⟩
end Go.Proofs.Ytlcfedgeboafkaa
