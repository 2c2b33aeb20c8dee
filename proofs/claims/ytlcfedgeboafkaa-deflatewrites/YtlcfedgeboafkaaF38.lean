/-
  The walk of DeflateWrites.
-/
import Derived.Test.YtlcfedgeboafkaaF37
namespace Go.Proofs.Ytlcfedgeboafkaa
open Go.RowKit

set_option maxHeartbeats 4000000 in
set_option maxRecDepth 100000 in
theorem writes_walk (v : Value) (p : List Int) (way : Int) (w : World) (h : Rd .u8 anyB w v p) (ha : AllB p) :
    Calls Try.prog 3 #[v, .int .i64 way] w fun e w' => e = .returned (.bool true) ∧ Below w.heap.size w w' := by
  have KW := Kept.mk (awake_any w)
  obtain ⟨va, vc, rfl, -, -, -⟩ := h.form
  have KH := Kept.mk h
  have KA := Kept.mk ha
  clear h ha
  by_cases h1 : 3000 < p.length
  · have h1o : decide ((3000 : Int) < (p.length : Int)) = true := by simp; omega
    have h1p : (3000 : Int) < (p.length : Int) := by omega
    clear h1
    go_enter Try.func3, Try.ntmps3
    go_wp2_with fail
    refine Calls.mono KW.out (fun e w1 hp => ?_)
    obtain ⟨rfl, hb1⟩ := hp
    have KB1 := Kept.mk hb1
    clear hb1
    go_wp2
    go_ret
    exact ⟨rfl, KB1.out⟩
  · have h1o : decide ((3000 : Int) < (p.length : Int)) = false := by simp; omega
    have h1p : ¬ (3000 : Int) < (p.length : Int) := by omega
    have KL : Kept (p.length ≤ 3000) := ⟨by omega⟩
    clear h1
    go_enter Try.func3, Try.ntmps3
    go_wp2_with fail
    refine Calls.mono KW.out (fun e w1 hp => ?_)
    obtain ⟨rfl, hb1⟩ := hp
    have K2 := Kept.mk (twin_any _ p w1 (KH.out.later hb1 (Nat.le_refl _)) (by have := KL.out; omega))
    have KB1 := Kept.mk hb1
    clear hb1
    go_wp2_with fail
    refine Calls.mono K2.out (fun e w2 hp => ?_)
    obtain ⟨v2, rfl, ho2, hb2⟩ := hp
    have hB2 : Below w.heap.size w w2 := KB1.out.trans (hb2.mono KB1.out.size)
    have K3 := Kept.mk (deflate_any _ p way w2 ho2.rd.any KA.out)
    have KB2 := Kept.mk hB2
    clear hb2 hB2 ho2 K2
    go_wp2_with fail
    refine Calls.mono K3.out (fun e w3 hp => ?_)
    obtain ⟨v3, rfl, ho3, hb3⟩ := hp
    have hB3 : Below w.heap.size w w3 := KB2.out.trans (hb3.mono KB2.out.size)
    have K4 := Kept.mk (docDeflate_any _ p way w3 (KH.out.later hB3 (Nat.le_refl _)) KA.out)
    have KB3 := Kept.mk hB3
    have KO3 := Kept.mk ho3
    clear hb3 hB3 ho3 K3
    go_wp2_with fail
    refine Calls.mono K4.out (fun e w4 hp => ?_)
    obtain ⟨v4, rfl, ho4, hb4⟩ := hp
    have hB4 : Below w.heap.size w w4 := KB3.out.trans (hb4.mono KB3.out.size)
    have K5 := same_any _ _ _ _ w4 (KO3.out.later hb4 (Nat.le_refl _)).rd ho4.rd (dflF_all KA.out way) (dflF_all KA.out way)
    rw [decide_eq_true rfl] at K5
    have K5 := Kept.mk K5
    have KB4 := Kept.mk hB4
    clear hb4 hB4 ho4 K4 KO3
    generalize (dflF p way).2 = E at *
    go_wp2_with fail
    refine Calls.mono K5.out (fun e w5 hp => ?_)
    obtain ⟨rfl, rfl⟩ := hp
    go_wp2
    go_ret
    exact ⟨rfl, KB4.out⟩
end Go.Proofs.Ytlcfedgeboafkaa
