/-
  Walks: DocDeflate.
-/
import Derived.Test.YtjijkcmbbccfmaaF25
namespace Go.Proofs.Ytjijkcmbbccfmaa
open Go.RowKit

set_option maxHeartbeats 1000000 in
set_option maxRecDepth 100000 in
theorem docDeflate_any (pv : Value) (p : List Int) (way : Int) (w : World) (hp : Rd .u8 anyB w pv p) (ha : AllB p) :
    Calls Try.prog 12 #[pv, .int .i64 way] w fun e w' => ∃ v', e = .returned (.tuple #[v', .int .i64 (dflF p way).2]) ∧ Own .u8 5 w' w.heap.size v' (dflF p way).1 ∧ Below w.heap.size w w' := by
  obtain ⟨pa, pc, rfl, -, -, -⟩ := hp.form
  by_cases h1 : way < 0
  · have KE : Kept (dflF p way = ([], 1)) := ⟨by unfold dflF; rw [if_pos (Or.inl h1)]⟩
    clear hp
    go_enter Try.func12, Try.ntmps12
    go_wp2
    go_ret2
    rw [KE.out]
    exact ⟨_, rfl, Own.nil .u8 5 _ _, Below.refl _ _⟩
  · by_cases h2 : 2 < way
    · have KE : Kept (dflF p way = ([], 1)) := ⟨by unfold dflF; rw [if_pos (Or.inr h2)]⟩
      clear hp
      go_enter Try.func12, Try.ntmps12
      go_wp2
      go_ret2
      rw [KE.out]
      exact ⟨_, rfl, Own.nil .u8 5 _ _, Below.refl _ _⟩
    · by_cases h3 : 1048576 < p.length
      · have KE : Kept (dflF p way = ([], 2)) := ⟨by unfold dflF; rw [if_neg (by omega), if_pos h3]⟩
        have h3i : (1048576 : Int) < (p.length : Int) := by omega
        clear hp
        go_enter Try.func12, Try.ntmps12
        go_wp2
        go_ret2
        rw [KE.out]
        exact ⟨_, rfl, Own.nil .u8 5 _ _, Below.refl _ _⟩
      · have KE : Kept (dflF p way = (dfF p way, 0)) := ⟨by unfold dflF; rw [if_neg (by omega), if_neg h3]⟩
        have h3i : ¬ (1048576 : Int) < (p.length : Int) := by omega
        have KD := Kept.mk (dDeflate_any _ p way w hp ha (by omega))
        clear hp
        go_enter Try.func12, Try.ntmps12
        go_wp2_with (go_at_call 16; refine Calls.mono KD.out (fun e w1 hp => ?_); obtain ⟨v1, rfl, ho1, hb1⟩ := hp; have KO1 := Kept.mk ho1; have KB1 := Kept.mk hb1; clear ho1 hb1)
        go_ret2
        rw [KE.out]
        exact ⟨_, rfl, KO1.out, KB1.out⟩
end Go.Proofs.Ytjijkcmbbccfmaa
