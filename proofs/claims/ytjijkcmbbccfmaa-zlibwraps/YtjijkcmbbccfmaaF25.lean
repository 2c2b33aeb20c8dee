/-
  Walks: the document's Deflate.
-/
import Derived.Test.YtjijkcmbbccfmaaF24
import Derived.Test.YtjijkcmbbccfmaaF10
namespace Go.Proofs.Ytjijkcmbbccfmaa
open Go.RowKit

/-- A stream, by its way. -/
def dfF (p : List Int) (way : Int) : List Int := if way = 0 then storedL p else if way = 2 ∧ (storedL p).length ≤ (packF (fixL p)).length then storedL p else packF (fixL p)

/-- What Deflate answers: bytes, and an error's number. -/
def dflF (p : List Int) (way : Int) : List Int × Int := if way < 0 ∨ 2 < way then ([], 1) else if 1048576 < p.length then ([], 2) else (dfF p way, 0)

set_option maxHeartbeats 1000000 in
set_option maxRecDepth 100000 in
theorem dDeflate_any (pv : Value) (p : List Int) (way : Int) (w : World) (hp : Rd .u8 anyB w pv p) (ha : AllB p) (hl : p.length ≤ 16777216) :
    Calls Try.prog 16 #[pv, .int .i64 way] w fun e w' => ∃ v', e = .returned v' ∧ Own .u8 5 w' w.heap.size v' (dfF p way) ∧ Below w.heap.size w w' := by
  have KS := Kept.mk (dStored_any pv p w hp (by omega))
  have KF : Kept (∀ w', Below w.heap.size w w' → Calls Try.prog 28 #[pv] w' fun e w2 => ∃ v', e = .returned v' ∧ Own .u8 5 w2 w'.heap.size v' (packF (fixL p)) ∧ Below w'.heap.size w' w2) := ⟨fun w' hb => dFixed_any pv p w' (hp.later hb (Nat.le_refl _)) ha hl⟩
  clear hp ha
  by_cases h0 : way = 0
  · subst h0
    have KE : Kept (dfF p 0 = storedL p) := ⟨by unfold dfF; rw [if_pos rfl]⟩
    go_enter Try.func16, Try.ntmps16
    go_wp2_with (go_at_call 27; refine Calls.mono KS.out (fun e w1 hp => ?_); obtain ⟨v1, rfl, ho1, hb1⟩ := hp; have KO1 := Kept.mk ho1; have KB1 := Kept.mk hb1; clear ho1 hb1)
    go_ret
    exact ⟨_, rfl, by rw [KE.out]; exact KO1.out, KB1.out⟩
  · have hd0 : (way == 0) = false := by simpa using h0
    by_cases h2 : way = 2
    · subst h2
      by_cases hc : (storedL p).length ≤ (packF (fixL p)).length
      · have KE : Kept (dfF p 2 = storedL p) := ⟨by unfold dfF; rw [if_neg (by omega), if_pos ⟨rfl, hc⟩]⟩
        have hci : ((storedL p).length : Int) ≤ ((packF (fixL p)).length : Int) := by omega
        generalize packF (fixL p) = F at *
        generalize storedL p = S at *
        go_enter Try.func16, Try.ntmps16
        go_wp2_with (first | (go_at_call 27; refine Calls.mono KS.out (fun e w1 hp => ?_); obtain ⟨v1, rfl, ho1, hb1⟩ := hp; obtain ⟨a1, c1, rfl, -, -, -⟩ := ho1.rd.form; have KO1 := Kept.mk ho1; have KB1 := Kept.mk hb1; have KF1 := Kept.mk (KF.out w1 hb1); clear ho1 hb1) | (go_at_call 28; refine Calls.mono KF1.out (fun e w2 hp => ?_); obtain ⟨v2, rfl, ho2, hb2⟩ := hp; obtain ⟨a2, c2, rfl, -, -, -⟩ := ho2.rd.form; have KO2 := Kept.mk ho2; have KB2 := Kept.mk hb2; clear ho2 hb2))
        go_ret
        exact ⟨_, rfl, by rw [KE.out]; exact KO1.out.later KB2.out (Nat.le_refl _), KB1.out.trans (KB2.out.mono KB1.out.size)⟩
      · have KE : Kept (dfF p 2 = packF (fixL p)) := ⟨by unfold dfF; rw [if_neg (by omega), if_neg (fun e => hc e.2)]⟩
        have hci : ¬ ((storedL p).length : Int) ≤ ((packF (fixL p)).length : Int) := by omega
        generalize packF (fixL p) = F at *
        generalize storedL p = S at *
        go_enter Try.func16, Try.ntmps16
        go_wp2_with (first | (go_at_call 27; refine Calls.mono KS.out (fun e w1 hp => ?_); obtain ⟨v1, rfl, ho1, hb1⟩ := hp; obtain ⟨a1, c1, rfl, -, -, -⟩ := ho1.rd.form; have KO1 := Kept.mk ho1; have KB1 := Kept.mk hb1; have KF1 := Kept.mk (KF.out w1 hb1); clear ho1 hb1) | (go_at_call 28; refine Calls.mono KF1.out (fun e w2 hp => ?_); obtain ⟨v2, rfl, ho2, hb2⟩ := hp; obtain ⟨a2, c2, rfl, -, -, -⟩ := ho2.rd.form; have KO2 := Kept.mk ho2; have KB2 := Kept.mk hb2; clear ho2 hb2))
        go_ret
        exact ⟨_, rfl, by rw [KE.out]; exact KO2.out.mono KB1.out.size, KB1.out.trans (KB2.out.mono KB1.out.size)⟩
    · have hd2 : (way == 2) = false := by simpa using h2
      have KE : Kept (dfF p way = packF (fixL p)) := ⟨by unfold dfF; rw [if_neg h0, if_neg (fun e => h2 e.1)]⟩
      generalize packF (fixL p) = F at *
      generalize storedL p = S at *
      go_enter Try.func16, Try.ntmps16
      go_wp2_with (first | (go_at_call 27; refine Calls.mono KS.out (fun e w1 hp => ?_); obtain ⟨v1, rfl, ho1, hb1⟩ := hp; have KO1 := Kept.mk ho1; have KB1 := Kept.mk hb1; have KF1 := Kept.mk (KF.out w1 hb1); clear ho1 hb1) | (go_at_call 28; refine Calls.mono KF1.out (fun e w2 hp => ?_); obtain ⟨v2, rfl, ho2, hb2⟩ := hp; have KO2 := Kept.mk ho2; have KB2 := Kept.mk hb2; clear ho2 hb2))
      go_ret
      exact ⟨_, rfl, by rw [KE.out]; exact KO2.out.mono KB1.out.size, KB1.out.trans (KB2.out.mono KB1.out.size)⟩
end Go.Proofs.Ytjijkcmbbccfmaa
