/-
  How long streams are; Deflate.
-/
import Derived.Test.YtjijkcmbbccfmaaF35
namespace Go.Proofs.Ytjijkcmbbccfmaa
open Go.RowKit

theorem lenLen2_all : (List.range 256).all (fun v => decide ((lenL v).length + 18 ≤ 9 * (v + 3))) = true := by kernel_rfl
theorem lenL_bits (v : Nat) : IsBits (lenL v) := by
  unfold lenL
  split
  · exact symL_bits _
  · split
    · exact symL_bits _
    · exact (symL_bits _).append (isBits_bitsL _ _)
theorem distL_bits (v : Nat) : IsBits (distL v) := by
  unfold distL
  split
  · exact codeL_bits _ _
  · exact (codeL_bits _ _).append (isBits_bitsL _ _)
theorem tkF_facts (p : List Int) : ∀ (f i : Nat), IsBits (tkF p f i) ∧ (tkF p f i).length ≤ 9 * (p.length - i)
  | 0, _ => ⟨IsBits.nil, by simp [tkF]⟩
  | f + 1, i => by
    rw [tkF]
    by_cases hi : i < p.length
    · rw [if_pos hi]
      by_cases h0 : (mchF p i).1 = 0
      · rw [if_pos h0]
        have h := tkF_facts p f (i + 1)
        have hs := symL_length (p.getD i 0).toNat
        exact ⟨(symL_bits _).append h.1, by rw [List.length_append]; omega⟩
      · rw [if_neg h0]
        rcases mchF_ok p i with hok | ⟨q1, q2, q3, q4, q5, q6, -⟩
        · rw [hok] at h0
          exact absurd rfl h0
        · have h := tkF_facts p f (i + (mchF p i).1)
          have hd := distL_length (v := (mchF p i).2 - 1) (by omega)
          have hl := List.all_eq_true.1 lenLen2_all ((mchF p i).1 - 3) (by simp; omega)
          simp only [decide_eq_true_eq] at hl
          refine ⟨(lenL_bits _).append ((distL_bits _).append h.1), ?_⟩
          rw [List.length_append, List.length_append]
          omega
    · rw [if_neg hi]
      exact ⟨IsBits.nil, by simp⟩
theorem fixL_bits (p : List Int) : IsBits (fixL p) := by
  have h1 : IsBits [1] := fun b hb => Or.inr (by simpa using hb)
  unfold fixL
  exact ((h1.append (isBits_bitsL _ _)).append (tkF_facts p _ _).1).append (symL_bits _)
theorem fixL_len (p : List Int) : (fixL p).length ≤ 9 * p.length + 10 := by
  have h := (tkF_facts p p.length 0).2
  have h7 : (symL 256).length = 7 := rfl
  unfold fixL tksL
  simp only [List.length_append, bitsL_length, h7, List.length_cons, List.length_nil]
  omega
theorem fixP_all (p : List Int) : AllB (packF (fixL p)) := packF_all _ _ (Nat.le_refl _) (fixL_bits p)
theorem fixP_length (p : List Int) : (packF (fixL p)).length ≤ (9 * p.length + 17) / 8 := by
  have := fixL_len p
  rw [packF_len _ _ (Nat.le_refl _)]
  omega
theorem hdL_all {last : Int} {n : Nat} (h : last = 0 ∨ last = 1) : AllB (hdL last n) := by
  intro x hx
  unfold hdL at hx
  simp only [List.mem_cons, List.not_mem_nil, or_false] at hx
  rcases hx with rfl | rfl | rfl | rfl | rfl <;> omega
theorem stGo_all : ∀ (f : Nat) (p : List Int), AllB p → AllB (stGo f p)
  | 0, p, h => (hdL_all (Or.inr rfl)).append h
  | f + 1, p, h => by
    rw [stGo]
    split
    · exact ((hdL_all (Or.inl rfl)).append (h.take _)).append (stGo_all f _ (h.drop _))
    · exact (hdL_all (Or.inr rfl)).append h
theorem storedL_all {p : List Int} (h : AllB p) : AllB (storedL p) := stGo_all _ _ h
theorem dfF_all {p : List Int} (h : AllB p) (way : Int) : AllB (dfF p way) := by
  unfold dfF
  split
  · exact storedL_all h
  · split
    · exact storedL_all h
    · exact fixP_all p
theorem dflF_all {p : List Int} (h : AllB p) (way : Int) : AllB (dflF p way).1 := by
  unfold dflF
  split
  · exact AllIn.nil
  · split
    · exact AllIn.nil
    · exact dfF_all h way
theorem dfF_length {p : List Int} (hl : p.length ≤ 1048576) (way : Int) : (dfF p way).length ≤ 6 * p.length + 5 := by
  have h1 := storedL_length p.length p (Nat.le_refl _)
  have h2 := fixP_length p
  unfold dfF
  split
  · exact h1
  · split
    · exact h1
    · omega
theorem dflF_ok {p : List Int} {way : Int} (h0 : 0 ≤ way) (h2 : way ≤ 2) (hl : p.length ≤ 1048576) : dflF p way = (dfF p way, 0) := by
  unfold dflF
  rw [if_neg (by omega), if_neg (by omega)]

set_option maxHeartbeats 1000000 in
set_option maxRecDepth 100000 in
theorem deflate_any (pv : Value) (p : List Int) (way : Int) (w : World) (hp : Rd .u8 anyB w pv p) (ha : AllB p) :
    Calls Try.prog 11 #[pv, .int .i64 way] w fun e w' => ∃ v', e = .returned (.tuple #[v', .int .i64 (dflF p way).2]) ∧ Own .u8 5 w' w.heap.size v' (dflF p way).1 ∧ Below w.heap.size w w' := by
  obtain ⟨pa, pc, rfl, -, -, -⟩ := hp.form
  by_cases h1 : way < 0
  · have KE : Kept (dflF p way = ([], 1)) := ⟨by unfold dflF; rw [if_pos (Or.inl h1)]⟩
    clear hp
    go_enter Try.func11, Try.ntmps11
    go_wp2
    go_ret2
    rw [KE.out]
    exact ⟨_, rfl, Own.nil .u8 5 _ _, Below.refl _ _⟩
  · by_cases h2 : 2 < way
    · have KE : Kept (dflF p way = ([], 1)) := ⟨by unfold dflF; rw [if_pos (Or.inr h2)]⟩
      clear hp
      go_enter Try.func11, Try.ntmps11
      go_wp2
      go_ret2
      rw [KE.out]
      exact ⟨_, rfl, Own.nil .u8 5 _ _, Below.refl _ _⟩
    · by_cases h3 : 1048576 < p.length
      · have KE : Kept (dflF p way = ([], 2)) := ⟨by unfold dflF; rw [if_neg (by omega), if_pos h3]⟩
        have h3i : (1048576 : Int) < (p.length : Int) := by omega
        clear hp
        go_enter Try.func11, Try.ntmps11
        go_wp2
        go_ret2
        rw [KE.out]
        exact ⟨_, rfl, Own.nil .u8 5 _ _, Below.refl _ _⟩
      · have KE : Kept (dflF p way = (dfF p way, 0)) := ⟨by unfold dflF; rw [if_neg (by omega), if_neg h3]⟩
        have h3i : ¬ (1048576 : Int) < (p.length : Int) := by omega
        have KS := Kept.mk (storedStream_any _ p w hp (by omega))
        have KF : Kept (∀ w', Below w.heap.size w w' → Calls Try.prog 15 #[.slice pa p.length pc] w' fun e w2 => ∃ v', e = .returned v' ∧ Own .u8 5 w2 w'.heap.size v' (packF (fixL p)) ∧ Below w'.heap.size w' w2) := ⟨fun w' hb => fixedStream_any _ p w' (hp.later hb (Nat.le_refl _)) ha (by omega)⟩
        clear hp ha
        rcases (by omega : way = 0 ∨ way = 1 ∨ way = 2) with rfl | rfl | rfl
        · have KE2 : Kept (dfF p 0 = storedL p) := ⟨by unfold dfF; rw [if_pos rfl]⟩
          go_enter Try.func11, Try.ntmps11
          go_wp2_with (go_at_call 14; refine Calls.mono KS.out (fun e w1 hp => ?_); obtain ⟨v1, rfl, ho1, hb1⟩ := hp; have KO1 := Kept.mk ho1; have KB1 := Kept.mk hb1; clear ho1 hb1)
          go_ret2
          rw [KE.out]
          exact ⟨_, rfl, by rw [KE2.out]; exact KO1.out, KB1.out⟩
        · have KE2 : Kept (dfF p 1 = packF (fixL p)) := ⟨by unfold dfF; rw [if_neg (by omega), if_neg (fun e => by omega)]⟩
          have KF0 := Kept.mk (KF.out w (Below.refl _ _))
          go_enter Try.func11, Try.ntmps11
          go_wp2_with (go_at_call 15; refine Calls.mono KF0.out (fun e w1 hp => ?_); obtain ⟨v1, rfl, ho1, hb1⟩ := hp; have KO1 := Kept.mk ho1; have KB1 := Kept.mk hb1; clear ho1 hb1)
          go_ret2
          rw [KE.out]
          exact ⟨_, rfl, by rw [KE2.out]; exact KO1.out, KB1.out⟩
        · by_cases hc : (storedL p).length ≤ (packF (fixL p)).length
          · have KE2 : Kept (dfF p 2 = storedL p) := ⟨by unfold dfF; rw [if_neg (by omega), if_pos ⟨rfl, hc⟩]⟩
            have hci : ¬ ((packF (fixL p)).length : Int) < ((storedL p).length : Int) := by omega
            have hcn : ¬ (packF (fixL p)).length < (storedL p).length := by omega
            generalize packF (fixL p) = F at *
            generalize storedL p = S at *
            go_enter Try.func11, Try.ntmps11
            go_wp2_with (first | (go_at_call 14; refine Calls.mono KS.out (fun e w1 hp => ?_); obtain ⟨v1, rfl, ho1, hb1⟩ := hp; obtain ⟨a1, c1, rfl, -, -, -⟩ := ho1.rd.form; have KO1 := Kept.mk ho1; have KB1 := Kept.mk hb1; have KF1 := Kept.mk (KF.out w1 hb1); clear ho1 hb1) | (go_at_call 15; refine Calls.mono KF1.out (fun e w2 hp => ?_); obtain ⟨v2, rfl, ho2, hb2⟩ := hp; obtain ⟨a2, c2, rfl, -, -, -⟩ := ho2.rd.form; have KO2 := Kept.mk ho2; have KB2 := Kept.mk hb2; clear ho2 hb2))
            go_ret2
            rw [KE.out]
            exact ⟨_, rfl, by rw [KE2.out]; exact KO1.out.later KB2.out (Nat.le_refl _), KB1.out.trans (KB2.out.mono KB1.out.size)⟩
          · have KE2 : Kept (dfF p 2 = packF (fixL p)) := ⟨by unfold dfF; rw [if_neg (by omega), if_neg (fun e => hc e.2)]⟩
            have hci : ((packF (fixL p)).length : Int) < ((storedL p).length : Int) := by omega
            have hcn : (packF (fixL p)).length < (storedL p).length := by omega
            generalize packF (fixL p) = F at *
            generalize storedL p = S at *
            go_enter Try.func11, Try.ntmps11
            go_wp2_with (first | (go_at_call 14; refine Calls.mono KS.out (fun e w1 hp => ?_); obtain ⟨v1, rfl, ho1, hb1⟩ := hp; obtain ⟨a1, c1, rfl, -, -, -⟩ := ho1.rd.form; have KO1 := Kept.mk ho1; have KB1 := Kept.mk hb1; have KF1 := Kept.mk (KF.out w1 hb1); clear ho1 hb1) | (go_at_call 15; refine Calls.mono KF1.out (fun e w2 hp => ?_); obtain ⟨v2, rfl, ho2, hb2⟩ := hp; obtain ⟨a2, c2, rfl, -, -, -⟩ := ho2.rd.form; have KO2 := Kept.mk ho2; have KB2 := Kept.mk hb2; clear ho2 hb2))
            go_ret2
            rw [KE.out]
            exact ⟨_, rfl, by rw [KE2.out]; exact KO2.out.mono KB1.out.size, KB1.out.trans (KB2.out.mono KB1.out.size)⟩
end Go.Proofs.Ytjijkcmbbccfmaa
