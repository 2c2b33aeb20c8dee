/-
  The walk of NumOnce.
-/
import Derived.Test.YtpleamahaogfiabP2
import Derived.Test.YtpleamahaogfiabMath3
import Derived.Deep.RegionHeld3
namespace Go.Proofs.Ytpleamahaogfiab
open Go.RowKit

theorem take_split (xs : List Int) (n m : Nat) (hm : 1 ≤ m) (h : n + m ≤ xs.length) : (xs.drop n).take m = xs.getD n 0 :: (xs.drop (n + 1)).take (m - 1) := by
  obtain ⟨k, rfl⟩ : ∃ k, m = k + 1 := ⟨m - 1, by omega⟩
  rw [drop_cons xs n (by omega), List.take_succ_cons]
  simp

/-- What Span answers at the beginning, in the two ways. -/
theorem span_first (xs : List Int) (hA : AllB xs) : (∃ E : Int, spanS xs 0 = (0, 0, E) ∧ (E != 0) = true) ∨ ∃ (V : Int) (m : Nat), spanS xs 0 = (V, (m : Int), 0) ∧ 0 ≤ V ∧ V < 18446744073709551616 ∧ 1 ≤ m ∧ m ≤ xs.length ∧ spanL V = xs.take m := by
  by_cases he : (endS xs ((0 : Nat) : Int)).2 = 0
  · obtain ⟨n, m, hn, hem, h1, hm1, hnm⟩ := endS_ok he
    obtain rfl : n = 0 := by omega
    have hS := spanS_some he h1
    cases hT : spanT xs 0 m with
    | none => exact Or.inl ⟨10, by simpa [hT] using hS, rfl⟩
    | some V =>
      have hf := endL_form (xs.drop 0) m (fun x hx => hA x (by simpa using hx)) hem
      have hsp := take_split xs 0 m hm1 hnm
      rw [hsp] at hf
      obtain ⟨a1, a2, a3⟩ := span_once _ _ V hf hT
      refine Or.inr ⟨V, m, by simpa [hT] using hS, a1, a2, hm1, by omega, ?_⟩
      rw [a3, ← hsp, List.drop_zero]
  · exact Or.inl ⟨_, by show spanS xs ((0 : Nat) : Int) = _; unfold spanS; rw [if_neg he], endS_err he⟩

set_option maxHeartbeats 1000000 in
theorem numOnce_no (v : Value) (xs : List Int) (E : Int) (w : World) (r : Rd w v xs) (hl : xs.length + 20 ≤ 140737488355328) (hS : spanS xs 0 = (0, 0, E)) (hE : (E != 0) = true) :
    Calls Try.prog 6 #[v] w fun e w' => e = .returned (.bool true) ∧ Below w.heap.size w w' := by
  have hcon := fun v w h => calls_still (span_any v xs 0 w h (by omega) hl)
  rw [hS] at hcon
  have HC : Hid _ := hcon
  clear hcon hS
  go_enter Try.func6, Try.ntmps6
  go_wp2_with fail
  refine Calls.mono (awake_any w) (fun e w1 hp => ?_)
  obtain ⟨rfl, hb1⟩ := hp
  have r1 := r.later hb1 (Nat.le_refl _)
  go_wp2_with fail
  refine Calls.mono (twin_rd v xs w1 r1 hl) (fun e w2 hp => ?_)
  obtain ⟨t, rfl, rt, hb2⟩ := hp
  go_wp2_with fail
  refine Calls.mono (HC.out t w2 rt) (fun e w3 hp => ?_)
  obtain ⟨rfl, hb3⟩ := hp
  go_wp2
  go_ret
  exact ⟨rfl, hb1.trans ((hb2.mono hb1.size).trans (hb3.mono (Nat.le_trans hb1.size hb2.size)))⟩

set_option maxHeartbeats 400000 in
theorem numOnce_yes (v : Value) (xs : List Int) (V : Int) (m : Nat) (w : World) (r : Rd w v xs) (hl : xs.length + 20 ≤ 140737488355328) (hS : spanS xs 0 = (V, (m : Int), 0)) (hV0 : 0 ≤ V) (hV1 : V < 18446744073709551616) (hm1 : 1 ≤ m) (hm : m ≤ xs.length) (hsp : spanL V = xs.take m) :
    Calls Try.prog 6 #[v] w fun e w' => e = .returned (.bool true) ∧ Below w.heap.size w w' := by
  have hcon := fun v w h => calls_still (span_any v xs 0 w h (by omega) hl)
  rw [hS] at hcon
  have HC : Hid _ := hcon
  have hput := fun w => putSpan_rd (.slice none 0 0) [] V w (Rd.nil w) hV0 hV1 (by simp)
  rw [List.nil_append, hsp] at hput
  have HP : Hid _ := hput
  clear hcon hS hput hsp
  obtain ⟨b, off, c, rfl, hlt, hc⟩ := r.open (by omega)
  have hcap := r.capOf
  clear hc
  go_enter Try.func6, Try.ntmps6
  go_wp2_with fail
  refine Calls.mono (awake_any w) (fun e w1 hp => ?_)
  obtain ⟨rfl, hb1⟩ := hp
  have r1 := r.later hb1 (Nat.le_refl _)
  go_wp2_with fail
  refine Calls.mono (twin_rd _ xs w1 r1 hl) (fun e w2 hp => ?_)
  obtain ⟨t, rfl, rt, hb2⟩ := hp
  have r2 := r1.later hb2 (Nat.le_refl _)
  go_wp2_with fail
  refine Calls.mono (HC.out t w2 rt) (fun e w3 hp => ?_)
  obtain ⟨rfl, hb3⟩ := hp
  have r3 := r2.later hb3 (Nat.le_refl _)
  have H3 : Below w.heap.size w w3 := hb1.trans ((hb2.mono hb1.size).trans (hb3.mono (Nat.le_trans hb1.size hb2.size)))
  have rs : Rd w3 (.slice (some ⟨b, off, none⟩) m c) (xs.take m) := by
    have := r3.sub 0 m (by omega) (by omega)
    simpa using this
  have rs' : Rd w3.drew (.slice (some ⟨b, off, none⟩) m c) (xs.take m) := rs.later (Below.drew (Below.refl w3.heap.size w3)) (Nat.le_refl _)
  clear r r1 r2 r3 rt hb1 hb2 hb3 rs HC
  have g1 : (m : Int) ≤ xs.length := by omega
  have g2 : (m : Int) ≤ c := by omega
  have g3 : (0 : Int) ≤ m := by omega
  have g5 : (if (0 : Int) > (m : Int) then (0 : Int) else (m : Int)) = (m : Int) := by rw [if_neg (by omega)]
  have g6 : ¬ ((0 : Int) > (m : Int)) := by omega
  clear hcap hm1 hm hlt hl
  go_wp2_with fail
  go_region_held3 (fun _ => True) (trivial) (first | (go_at_call 18; refine Calls.mono (HP.out _) (fun e w4 hp => ?_); obtain ⟨q, rfl, rq, hb4⟩ := hp; have rs4 := rs'.later hb4 (Nat.le_refl _)) | (go_at_call 15; refine Calls.mono (same_true q _ (xs.take m) _ rq rs4) (fun e w5 hp => ?_); obtain ⟨rfl, hb5⟩ := hp))
  all_goals
    go_wp2
    go_ret
    exact ⟨rfl, H3.trans (((Below.drew (Below.refl _ _)).trans (hb4.mono H3.size)).trans (hb5.mono (Nat.le_trans H3.size hb4.size)))⟩

theorem numOnce_walk (v : Value) (xs : List Int) (w : World) (r : Rd w v xs) (hl : xs.length + 20 ≤ 140737488355328) :
    Calls Try.prog 6 #[v] w fun e w' => e = .returned (.bool true) ∧ Below w.heap.size w w' := by
  rcases span_first xs r.allB with ⟨E, h1, h2⟩ | ⟨V, m, h1, h2, h3, h4, h5, h6⟩
  · exact numOnce_no v xs E w r hl h1 h2
  · exact numOnce_yes v xs V m w r hl h1 h2 h3 h4 h5 h6
end Go.Proofs.Ytpleamahaogfiab
