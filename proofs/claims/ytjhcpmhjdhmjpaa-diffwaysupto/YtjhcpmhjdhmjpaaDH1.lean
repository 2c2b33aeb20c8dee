/-
  Walks: the document's long, DocWay, DocRest; Text of lists that are too long.
-/
import Derived.Test.YtjhcpmhjdhmjpaaWX4
import Derived.Test.YtjhcpmhjdhmjpaaWM
namespace Go.Proofs.Ytjhcpmhjdhmjpaa
open Go.RowKit Go.Shelf

set_option maxHeartbeats 400000 in
set_option maxRecDepth 100000 in
theorem long_any (a b : Option Addr) (n m c d : Nat) (w : World) :
    Calls Try.prog 31 #[.slice a n c, .slice b m d] w fun e w' => e = .returned (.bool (longB n m)) ∧ w' = w := by
  unfold longB
  by_cases h1 : 1000 < n
  · have g1 : decide ((1000 : Int) < (n : Int)) = true := decide_eq_true (by omega)
    have K1 : Kept (decide (1000 < n) = true) := ⟨decide_eq_true h1⟩
    clear h1
    go_enter Try.func31, Try.ntmps31
    go_wp2
    go_ret
    exact ⟨by rw [K1.out]; rfl, rfl⟩
  · have g1 : decide ((1000 : Int) < (n : Int)) = false := decide_eq_false (by omega)
    have K1 : Kept (decide (1000 < n) = false) := ⟨decide_eq_false h1⟩
    have K2 : Kept (decide ((1000 : Int) < (m : Int)) = decide (1000 < m)) := ⟨by simp only [decide_eq_decide]; omega⟩
    clear h1
    go_enter Try.func31, Try.ntmps31
    go_wp2
    go_ret
    exact ⟨by rw [K1.out, Bool.false_or, ← K2.out]; rfl, rfl⟩
set_option maxHeartbeats 400000 in
set_option maxRecDepth 100000 in
theorem docWayE_any (v u : Value) (a b : List ByteArray) (w : World) (hv : RdS w v a) (hu : RdS w u b) :
    Calls Try.prog 11 #[v, u] w fun e w' => Below w.heap.size w w' ∧ ((longB a.length b.length = true ∧ e = .returned (.tuple #[.slice none 0 0, .int .i64 2])) ∨ (longB a.length b.length = false ∧ ∃ v', e = .returned (.tuple #[v', .int .i64 0]) ∧ OwnW w' w.heap.size v' (wayP a b 0 0))) := by
  have KV := Kept.mk hv
  have KU := Kept.mk hu
  obtain ⟨pa, pc, rfl⟩ := hv.form
  obtain ⟨qa, qc, rfl⟩ := hu.form
  have K1 := Kept.mk (long_any pa qa a.length b.length pc qc w)
  clear hv hu
  by_cases hL : longB a.length b.length = true
  · have KL := Kept.mk hL
    rw [hL] at K1
    clear hL
    go_enter Try.func11, Try.ntmps11
    go_wp2_with fail
    refine Calls.mono K1.out (fun e w1 hp => ?_)
    obtain ⟨rfl, hw⟩ := hp
    subst w1
    clear K1
    go_wp2
    go_ret2
    exact ⟨Below.refl _ _, .inl ⟨KL.out, rfl⟩⟩
  · have hL2 : longB a.length b.length = false := by simpa using hL
    have KL := Kept.mk hL2
    have K2 := Kept.mk (docWay_any _ _ a b w KV.out KU.out (by unfold longB at hL2; simp at hL2; omega) (by unfold longB at hL2; simp at hL2; omega))
    rw [hL2] at K1
    clear hL hL2
    go_enter Try.func11, Try.ntmps11
    go_wp2_with fail
    refine Calls.mono K1.out (fun e w1 hp => ?_)
    obtain ⟨rfl, hw⟩ := hp
    subst w1
    clear K1
    go_wp2_with fail
    refine Calls.mono K2.out (fun e w1 hp => ?_)
    obtain ⟨hb, v', rfl, ho⟩ := hp
    have KB := Kept.mk hb
    have KO := Kept.mk ho
    obtain ⟨p', c', hv', -⟩ := row_open ho
    subst hv'
    clear hb ho K2
    go_wp2
    go_ret2
    exact ⟨KB.out, .inr ⟨KL.out, _, rfl, KO.out⟩⟩
set_option maxHeartbeats 400000 in
set_option maxRecDepth 100000 in
theorem docRest_any (v u : Value) (a b : List ByteArray) (w : World) (hv : RdS w v a) (hu : RdS w u b) :
    Calls Try.prog 14 #[v, u] w fun e w' => e = .returned (if longB a.length b.length = true then .tuple #[.int .i64 0, .int .i64 2] else .tuple #[.int .i64 (rst a b : Nat), .int .i64 0]) ∧ Below w.heap.size w w' := by
  have KV := Kept.mk hv
  have KU := Kept.mk hu
  obtain ⟨pa, pc, rfl⟩ := hv.form
  obtain ⟨qa, qc, rfl⟩ := hu.form
  have K1 := Kept.mk (long_any pa qa a.length b.length pc qc w)
  clear hv hu
  by_cases hL : longB a.length b.length = true
  · rw [if_pos hL]
    rw [hL] at K1
    clear hL
    go_enter Try.func14, Try.ntmps14
    go_wp2_with fail
    refine Calls.mono K1.out (fun e w1 hp => ?_)
    obtain ⟨rfl, hw⟩ := hp
    subst w1
    clear K1
    go_wp2
    go_ret2
    exact ⟨rfl, Below.refl _ _⟩
  · have hL2 : longB a.length b.length = false := by simpa using hL
    rw [if_neg hL]
    have K2 := Kept.mk (rests_any _ _ a b w KV.out KU.out (by unfold longB at hL2; simp at hL2; omega) (by unfold longB at hL2; simp at hL2; omega))
    rw [hL2] at K1
    unfold slV at K2
    clear hL hL2
    go_enter Try.func14, Try.ntmps14
    go_wp2_with fail
    refine Calls.mono K1.out (fun e w1 hp => ?_)
    obtain ⟨rfl, hw⟩ := hp
    subst w1
    clear K1
    go_wp2_with fail
    refine Calls.mono K2.out (fun e w1 hp => ?_)
    obtain ⟨rfl, hS⟩ := hp
    have KB := Kept.mk hS.bel
    obtain ⟨nb, hnb⟩ := hS.get 0 (Nat.zero_le _)
    obtain ⟨t1, t2⟩ := hnb w1 (Below.refl _ _)
    have t3 := t2 0 (Nat.zero_le _)
    rw [List.drop_zero, List.drop_zero] at t3
    have z1 : (0 : Int) < ((a.length + 1 : Nat) : Int) := by omega
    have z2 : (0 : Int) < ((b.length + 1 : Nat) : Int) := by omega
    clear hS hnb t2 K2
    go_wp2
    go_ret2
    exact ⟨rfl, KB.out⟩
set_option maxHeartbeats 400000 in
set_option maxRecDepth 100000 in
theorem text_long (v u : Value) (a b : List ByteArray) (w : World) (hv : RdS w v a) (hu : RdS w u b) (ha : ∀ s ∈ a, s.size ≤ maxLen) (hb : ∀ s ∈ b, s.size ≤ maxLen) (hL : longB a.length b.length = true) :
    Calls Try.prog 19 #[v, u] w fun e w' => Below w.heap.size w w' ∧ e = .returned (.tuple #[.string ⟨#[]⟩, .int .i64 2]) := by
  have K1 := Kept.mk (way_any v u a b w hv hu ha hb)
  obtain ⟨pa, pc, rfl⟩ := hv.form
  obtain ⟨qa, qc, rfl⟩ := hu.form
  have KL := Kept.mk hL
  clear hv hu ha hb hL
  go_enter Try.func19, Try.ntmps19
  go_wp2_with fail
  refine Calls.mono K1.out (fun e w2 hp => ?_)
  obtain ⟨hB, hor⟩ := hp
  have KB := Kept.mk hB
  clear hB K1
  rcases hor with ⟨-, rfl⟩ | ⟨hL, -⟩
  · go_wp2
    go_ret2
    exact ⟨KB.out, rfl⟩
  · rw [KL.out] at hL; cases hL
end Go.Proofs.Ytjhcpmhjdhmjpaa
