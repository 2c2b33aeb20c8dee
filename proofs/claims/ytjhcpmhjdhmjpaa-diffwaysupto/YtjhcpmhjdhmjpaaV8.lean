/-
  Walks: step. The way (pure).
-/
import Derived.Test.YtjhcpmhjdhmjpaaV7
namespace Go.Proofs.Ytjhcpmhjdhmjpaa
open Go.RowKit

section
variable {α : Type} [DecidableEq α]
/-- By what the way goes on. -/
def stp : List α → List α → Nat × Nat
  | x :: us, y :: vs => if x = y then (1, 1) else if rst us (y :: vs) ≤ rst (x :: us) vs then (1, 0) else (0, 1)
  | _ :: _, [] => (1, 0)
  | [], _ => (0, 1)
theorem stp_cons (x y : α) (us vs : List α) : stp (x :: us) (y :: vs) = if x = y then (1, 1) else if rst us (y :: vs) ≤ rst (x :: us) vs then (1, 0) else (0, 1) := by rw [stp]
/-- The points of the way from x + y i on. -/
def wayP : List α → List α → Nat → Nat → List (Nat × Nat)
  | [], [], x, y => [(x, y)]
  | _ :: us, [], x, y => (x, y) :: wayP us [] (x + 1) y
  | [], _ :: vs, x, y => (x, y) :: wayP [] vs x (y + 1)
  | p :: us, q :: vs, x, y => (x, y) :: (if p = q then wayP us vs (x + 1) (y + 1) else if rst us (q :: vs) ≤ rst (p :: us) vs then wayP us (q :: vs) (x + 1) y else wayP (p :: us) vs x (y + 1))
termination_by a b => a.length + b.length
theorem wayP_end (x y : Nat) : wayP ([] : List α) [] x y = [(x, y)] := by rw [wayP]
theorem wayP_step (us vs : List α) (x y : Nat) (h : us ≠ [] ∨ vs ≠ []) : wayP us vs x y = (x, y) :: wayP (us.drop (stp us vs).1) (vs.drop (stp us vs).2) (x + (stp us vs).1) (y + (stp us vs).2) := by
  cases us with
  | nil =>
    cases vs with
    | nil => simp at h
    | cons q vs => rw [wayP]; rfl
  | cons p us =>
    cases vs with
    | nil => rw [wayP]; rfl
    | cons q vs =>
      rw [wayP, stp_cons]
      split
      · rfl
      · split <;> rfl
end
theorem c_add {x y : Nat} (hx : x < 1100) (hy : y < 1100) (w : World) :
    (binOp .add 45 (pt x y) (.complex .f64 4607182418800017408 0)).run Try.prog w = .ok (pt (x + 1) y) w ∧ (binOp .add 45 (pt x y) (.complex .f64 0 4607182418800017408)).run Try.prog w = .ok (pt x (y + 1)) w ∧ (binOp .add 45 (pt x y) (.complex .f64 4607182418800017408 4607182418800017408)).run Try.prog w = .ok (pt (x + 1) (y + 1)) w := by
  obtain ⟨a1, a2, -⟩ := fl_parts hx
  obtain ⟨b1, b2, -⟩ := fl_parts hy
  unfold one64 at a1 b1
  refine ⟨run_complex_sum w .add (.inl rfl) _ _ _ _ _ _ _ _ ?_, run_complex_sum w .add (.inl rfl) _ _ _ _ _ _ _ _ ?_, run_complex_sum w .add (.inl rfl) _ _ _ _ _ _ _ _ ?_⟩
  · unfold cSumBits; rw [a1, b2]; rfl
  · unfold cSumBits; rw [a2, b1]; rfl
  · unfold cSumBits; rw [a1, b1]; rfl
theorem pt11 : pt 1 1 = .complex .f64 4607182418800017408 4607182418800017408 := by unfold pt; rw [fl_one]; rfl
theorem pt10 : pt 1 0 = .complex .f64 4607182418800017408 0 := by unfold pt; rw [fl_one, fl_zero]; rfl
theorem pt01 : pt 0 1 = .complex .f64 0 4607182418800017408 := by unfold pt; rw [fl_one, fl_zero]; rfl
theorem drop_line {L : List ByteArray} {k : Nat} {s : ByteArray} (h : L[k]? = some s) : L.drop k = s :: L.drop (k + 1) := by
  have hk : k < L.length := by
    rcases Nat.lt_or_ge k L.length with h' | h'
    · exact h'
    · rw [List.getElem?_eq_none h'] at h; cases h
  rw [List.drop_eq_getElem_cons hk]
  rw [List.getElem?_eq_getElem hk] at h
  injection h with h
  rw [h]
set_option maxHeartbeats 2000000 in
set_option maxRecDepth 100000 in
theorem step_any (p : Nat) (a b : List ByteArray) (w : World) (h : Pln w p a b) (hal : a.length ≤ 1000) (hbl : b.length ≤ 1000) (x y : Nat) (hx : x ≤ a.length) (hy : y ≤ b.length) (hne : x < a.length ∨ y < b.length) :
    Calls Try.prog 30 #[.pointer (some ⟨p, 0, none⟩), pt x y] w fun e w' => e = .returned (pt (stp (a.drop x) (b.drop y)).1 (stp (a.drop x) (b.drop y)).2) ∧ Below w.heap.size w w' := by
  have K1 := Kept.mk (parts_any x y (by omega) (by omega) w)
  have KP := Kept.mk h
  have KR : Kept (∀ (W : World) (x' y' : Nat), Below w.heap.size w W → x' ≤ a.length → y' ≤ b.length → Calls Try.prog 32 #[.pointer (some ⟨p, 0, none⟩), pt x' y'] W fun e w' => e = .returned (.int .i64 (rst (a.drop x') (b.drop y') : Nat)) ∧ w' = W) := ⟨fun W x' y' hW h1 h2 => restOf_any p a b W (h.later hW (Nat.le_refl _)) hal hbl x' y' h1 h2⟩
  obtain ⟨ga, gb, tb, M, N, h1, h2, h3, h4, -⟩ := h
  have cp0 : w.cell? ⟨p, 0, none⟩ = some (.slice (some ⟨ga, 0, none⟩) a.length a.length) := h2.cell 0 _ rfl
  have cp1 : w.cell? ⟨p, 1, none⟩ = some (.slice (some ⟨gb, 0, none⟩) b.length b.length) := h2.cell 1 _ rfl
  have Kadd := Kept.mk (fun w => c_add (x := x) (y := y) (by omega) (by omega) w)
  by_cases hgo : x < a.length
  · have g1 : decide ((x : Int) < (a.length : Int)) = true := decide_eq_true (by omega)
    obtain ⟨s, hs⟩ : ∃ s, a[x]? = some s := ⟨_, List.getElem?_eq_getElem hgo⟩
    by_cases hco : y < b.length
    · have g2 : decide ((y : Int) < (b.length : Int)) = true := decide_eq_true (by omega)
      obtain ⟨t, ht⟩ : ∃ t, b[y]? = some t := ⟨_, List.getElem?_eq_getElem hco⟩
      obtain ⟨m, hm⟩ : ∃ m, M[x]? = some m := ⟨_, List.getElem?_eq_getElem (by rw [h1.lenA]; exact hgo)⟩
      obtain ⟨n, hn⟩ : ∃ n, N[y]? = some n := ⟨_, List.getElem?_eq_getElem (by rw [h1.lenB]; exact hco)⟩
      have ca := h3.cell x _ (intV_get hm)
      have cb := h4.cell y _ (intV_get hn)
      have heq := h1.eq hm hn hs ht
      have i0 : (0 : Int) ≤ (x : Int) := by omega
      have i1 : (x : Int) < (a.length : Int) := by omega
      have i2 : (0 : Int) ≤ (y : Int) := by omega
      have i3 : (y : Int) < (b.length : Int) := by omega
      have hda := drop_line hs
      have hdb := drop_line ht
      by_cases hst : s = t
      · have hb0 : ((m : Int) == (n : Int)) = true := by rw [heq.2 hst]; simp
        have KV : Kept (stp (a.drop x) (b.drop y) = (1, 1)) := ⟨by rw [hda, hdb, stp_cons, if_pos hst]⟩
        clear h1 h2 h3 h4 hm hn hs ht heq hda hdb hst hne KP KR Kadd
        go_enter Try.func30, Try.ntmps30
        go_wp2_with fail
        refine Calls.mono K1.out (fun e w1 hp => ?_)
        obtain ⟨rfl, hw⟩ := hp
        subst w1
        clear K1
        go_upto_region 2 with fail
        go_quiet (fail)
        go_upto_region 3 with fail
        go_quiet (fail)
        generalize hw2 : World.drewN (World.drewN w _) _ = w2
        have KB2 : Kept (Below w.heap.size w w2) := ⟨by rw [← hw2]; exact below_drewN (below_drewN (Below.refl _ _) _) _⟩
        clear hw2
        go_wp2
        go_ret
        exact ⟨by rw [KV.out, pt11]; rfl, KB2.out⟩
      · have hb0 : ((m : Int) == (n : Int)) = false := by rw [beq_eq_false_iff_ne]; exact fun e => hst (heq.1 (by omega))
        by_cases hcc : rst (a.drop (x + 1)) (b.drop y) ≤ rst (a.drop x) (b.drop (y + 1))
        · have KV : Kept (stp (a.drop x) (b.drop y) = (1, 0)) := ⟨by
            have h' := hcc
            rw [hdb, hda] at h'
            rw [hda, hdb, stp_cons, if_neg hst, if_pos h']⟩
          clear h1 h2 h3 h4 hm hn hs ht heq hda hdb hst hne KP
          go_enter Try.func30, Try.ntmps30
          go_wp2_with fail
          refine Calls.mono K1.out (fun e w1 hp => ?_)
          obtain ⟨rfl, hw⟩ := hp
          subst w1
          clear K1
          go_upto_region 2 with fail
          go_quiet (fail)
          go_upto_region 3 with fail
          go_quiet (fail)
          generalize hw2 : World.drewN (World.drewN w _) _ = w2
          have KB2 : Kept (Below w.heap.size w w2) := ⟨by rw [← hw2]; exact below_drewN (below_drewN (Below.refl _ _) _) _⟩
          clear hw2
          obtain ⟨ad1, ad2, -⟩ := Kadd.out w2
          have KR1 := Kept.mk (KR.out w2 (x + 1) y KB2.out (by omega) hy)
          have KR2 := Kept.mk (KR.out w2 x (y + 1) KB2.out hx (by omega))
          generalize rst (a.drop (x + 1)) (b.drop y) = r1 at *
          generalize rst (a.drop x) (b.drop (y + 1)) = r2 at *
          have hcmp : decide (r1 ≤ r2) = true := by first | exact decide_eq_true (by omega) | exact decide_eq_false (by omega)
          generalize pt (x + 1) y = P1 at *
          generalize pt x (y + 1) = P2 at *
          clear Kadd KR hcc ca cb
          go_wp2_with fail
          refine Calls.mono KR1.out (fun e w3 hp => ?_)
          obtain ⟨rfl, hw3⟩ := hp
          subst w3
          clear KR1
          go_wp2_with fail
          refine Calls.mono KR2.out (fun e w3 hp => ?_)
          obtain ⟨rfl, hw3⟩ := hp
          subst w3
          clear KR2
          go_wp2
          go_ret
          exact ⟨by rw [KV.out, pt10]; rfl, KB2.out⟩
        · have KV : Kept (stp (a.drop x) (b.drop y) = (0, 1)) := ⟨by
            have h' := hcc
            rw [hdb, hda] at h'
            rw [hda, hdb, stp_cons, if_neg hst, if_neg h']⟩
          clear h1 h2 h3 h4 hm hn hs ht heq hda hdb hst hne KP
          go_enter Try.func30, Try.ntmps30
          go_wp2_with fail
          refine Calls.mono K1.out (fun e w1 hp => ?_)
          obtain ⟨rfl, hw⟩ := hp
          subst w1
          clear K1
          go_upto_region 2 with fail
          go_quiet (fail)
          go_upto_region 3 with fail
          go_quiet (fail)
          generalize hw2 : World.drewN (World.drewN w _) _ = w2
          have KB2 : Kept (Below w.heap.size w w2) := ⟨by rw [← hw2]; exact below_drewN (below_drewN (Below.refl _ _) _) _⟩
          clear hw2
          obtain ⟨ad1, ad2, -⟩ := Kadd.out w2
          have KR1 := Kept.mk (KR.out w2 (x + 1) y KB2.out (by omega) hy)
          have KR2 := Kept.mk (KR.out w2 x (y + 1) KB2.out hx (by omega))
          generalize rst (a.drop (x + 1)) (b.drop y) = r1 at *
          generalize rst (a.drop x) (b.drop (y + 1)) = r2 at *
          have hcmp : decide (r1 ≤ r2) = false := by first | exact decide_eq_true (by omega) | exact decide_eq_false (by omega)
          generalize pt (x + 1) y = P1 at *
          generalize pt x (y + 1) = P2 at *
          clear Kadd KR hcc ca cb
          go_wp2_with fail
          refine Calls.mono KR1.out (fun e w3 hp => ?_)
          obtain ⟨rfl, hw3⟩ := hp
          subst w3
          clear KR1
          go_wp2_with fail
          refine Calls.mono KR2.out (fun e w3 hp => ?_)
          obtain ⟨rfl, hw3⟩ := hp
          subst w3
          clear KR2
          go_wp2
          go_ret
          exact ⟨by rw [KV.out, pt01]; rfl, KB2.out⟩
    · have g2 : decide ((y : Int) < (b.length : Int)) = false := decide_eq_false (by omega)
      have KV : Kept (stp (a.drop x) (b.drop y) = (1, 0)) := ⟨by rw [drop_line hs, show b.drop y = [] from List.drop_of_length_le (by omega)]; rfl⟩
      clear h1 h2 h3 h4 hs hne KP KR Kadd
      go_enter Try.func30, Try.ntmps30
      go_wp2_with fail
      refine Calls.mono K1.out (fun e w1 hp => ?_)
      obtain ⟨rfl, hw⟩ := hp
      subst w1
      clear K1
      go_upto_region 2 with fail
      go_quiet (fail)
      go_upto_region 3 with fail
      go_quiet (fail)
      generalize hw2 : World.drewN (World.drewN w _) _ = w2
      have KB2 : Kept (Below w.heap.size w w2) := ⟨by rw [← hw2]; exact below_drewN (below_drewN (Below.refl _ _) _) _⟩
      clear hw2
      go_wp2
      go_ret
      exact ⟨by rw [KV.out, pt10]; rfl, KB2.out⟩
  · have g1 : decide ((x : Int) < (a.length : Int)) = false := decide_eq_false (by omega)
    have g2 : decide ((y : Int) < (b.length : Int)) = true := decide_eq_true (by omega)
    have KV : Kept (stp (a.drop x) (b.drop y) = (0, 1)) := ⟨by rw [show a.drop x = [] from List.drop_of_length_le (by omega)]; rfl⟩
    clear h1 h2 h3 h4 hne KP KR Kadd
    go_enter Try.func30, Try.ntmps30
    go_wp2_with fail
    refine Calls.mono K1.out (fun e w1 hp => ?_)
    obtain ⟨rfl, hw⟩ := hp
    subst w1
    clear K1
    go_upto_region 2 with fail
    go_quiet (fail)
    go_upto_region 3 with fail
    go_quiet (fail)
    generalize hw2 : World.drewN (World.drewN w _) _ = w2
    have KB2 : Kept (Below w.heap.size w w2) := ⟨by rw [← hw2]; exact below_drewN (below_drewN (Below.refl _ _) _) _⟩
    clear hw2
    go_wp2
    go_ret
    exact ⟨by rw [KV.out, pt01]; rfl, KB2.out⟩
end Go.Proofs.Ytjhcpmhjdhmjpaa
