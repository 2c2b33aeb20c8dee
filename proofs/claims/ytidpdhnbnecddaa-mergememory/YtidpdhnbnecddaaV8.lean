/-
  Walks: newPlane, restOf, Rest.
-/
import Derived.Test.YtidpdhnbnecddaaV6
namespace Go.Proofs.Ytidpdhnbnecddaa
open Go.RowKit

/-- The plane of two lists lies at p. -/
def Pln (w : World) (p : Nat) (a b : List ByteArray) : Prop :=
  ∃ (ga gb tb : Nat) (M N : List Nat), Nums a b M N ∧ Bk w p 93 [slV ga a.length, slV gb b.length, pt a.length b.length, slV tb (a.length + 1)] ∧ Bk w ga 3 (intV M) ∧ Bk w gb 3 (intV N) ∧
    ∃ (C : List Value) (r : Nat → Nat), Bk w tb 116 C ∧ ∀ j, j ≤ a.length → C[j]? = some (slV (r j) (b.length + 1)) ∧ Bk w (r j) 117 (u16V (rowL (M.drop j) N))
theorem Pln.later {w w' : World} {p : Nat} {a b : List ByteArray} {B : Nat} (h : Pln w p a b) (hb : Below B w w') (hB : w.heap.size ≤ B) : Pln w' p a b := by
  obtain ⟨ga, gb, tb, M, N, h1, h2, h3, h4, C, r, h5, h6⟩ := h
  have hx : Fx (fun _ => False) w w' := Fx.ofBelow hb hB
  exact ⟨ga, gb, tb, M, N, h1, h2.fx hx (by simp), h3.fx hx (by simp), h4.fx hx (by simp), C, r, h5.fx hx (by simp), fun j hj => ⟨(h6 j hj).1, (h6 j hj).2.fx hx (by simp)⟩⟩
set_option maxHeartbeats 1000000 in
set_option maxRecDepth 100000 in
theorem newPlane_any (v u : Value) (a b : List ByteArray) (w : World) (hv : RdS w v a) (hu : RdS w u b) (ha : ∀ s ∈ a, s.size ≤ maxLen) (hb : ∀ s ∈ b, s.size ≤ maxLen) :
    Calls Try.prog 53 #[v, u] w fun e w' => Below w.heap.size w w' ∧ ((longB a.length b.length = true ∧ e = .returned (.tuple #[.pointer none, .int .i64 2])) ∨ (longB a.length b.length = false ∧ ∃ p, w.heap.size ≤ p ∧ e = .returned (.tuple #[.pointer (some ⟨p, 0, none⟩), .int .i64 0]) ∧ Pln w' p a b)) := by
  obtain ⟨pa, pc, rfl⟩ := hv.form
  obtain ⟨qa, qc, rfl⟩ := hu.form
  have K1 := Kept.mk (tooLong_any pa qa a.length b.length pc qc w)
  have KB0 : Kept (Below w.heap.size w w) := ⟨Below.refl _ _⟩
  by_cases hL : longB a.length b.length = true
  · rw [hL] at K1
    have KL := Kept.mk hL
    clear hL hv hu ha hb
    go_enter Try.func53, Try.ntmps53
    go_wp2_with fail
    refine Calls.mono K1.out (fun e w1 hp => ?_)
    obtain ⟨rfl, hw⟩ := hp
    subst w1
    clear K1
    go_wp2
    go_ret2
    exact ⟨KB0.out, .inl ⟨KL.out, rfl⟩⟩
  · have hL : longB a.length b.length = false := by simpa using hL
    rw [hL] at K1
    have KL := Kept.mk hL
    obtain ⟨hal, hbl⟩ : a.length ≤ 1000 ∧ b.length ≤ 1000 := by
      unfold longB at hL
      rw [Bool.or_eq_false_iff, decide_eq_false_iff_not, decide_eq_false_iff_not] at hL
      omega
    have K2 := Kept.mk (endOf_any pa qa a.length b.length pc qc w)
    have hB1 : Below w.heap.size w (w.alloc (.cells #[.slice none 0 0, .slice none 0 0, pt a.length b.length, .slice none 0 0] 93)) := (Below.refl _ _).alloc (Nat.le_refl _) _
    have hP1 := Bk.new w 93 [.slice none 0 0, .slice none 0 0, pt a.length b.length, .slice none 0 0]
    obtain ⟨w1, hw1⟩ : ∃ w1, w.alloc (.cells #[.slice none 0 0, .slice none 0 0, pt a.length b.length, .slice none 0 0] 93) = w1 := ⟨_, rfl⟩
    rw [hw1] at hB1
    have hP1 : Bk w1 w.heap.size 93 [.slice none 0 0, .slice none 0 0, pt a.length b.length, .slice none 0 0] := by rw [← hw1]; exact hP1
    have K3 := Kept.mk (numbered_any _ _ a b w1 (hv.later hB1 (Nat.le_refl _)) (hu.later hB1 (Nat.le_refl _)) ha hb hal hbl)
    have KB1 := Kept.mk hB1
    have KP1 := Kept.mk hP1
    have KW1 := Kept.mk hw1
    have Kal : Kept (a.length ≤ 1000 ∧ b.length ≤ 1000) := ⟨⟨hal, hbl⟩⟩
    clear hL hv hu ha hb hB1 hP1 hw1 hal hbl
    obtain ⟨X, Y, hE⟩ : ∃ X Y, pt a.length b.length = .complex .f64 X Y := ⟨_, _, rfl⟩
    have KE := Kept.mk hE
    rw [hE] at KP1 KW1 K2
    clear hE
    go_enter Try.func53, Try.ntmps53
    go_wp2_with fail
    refine Calls.mono K1.out (fun e w0 hp => ?_)
    obtain ⟨rfl, hw⟩ := hp
    subst w0
    clear K1
    go_wp2_with fail
    refine Calls.mono K2.out (fun e w0 hp => ?_)
    obtain ⟨rfl, hw⟩ := hp
    subst w0
    clear K2
    go_upto_region 4 with fail
    try rw [KW1.out]
    go_wp2_with fail
    refine Calls.mono K3.out (fun e w2 hp => ?_)
    obtain ⟨ga, gb, M, N, rfl, hga, hgb, hbA, hbB, hnum, hb2⟩ := hp
    have hlA := hnum.lenA
    have hlB := hnum.lenB
    have hlt1 := KP1.out.lt
    have hP2 : Bk w2 w.heap.size 93 [.slice none 0 0, .slice none 0 0, .complex .f64 X Y, .slice none 0 0] := KP1.out.far (hb2.block _ hlt1)
    have c0 := hP2.cell 0 _ rfl
    have f0 := hP2.frozen 0
    have hP3 := hP2.set 0 (slV ga a.length)
    have c1 : (w2.setCell ⟨w.heap.size, 0, none⟩ (.slice (some ⟨ga, 0, none⟩) a.length a.length)).cell? ⟨w.heap.size, 1, none⟩ = some (.slice none 0 0) := hP3.cell 1 _ rfl
    have f1 : (w2.setCell ⟨w.heap.size, 0, none⟩ (.slice (some ⟨ga, 0, none⟩) a.length a.length)).frozen? ⟨w.heap.size, 1, none⟩ = false := hP3.frozen 1
    have hP4 := hP3.set 1 (slV gb b.length)
    obtain ⟨w4, hw4⟩ : ∃ w4, (w2.setCell ⟨w.heap.size, 0, none⟩ (.slice (some ⟨ga, 0, none⟩) a.length a.length)).setCell ⟨w.heap.size, 1, none⟩ (.slice (some ⟨gb, 0, none⟩) b.length b.length) = w4 := ⟨_, rfl⟩
    have hF4 : Fx (fun i => i = w.heap.size) w2 w4 := by
      rw [← hw4]
      exact (Fx.setCell _ _ _ _).trans (Fx.setCell _ _ _ _) (fun i _ e => e)
    have hP4 : Bk w4 w.heap.size 93 [slV ga M.length, slV gb N.length, .complex .f64 X Y, .slice none 0 0] := by rw [← hw4, hlA, hlB]; exact hP4
    have hA4 := hbA.fx hF4 (by omega)
    have hB4 := hbB.fx hF4 (by omega)
    have K5 := Kept.mk (fillRest_any w.heap.size ga gb _ _ M N w4 (by rw [hlA]; exact Kal.out.1) (by rw [hlB]; exact Kal.out.2) hP4 hA4 hB4 (by omega) (by omega))
    have hBw4 : Below w.heap.size w w4 := (KB1.out.trans (hb2.mono (by omega))).trans (hF4.below (by have := hb2.size; omega) (by omega))
    have KEnd : Kept (∀ w5, PlSt w4 w5 w.heap.size w4.heap.size ga gb (.complex .f64 X Y) M N 0 → Below w.heap.size w w5 ∧ Pln w5 w.heap.size a b) := ⟨fun w5 h5 => by
      have hs4 : w.heap.size ≤ w4.heap.size := by have := hP4.lt; omega
      refine ⟨hBw4.trans (h5.fx.below hs4 (by omega)), ?_⟩
      obtain ⟨C, r, q1, q2, q3⟩ := h5.st
      refine ⟨ga, gb, w4.heap.size, M, N, hnum, ?_, hA4.fx h5.fx (by omega), hB4.fx h5.fx (by omega), C, r, q2, fun j hj => ?_⟩
      · rw [KE.out, ← hlA, ← hlB]; exact h5.pl
      · obtain ⟨z1, z2, -⟩ := q3 j (Nat.zero_le _) (by omega)
        exact ⟨by rw [← hlB]; exact z1, z2⟩⟩
    have KW4 := Kept.mk hw4
    clear hw4 hF4 hP4 hA4 hB4 hBw4 hP3 hP2 hlt1 hlA hlB hnum hbA hbB hb2 hga hgb K3 KP1 KB1 KE
    go_upto_region 5 with fail
    try rw [KW4.out]
    clear c0 f0 c1 f1 KW4
    go_wp2_with fail
    refine Calls.mono K5.out (fun e w5 hp => ?_)
    obtain ⟨rfl, h5⟩ := hp
    have KF := Kept.mk (KEnd.out w5 h5)
    clear h5 KEnd K5
    go_wp2
    go_ret2
    exact ⟨KF.out.1, .inr ⟨KL.out, w.heap.size, Nat.le_refl _, rfl, KF.out.2⟩⟩
set_option maxHeartbeats 400000 in
set_option maxRecDepth 100000 in
theorem restOf_any (p : Nat) (a b : List ByteArray) (w : World) (h : Pln w p a b) (hal : a.length ≤ 1000) (hbl : b.length ≤ 1000) (x y : Nat) (hx : x ≤ a.length) (hy : y ≤ b.length) :
    Calls Try.prog 67 #[.pointer (some ⟨p, 0, none⟩), pt x y] w fun e w' => e = .returned (.int .i64 (rst (a.drop x) (b.drop y) : Nat)) ∧ w' = w := by
  obtain ⟨ga, gb, tb, M, N, h1, h2, h3, h4, C, r, h5, h6⟩ := h
  obtain ⟨q1, q2⟩ := h6 x hx
  have K1 := Kept.mk (parts_any x y (by omega) (by omega) w)
  have c3 : w.cell? ⟨p, 3, none⟩ = some (.slice (some ⟨tb, 0, none⟩) (a.length + 1) (a.length + 1)) := h2.cell 3 _ rfl
  have cx : w.cell? ⟨tb, x, none⟩ = some (.slice (some ⟨r x, 0, none⟩) (b.length + 1) (b.length + 1)) := h5.cell x _ q1
  have cy := q2.cell y _ (u16V_get (rowL_get (M.drop x) N (j := y) (by rw [h1.lenB]; exact hy)))
  rw [(h1.drop x y).rst] at cy
  have i0 : (0 : Int) ≤ (x : Int) := by omega
  have i1 : (x : Int) < ((a.length : Nat) : Int) + 1 := by omega
  have i2 : (0 : Int) ≤ (y : Int) := by omega
  have i3 : (y : Int) < ((b.length : Nat) : Int) + 1 := by omega
  have hle := rst_le _ (a.drop x) (b.drop y) (Nat.le_refl _)
  rw [List.length_drop, List.length_drop] at hle
  generalize rst (a.drop x) (b.drop y) = z at *
  have e1 : IntKind.i64.wrap (z : Int) = (z : Int) := wr64 (by omega) (by omega)
  generalize r x = rb at *
  clear h1 h2 h3 h4 h5 h6 q1 q2 hle
  generalize pt x y = P at *
  go_enter Try.func67, Try.ntmps67
  go_wp2_with fail
  refine Calls.mono K1.out (fun e w1 hp => ?_)
  obtain ⟨rfl, hw⟩ := hp
  subst w1
  clear K1
  go_wp2
  go_ret
  exact ⟨rfl, rfl⟩
section
variable {α : Type} [DecidableEq α]
/-- By what the way goes on. -/
def stp : List α → List α → Nat × Nat
  | x :: us, y :: vs => if x = y then (1, 1) else if rst us (y :: vs) ≤ rst (x :: us) vs then (1, 0) else (0, 1)
  | _ :: _, [] => (1, 0)
  | [], _ => (0, 1)
theorem stp_cons (x y : α) (us vs : List α) : stp (x :: us) (y :: vs) = if x = y then (1, 1) else if rst us (y :: vs) ≤ rst (x :: us) vs then (1, 0) else (0, 1) := by rw [stp]
/-- The points of the way from x + y i on. -/
def wayP : List α → List α → Nat → Nat → List (Nat × Nat)
  | [], [], x, y => [(x, y)]
  | _ :: us, [], x, y => (x, y) :: wayP us [] (x + 1) y
  | [], _ :: vs, x, y => (x, y) :: wayP [] vs x (y + 1)
  | p :: us, q :: vs, x, y => (x, y) :: (if p = q then wayP us vs (x + 1) (y + 1) else if rst us (q :: vs) ≤ rst (p :: us) vs then wayP us (q :: vs) (x + 1) y else wayP (p :: us) vs x (y + 1))
termination_by a b => a.length + b.length
theorem wayP_end (x y : Nat) : wayP ([] : List α) [] x y = [(x, y)] := by rw [wayP]
theorem wayP_step (us vs : List α) (x y : Nat) (h : us ≠ [] ∨ vs ≠ []) : wayP us vs x y = (x, y) :: wayP (us.drop (stp us vs).1) (vs.drop (stp us vs).2) (x + (stp us vs).1) (y + (stp us vs).2) := by
  cases us with
  | nil =>
    cases vs with
    | nil => simp at h
    | cons q vs => rw [wayP]; rfl
  | cons p us =>
    cases vs with
    | nil => rw [wayP]; rfl
    | cons q vs =>
      rw [wayP, stp_cons]
      split
      · rfl
      · split <;> rfl
end
theorem c_add {x y : Nat} (hx : x < 1100) (hy : y < 1100) (w : World) :
    (binOp .add 74 (pt x y) (.complex .f64 4607182418800017408 0)).run Try.prog w = .ok (pt (x + 1) y) w ∧ (binOp .add 74 (pt x y) (.complex .f64 0 4607182418800017408)).run Try.prog w = .ok (pt x (y + 1)) w ∧ (binOp .add 74 (pt x y) (.complex .f64 4607182418800017408 4607182418800017408)).run Try.prog w = .ok (pt (x + 1) (y + 1)) w := by
  obtain ⟨a1, a2, -⟩ := fl_parts hx
  obtain ⟨b1, b2, -⟩ := fl_parts hy
  unfold one64 at a1 b1
  refine ⟨run_complex_sum w .add (.inl rfl) _ _ _ _ _ _ _ _ ?_, run_complex_sum w .add (.inl rfl) _ _ _ _ _ _ _ _ ?_, run_complex_sum w .add (.inl rfl) _ _ _ _ _ _ _ _ ?_⟩
  · unfold cSumBits; rw [a1, b2]; rfl
  · unfold cSumBits; rw [a2, b1]; rfl
  · unfold cSumBits; rw [a1, b1]; rfl
theorem pt11 : pt 1 1 = .complex .f64 4607182418800017408 4607182418800017408 := by unfold pt; rw [fl_one]; rfl
theorem pt10 : pt 1 0 = .complex .f64 4607182418800017408 0 := by unfold pt; rw [fl_one, fl_zero]; rfl
theorem pt01 : pt 0 1 = .complex .f64 0 4607182418800017408 := by unfold pt; rw [fl_one, fl_zero]; rfl
theorem drop_line {L : List ByteArray} {k : Nat} {s : ByteArray} (h : L[k]? = some s) : L.drop k = s :: L.drop (k + 1) := by
  have hk : k < L.length := by
    rcases Nat.lt_or_ge k L.length with h' | h'
    · exact h'
    · rw [List.getElem?_eq_none h'] at h; cases h
  rw [List.drop_eq_getElem_cons hk]
  rw [List.getElem?_eq_getElem hk] at h
  injection h with h
  rw [h]
set_option maxHeartbeats 2000000 in
set_option maxRecDepth 100000 in
theorem step_any (p : Nat) (a b : List ByteArray) (w : World) (h : Pln w p a b) (hal : a.length ≤ 1000) (hbl : b.length ≤ 1000) (x y : Nat) (hx : x ≤ a.length) (hy : y ≤ b.length) (hne : x < a.length ∨ y < b.length) :
    Calls Try.prog 54 #[.pointer (some ⟨p, 0, none⟩), pt x y] w fun e w' => e = .returned (pt (stp (a.drop x) (b.drop y)).1 (stp (a.drop x) (b.drop y)).2) ∧ Below w.heap.size w w' := by
  have K1 := Kept.mk (parts_any x y (by omega) (by omega) w)
  have KP := Kept.mk h
  have KR : Kept (∀ (W : World) (x' y' : Nat), Below w.heap.size w W → x' ≤ a.length → y' ≤ b.length → Calls Try.prog 67 #[.pointer (some ⟨p, 0, none⟩), pt x' y'] W fun e w' => e = .returned (.int .i64 (rst (a.drop x') (b.drop y') : Nat)) ∧ w' = W) := ⟨fun W x' y' hW h1 h2 => restOf_any p a b W (h.later hW (Nat.le_refl _)) hal hbl x' y' h1 h2⟩
  obtain ⟨ga, gb, tb, M, N, h1, h2, h3, h4, -⟩ := h
  have cp0 : w.cell? ⟨p, 0, none⟩ = some (.slice (some ⟨ga, 0, none⟩) a.length a.length) := h2.cell 0 _ rfl
  have cp1 : w.cell? ⟨p, 1, none⟩ = some (.slice (some ⟨gb, 0, none⟩) b.length b.length) := h2.cell 1 _ rfl
  have Kadd := Kept.mk (fun w => c_add (x := x) (y := y) (by omega) (by omega) w)
  by_cases hgo : x < a.length
  · have g1 : decide ((x : Int) < (a.length : Int)) = true := decide_eq_true (by omega)
    obtain ⟨s, hs⟩ : ∃ s, a[x]? = some s := ⟨_, List.getElem?_eq_getElem hgo⟩
    by_cases hco : y < b.length
    · have g2 : decide ((y : Int) < (b.length : Int)) = true := decide_eq_true (by omega)
      obtain ⟨t, ht⟩ : ∃ t, b[y]? = some t := ⟨_, List.getElem?_eq_getElem hco⟩
      obtain ⟨m, hm⟩ : ∃ m, M[x]? = some m := ⟨_, List.getElem?_eq_getElem (by rw [h1.lenA]; exact hgo)⟩
      obtain ⟨n, hn⟩ : ∃ n, N[y]? = some n := ⟨_, List.getElem?_eq_getElem (by rw [h1.lenB]; exact hco)⟩
      have ca := h3.cell x _ (intV_get hm)
      have cb := h4.cell y _ (intV_get hn)
      have heq := h1.eq hm hn hs ht
      have i0 : (0 : Int) ≤ (x : Int) := by omega
      have i1 : (x : Int) < (a.length : Int) := by omega
      have i2 : (0 : Int) ≤ (y : Int) := by omega
      have i3 : (y : Int) < (b.length : Int) := by omega
      have hda := drop_line hs
      have hdb := drop_line ht
      by_cases hst : s = t
      · have hb0 : ((m : Int) == (n : Int)) = true := by rw [heq.2 hst]; simp
        have KV : Kept (stp (a.drop x) (b.drop y) = (1, 1)) := ⟨by rw [hda, hdb, stp_cons, if_pos hst]⟩
        clear h1 h2 h3 h4 hm hn hs ht heq hda hdb hst hne KP KR Kadd
        go_enter Try.func54, Try.ntmps54
        go_wp2_with fail
        refine Calls.mono K1.out (fun e w1 hp => ?_)
        obtain ⟨rfl, hw⟩ := hp
        subst w1
        clear K1
        go_upto_region 2 with fail
        go_quiet (fail)
        go_upto_region 3 with fail
        go_quiet (fail)
        generalize hw2 : World.drewN (World.drewN w _) _ = w2
        have KB2 : Kept (Below w.heap.size w w2) := ⟨by rw [← hw2]; exact below_drewN (below_drewN (Below.refl _ _) _) _⟩
        clear hw2
        go_wp2
        go_ret
        exact ⟨by rw [KV.out, pt11]; rfl, KB2.out⟩
      · have hb0 : ((m : Int) == (n : Int)) = false := by rw [beq_eq_false_iff_ne]; exact fun e => hst (heq.1 (by omega))
        by_cases hcc : rst (a.drop (x + 1)) (b.drop y) ≤ rst (a.drop x) (b.drop (y + 1))
        · have KV : Kept (stp (a.drop x) (b.drop y) = (1, 0)) := ⟨by
            have h' := hcc
            rw [hdb, hda] at h'
            rw [hda, hdb, stp_cons, if_neg hst, if_pos h']⟩
          clear h1 h2 h3 h4 hm hn hs ht heq hda hdb hst hne KP
          go_enter Try.func54, Try.ntmps54
          go_wp2_with fail
          refine Calls.mono K1.out (fun e w1 hp => ?_)
          obtain ⟨rfl, hw⟩ := hp
          subst w1
          clear K1
          go_upto_region 2 with fail
          go_quiet (fail)
          go_upto_region 3 with fail
          go_quiet (fail)
          generalize hw2 : World.drewN (World.drewN w _) _ = w2
          have KB2 : Kept (Below w.heap.size w w2) := ⟨by rw [← hw2]; exact below_drewN (below_drewN (Below.refl _ _) _) _⟩
          clear hw2
          obtain ⟨ad1, ad2, -⟩ := Kadd.out w2
          have KR1 := Kept.mk (KR.out w2 (x + 1) y KB2.out (by omega) hy)
          have KR2 := Kept.mk (KR.out w2 x (y + 1) KB2.out hx (by omega))
          generalize rst (a.drop (x + 1)) (b.drop y) = r1 at *
          generalize rst (a.drop x) (b.drop (y + 1)) = r2 at *
          have hcmp : decide (r1 ≤ r2) = true := by first | exact decide_eq_true (by omega) | exact decide_eq_false (by omega)
          generalize pt (x + 1) y = P1 at *
          generalize pt x (y + 1) = P2 at *
          clear Kadd KR hcc ca cb
          go_wp2_with fail
          refine Calls.mono KR1.out (fun e w3 hp => ?_)
          obtain ⟨rfl, hw3⟩ := hp
          subst w3
          clear KR1
          go_wp2_with fail
          refine Calls.mono KR2.out (fun e w3 hp => ?_)
          obtain ⟨rfl, hw3⟩ := hp
          subst w3
          clear KR2
          go_wp2
          go_ret
          exact ⟨by rw [KV.out, pt10]; rfl, KB2.out⟩
        · have KV : Kept (stp (a.drop x) (b.drop y) = (0, 1)) := ⟨by
            have h' := hcc
            rw [hdb, hda] at h'
            rw [hda, hdb, stp_cons, if_neg hst, if_neg h']⟩
          clear h1 h2 h3 h4 hm hn hs ht heq hda hdb hst hne KP
          go_enter Try.func54, Try.ntmps54
          go_wp2_with fail
          refine Calls.mono K1.out (fun e w1 hp => ?_)
          obtain ⟨rfl, hw⟩ := hp
          subst w1
          clear K1
          go_upto_region 2 with fail
          go_quiet (fail)
          go_upto_region 3 with fail
          go_quiet (fail)
          generalize hw2 : World.drewN (World.drewN w _) _ = w2
          have KB2 : Kept (Below w.heap.size w w2) := ⟨by rw [← hw2]; exact below_drewN (below_drewN (Below.refl _ _) _) _⟩
          clear hw2
          obtain ⟨ad1, ad2, -⟩ := Kadd.out w2
          have KR1 := Kept.mk (KR.out w2 (x + 1) y KB2.out (by omega) hy)
          have KR2 := Kept.mk (KR.out w2 x (y + 1) KB2.out hx (by omega))
          generalize rst (a.drop (x + 1)) (b.drop y) = r1 at *
          generalize rst (a.drop x) (b.drop (y + 1)) = r2 at *
          have hcmp : decide (r1 ≤ r2) = false := by first | exact decide_eq_true (by omega) | exact decide_eq_false (by omega)
          generalize pt (x + 1) y = P1 at *
          generalize pt x (y + 1) = P2 at *
          clear Kadd KR hcc ca cb
          go_wp2_with fail
          refine Calls.mono KR1.out (fun e w3 hp => ?_)
          obtain ⟨rfl, hw3⟩ := hp
          subst w3
          clear KR1
          go_wp2_with fail
          refine Calls.mono KR2.out (fun e w3 hp => ?_)
          obtain ⟨rfl, hw3⟩ := hp
          subst w3
          clear KR2
          go_wp2
          go_ret
          exact ⟨by rw [KV.out, pt01]; rfl, KB2.out⟩
    · have g2 : decide ((y : Int) < (b.length : Int)) = false := decide_eq_false (by omega)
      have KV : Kept (stp (a.drop x) (b.drop y) = (1, 0)) := ⟨by rw [drop_line hs, show b.drop y = [] from List.drop_of_length_le (by omega)]; rfl⟩
      clear h1 h2 h3 h4 hs hne KP KR Kadd
      go_enter Try.func54, Try.ntmps54
      go_wp2_with fail
      refine Calls.mono K1.out (fun e w1 hp => ?_)
      obtain ⟨rfl, hw⟩ := hp
      subst w1
      clear K1
      go_upto_region 2 with fail
      go_quiet (fail)
      go_upto_region 3 with fail
      go_quiet (fail)
      generalize hw2 : World.drewN (World.drewN w _) _ = w2
      have KB2 : Kept (Below w.heap.size w w2) := ⟨by rw [← hw2]; exact below_drewN (below_drewN (Below.refl _ _) _) _⟩
      clear hw2
      go_wp2
      go_ret
      exact ⟨by rw [KV.out, pt10]; rfl, KB2.out⟩
  · have g1 : decide ((x : Int) < (a.length : Int)) = false := decide_eq_false (by omega)
    have g2 : decide ((y : Int) < (b.length : Int)) = true := decide_eq_true (by omega)
    have KV : Kept (stp (a.drop x) (b.drop y) = (0, 1)) := ⟨by rw [show a.drop x = [] from List.drop_of_length_le (by omega)]; rfl⟩
    clear h1 h2 h3 h4 hne KP KR Kadd
    go_enter Try.func54, Try.ntmps54
    go_wp2_with fail
    refine Calls.mono K1.out (fun e w1 hp => ?_)
    obtain ⟨rfl, hw⟩ := hp
    subst w1
    clear K1
    go_upto_region 2 with fail
    go_quiet (fail)
    go_upto_region 3 with fail
    go_quiet (fail)
    generalize hw2 : World.drewN (World.drewN w _) _ = w2
    have KB2 : Kept (Below w.heap.size w w2) := ⟨by rw [← hw2]; exact below_drewN (below_drewN (Below.refl _ _) _) _⟩
    clear hw2
    go_wp2
    go_ret
    exact ⟨by rw [KV.out, pt01]; rfl, KB2.out⟩
end Go.Proofs.Ytidpdhnbnecddaa
