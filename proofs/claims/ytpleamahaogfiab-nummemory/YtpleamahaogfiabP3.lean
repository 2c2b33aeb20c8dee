/-
  The walk of NumThere.
-/
import Derived.Test.YtpleamahaogfiabP4
import Derived.Test.YtpleamahaogfiabMath4
namespace Go.Proofs.Ytpleamahaogfiab
open Go.RowKit

theorem endS_there (xs l ys : List Int) (h : SpanForm l) : endS (xs ++ (l ++ ys)) (xs.length : Int) = ((xs.length : Int) + l.length, 0) := by
  unfold endS
  rw [if_neg (by omega), Int.toNat_natCast, List.drop_left, endL_of l ys h]

theorem sizeS_there (xs ys : List Int) (x : Int) (h0 : 0 ≤ x) (h1 : x < 18446744073709551616) : sizeS (xs ++ (sizeL x ++ ys)) (xs.length : Int) = (x, (xs.length : Int) + (sizeL x).length, 0) := by
  obtain ⟨hf, hv⟩ := sizeL_form x h0 h1
  have he := endS_there xs (sizeL x) ys hf
  rw [sizeS_some (m := (sizeL x).length) (by rw [he]) (by rw [he]), List.drop_left, List.take_left, hv, if_pos h1]

theorem spanS_there (xs ys : List Int) (x : Int) (h0 : 0 ≤ x) (h1 : x < 18446744073709551616) : spanS (xs ++ (spanL x ++ ys)) (xs.length : Int) = (x, (xs.length : Int) + (spanL x).length, 0) := by
  have he := endS_there xs (spanL x) ys (spanL_form x)
  obtain ⟨b, r, e1, e2⟩ := span_there x h0 h1
  have hT : spanT (xs ++ (spanL x ++ ys)) xs.length (spanL x).length = some x := by
    unfold spanT
    have e3 : (xs ++ (spanL x ++ ys)).getD xs.length 0 = b := by
      rw [e1]
      simp [List.getD]
    have e4 : ((xs ++ (spanL x ++ ys)).drop (xs.length + 1)).take ((spanL x).length - 1) = r := by
      rw [e1, ← List.drop_drop, List.drop_left]
      simp
    rw [e3, e4, e2]
  rw [spanS_some (m := (spanL x).length) (by rw [he]) (by rw [he]), hT]

theorem headT_there (xs ys : List Int) (k x : Int) (hk0 : 0 ≤ k) (hk1 : k ≤ 7) (h0 : 0 ≤ x) (h1 : x < 18446744073709551616) : headT (xs ++ (headL k x ++ ys)) (xs.length : Int) = (k, x, (xs.length : Int) + (headL k x).length, 0) := by
  obtain ⟨hf, b, r, e1, e2, e3, e4⟩ := headL_form k x hk0 hk1 h0 h1
  have he := endS_there xs (headL k x) ys hf
  have e5 : (xs ++ (headL k x ++ ys)).getD xs.length 0 = b := by
    rw [e1]
    simp [List.getD]
  have e6 : restL (xs ++ (headL k x ++ ys)) xs.length (headL k x).length = r := by
    unfold restL
    rw [e1, ← List.drop_drop, List.drop_left]
    simp
  rw [headT_some (m := (headL k x).length) (by rw [he]) (by rw [he]), e5, e6, if_pos e4, e2, e3]

/-- Behind an append onto what a call has just made: the slice, and what became of the world. -/
theorem app_step {w2 w3 w4 : World} {t2 a : Value} {L ys : List Int} (hb3 : Below w2.heap.size w2 w3) (ot : Own 5 w3 w2.heap.size t2 L) (hown : Own 5 w4 w2.heap.size a (L ++ ys)) (hgrow : w3.grownBy w4 t2.ownBlock) (hA : AllB (L ++ ys)) :
    ∃ aa N ca, a = .slice aa N ca ∧ N = L.length + ys.length ∧ Rd w4 (.slice aa N ca) (L ++ ys) ∧ Below w2.heap.size w2 w4 := by
  have hr := Rd.own hown hA
  obtain ⟨aa, ca, e, -⟩ := hr.form
  refine ⟨aa, _, ca, e, by simp, by rw [← e]; exact hr, hb3.grown hgrow hb3.size (own_ge ot)⟩

set_option maxHeartbeats 4000000 in
theorem numThere_walk (v q : Value) (xs ys : List Int) (x k : Int) (w : World) (r0 : Rd w v xs) (s0 : Rd w q ys) (hx0 : 0 ≤ x) (hx1 : x < 18446744073709551616) (hl : xs.length + ys.length + 60 ≤ 140737488355328) :
    Calls Try.prog 5 #[v, q, .int .u64 x, .int .i64 k] w fun e w' => e = .returned (.bool true) ∧ Below w.heap.size w w' := by
  obtain ⟨i0, z0, hi, hz, hs, hb0, hc, -⟩ := info5
  have cS := fun v w h => calls_still (size_any v (xs ++ (sizeL x ++ ys)) (xs.length : Int) w h (by omega) (by have := sizeL_length x; simp; omega))
  have cP := fun v w h => calls_still (span_any v (xs ++ (spanL x ++ ys)) (xs.length : Int) w h (by omega) (by have := spanL_length x; simp; omega))
  rw [sizeS_there xs ys x hx0 hx1] at cS
  rw [spanS_there xs ys x hx0 hx1] at cP
  have CS : Hid _ := cS
  have CP : Hid _ := cP
  clear cS cP
  obtain ⟨va, vc, rfl, -, -, -, -⟩ := r0.form
  obtain ⟨qa, qc, rfl, -, -, -, -⟩ := s0.form
  have hl1 : xs.length + 20 ≤ 140737488355328 := by omega
  go_enter Try.func5, Try.ntmps5
  go_wp2_with fail
  refine Calls.mono (awake_any w) (fun e w1 hp => ?_)
  obtain ⟨rfl, hb1⟩ := hp
  have r1 := r0.later hb1 (Nat.le_refl _)
  have s1 := s0.later hb1 (Nat.le_refl _)
  have H1 := hb1
  clear r0 s0 hb1
  go_wp2_with fail
  refine Calls.mono (twin_rd _ xs w1 r1 hl1) (fun e w2 hp => ?_)
  obtain ⟨t1, rfl, rt, hb2⟩ := hp
  have r2 := r1.later hb2 (Nat.le_refl _)
  have s2 := s1.later hb2 (Nat.le_refl _)
  have H2 : Below w.heap.size w w2 := H1.trans (hb2.mono H1.size)
  clear r1 s1 hb2 H1
  go_wp2_with fail
  refine Calls.mono (putSize_any t1 xs x w2 rt hx0 hx1 (by omega)) (fun e w3 hp => ?_)
  obtain ⟨t2, rfl, ot, hb3⟩ := hp
  have s3 := s2.later hb3 (Nat.le_refl _)
  have hz3 := hb3.size
  have hll : (xs ++ sizeL x).length + ys.length ≤ 140737488355328 := by have := sizeL_length x; simp; omega
  have hA3 : AllB (xs ++ sizeL x ++ ys) := (r2.allB.append (sizeL_allB x hx0 hx1)).append s2.allB
  clear rt
  go_wp2_with (at_builtin; refine wpList_append_rd _ rfl _ _ 22 rfl w2.heap.size 5 i0 z0 Try.underlying22 hi hz hs hb0 hc t2 (xs ++ sizeL x) rfl ot _ ys rfl s3 hll hz3 ?_; intro a w4 hown hgrow hat)
  obtain ⟨aa, N, ca, ha, hN, ra4, hb4⟩ := app_step hb3 ot hown hgrow hA3
  have r4 := r2.later hb4 (Nat.le_refl _)
  have s4 := s2.later hb4 (Nat.le_refl _)
  have H4 : Below w.heap.size w w4 := H2.trans (hb4.mono H2.size)
  clear r2 s2 s3 hz3 hll hA3 hown hgrow hat ot hb3 hb4 H2
  subst ha
  have HN : Hid (N = (xs ++ sizeL x).length + ys.length) := hN
  clear hN
  refine Calls.mono (twin_rd _ xs w4 r4 hl1) (fun e w5 hp => ?_)
  obtain ⟨t3, rfl, rt, hb5⟩ := hp
  have r5 := r4.later hb5 (Nat.le_refl _)
  have s5 := s4.later hb5 (Nat.le_refl _)
  have ra5 := ra4.later hb5 (Nat.le_refl _)
  have H5 : Below w.heap.size w w5 := H4.trans (hb5.mono H4.size)
  clear r4 s4 ra4 hb5 H4
  go_wp2_with fail
  refine Calls.mono (putSpan_any t3 xs x w5 rt hx0 hx1 (by omega)) (fun e w6 hp => ?_)
  obtain ⟨t4, rfl, ot, hb6⟩ := hp
  have s6 := s5.later hb6 (Nat.le_refl _)
  have hz6 := hb6.size
  have hll : (xs ++ spanL x).length + ys.length ≤ 140737488355328 := by have := spanL_length x; simp; omega
  have hA6 : AllB (xs ++ spanL x ++ ys) := (r5.allB.append (spanL_bytes x)).append s5.allB
  clear rt
  go_wp2_with (at_builtin; refine wpList_append_rd _ rfl _ _ 22 rfl w5.heap.size 5 i0 z0 Try.underlying22 hi hz hs hb0 hc t4 (xs ++ spanL x) rfl ot _ ys rfl s6 hll hz6 ?_; intro b w7 hown hgrow hat)
  obtain ⟨ba, M, cb, hbb, hM, rb7, hb7⟩ := app_step hb6 ot hown hgrow hA6
  have r7 := r5.later hb7 (Nat.le_refl _)
  have s7 := s5.later hb7 (Nat.le_refl _)
  have ra7 := ra5.later hb7 (Nat.le_refl _)
  have H7 : Below w.heap.size w w7 := H5.trans (hb7.mono H5.size)
  clear r5 s5 s6 hz6 hll hA6 hown hgrow hat ot hb6 hb7 H5 ra5
  subst hbb
  have HM : Hid (M = (xs ++ spanL x).length + ys.length) := hM
  clear hM
  rw [List.append_assoc] at ra7 rb7
  refine Calls.mono (CS.out _ w7 ra7) (fun e w8 hp => ?_)
  obtain ⟨rfl, hb8⟩ := hp
  have r8 := r7.later hb8 (Nat.le_refl _)
  have s8 := s7.later hb8 (Nat.le_refl _)
  have rb8 := rb7.later hb8 (Nat.le_refl _)
  have H8 : Below w.heap.size w w8 := H7.trans (hb8.mono H7.size)
  clear r7 s7 ra7 rb7 hb8 H7
  go_wp2_with fail
  refine Calls.mono (CP.out _ w8 rb8) (fun e w9 hp => ?_)
  obtain ⟨rfl, hb9⟩ := hp
  have r9 := r8.later hb9 (Nat.le_refl _)
  have s9 := s8.later hb9 (Nat.le_refl _)
  have H9 : Below w.heap.size w w9 := H8.trans (hb9.mono H8.size)
  clear r8 s8 rb8 hb9 H8 CS CP
  have hN1 : N ≤ 140737488355328 := by have := HN.out; have := sizeL_length x; simp at *; omega
  have hM1 : M ≤ 140737488355328 := by have := HM.out; have := spanL_length x; simp at *; omega
  have gN : ((xs.length : Int) + ((sizeL x).length : Int) != (N : Int) - (ys.length : Int)) = false := by
    have := HN.out
    rw [bne_eq_false_iff_eq]
    simp at this
    omega
  have gM : ((xs.length : Int) + ((spanL x).length : Int) != (M : Int) - (ys.length : Int)) = false := by
    have := HM.out
    rw [bne_eq_false_iff_eq]
    simp at this
    omega
  go_wp2_with fail
  refine Calls.mono (twin_rd _ xs w9 r9 hl1) (fun e w10 hp => ?_)
  obtain ⟨t5, rfl, rt, hb10⟩ := hp
  have r10 := r9.later hb10 (Nat.le_refl _)
  have s10 := s9.later hb10 (Nat.le_refl _)
  have H10 : Below w.heap.size w w10 := H9.trans (hb10.mono H9.size)
  clear r9 s9 hb10 H9 gN gM
  by_cases hk : k < 0 ∨ 7 < k
  · rcases hk with hk | hk
    · go_wp2_with fail
      refine Calls.mono (putHead_bad t5 k x w10 (Or.inl hk)) (fun e w11 hp => ?_)
      obtain ⟨rfl, hw⟩ := hp
      subst hw
      go_wp2
      go_ret
      exact ⟨rfl, H10⟩
    · have hk0 : ¬ k < 0 := by omega
      go_wp2_with fail
      refine Calls.mono (putHead_bad t5 k x w10 (Or.inr hk)) (fun e w11 hp => ?_)
      obtain ⟨rfl, hw⟩ := hp
      subst hw
      go_wp2
      go_ret
      exact ⟨rfl, H10⟩
  · have hk0 : 0 ≤ k := by omega
    have hk1 : k ≤ 7 := by omega
    clear hk
    go_wp2_with fail
    refine Calls.mono (putHead_ok t5 xs k x w10 rt hk0 hk1 hx0 hx1 (by omega)) (fun e w11 hp => ?_)
    obtain ⟨t6, rfl, ot, hb11⟩ := hp
    have s11 := s10.later hb11 (Nat.le_refl _)
    have hz11 := hb11.size
    have hll : (xs ++ headL k x).length + ys.length ≤ 140737488355328 := by have := headL_length k x; simp; omega
    have hA11 : AllB (xs ++ headL k x ++ ys) := (r10.allB.append (headL_bytes k x hk0 hk1 hx0 hx1)).append s10.allB
    clear rt
    go_wp2_with (at_builtin; refine wpList_append_rd _ rfl _ _ 22 rfl w10.heap.size 5 i0 z0 Try.underlying22 hi hz hs hb0 hc t6 (xs ++ headL k x) rfl ot _ ys rfl s11 hll hz11 ?_; intro c w12 hown hgrow hat)
    obtain ⟨cc, R, cr, hcc, hR, rc12, hb12⟩ := app_step hb11 ot hown hgrow hA11
    have H12 : Below w.heap.size w w12 := H10.trans (hb12.mono H10.size)
    clear r10 s10 s11 hz11 hll hA11 hown hgrow hat ot hb11 hb12 H10
    subst hcc
    have HR : Hid (R = (xs ++ headL k x).length + ys.length) := hR
    clear hR
    rw [List.append_assoc] at rc12
    have cH := head_any _ (xs ++ (headL k x ++ ys)) (xs.length : Int) w12 rc12 (by omega) (by have := headL_length k x; simp; omega)
    rw [headT_there xs ys k x hk0 hk1 hx0 hx1] at cH
    have CH : Hid _ := cH
    clear cH
    refine Calls.mono CH.out (fun e w13 hp => ?_)
    obtain ⟨rfl, hb13⟩ := hp
    have hR1 : R ≤ 140737488355328 := by have := HR.out; have := headL_length k x; simp at *; omega
    have gR : ((xs.length : Int) + ((headL k x).length : Int) == (R : Int) - (ys.length : Int)) = true := by
      have := HR.out
      rw [beq_iff_eq]
      simp at this
      omega
    go_wp2
    go_ret
    exact ⟨rfl, H12.trans (hb13.mono H12.size)⟩
end Go.Proofs.Ytpleamahaogfiab
