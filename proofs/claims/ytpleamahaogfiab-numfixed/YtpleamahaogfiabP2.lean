/-
  The walk of NumTakes.
-/
import Derived.Test.YtpleamahaogfiabW15
namespace Go.Proofs.Ytpleamahaogfiab
open Go.RowKit

theorem calls_still {f : FuncId} {args : Array Value} {w : World} {R : Ending → Prop} (h : Calls Try.prog f args w fun e w' => R e ∧ w' = w) : Calls Try.prog f args w fun e w' => R e ∧ Below w.heap.size w w' :=
  h.mono fun e w' hp => ⟨hp.1, by rw [hp.2]; exact Below.refl _ _⟩

set_option maxHeartbeats 4000000 in
theorem numTakes_walk (v : Value) (xs : List Int) (t n : Int) (w : World) (r0 : Rd w v xs) (ht0 : -9223372036854775808 ≤ t) (ht : t ≤ 9223372036854775807) (hn0 : -9223372036854775808 ≤ n) (hn : n ≤ 9223372036854775807) (hl : xs.length + 20 ≤ 140737488355328) :
    Calls Try.prog 4 #[v, .int .i64 t, .int .i64 n] w fun e w' => e = .returned (.bool true) ∧ Below w.heap.size w w' := by
  have cB1 := fun v w h => calls_still (big_any v xs t n w h ht0 ht hn0 hn hl)
  have cB2 := fun v w h => calls_still (docBig_any v xs t n w h ht0 ht hn0 hn hl)
  have cS1 := fun v w h => calls_still (size_any v xs t w h ht hl)
  have cS2 := fun v w h => calls_still (docSize_any v xs t w h ht hl)
  have cP1 := fun v w h => calls_still (span_any v xs t w h ht hl)
  have cP2 := fun v w h => calls_still (docSpan_any v xs t w h ht hl)
  have cH1 := fun v w h => head_any v xs t w h ht hl
  have cH2 := fun v w h => docHead_any v xs t w h ht hl
  generalize (takeS xs t n).1 = b1 at *
  generalize (takeS xs t n).2 = b2 at *
  generalize (sizeS xs t).1 = s1 at *
  generalize (sizeS xs t).2.1 = s2 at *
  generalize (sizeS xs t).2.2 = s3 at *
  generalize (spanS xs t).1 = p1 at *
  generalize (spanS xs t).2.1 = p2 at *
  generalize (spanS xs t).2.2 = p3 at *
  generalize (headT xs t).1 = k1 at *
  generalize (headT xs t).2.1 = k2 at *
  generalize (headT xs t).2.2.1 = k3 at *
  generalize (headT xs t).2.2.2 = k4 at *
  have CB1 : Hid _ := cB1
  have CB2 : Hid _ := cB2
  have CS1 : Hid _ := cS1
  have CS2 : Hid _ := cS2
  have CP1 : Hid _ := cP1
  have CP2 : Hid _ := cP2
  have CH1 : Hid _ := cH1
  have CH2 : Hid _ := cH2
  clear cB1 cB2 cS1 cS2 cP1 cP2 cH1 cH2
  go_enter Try.func4, Try.ntmps4
  go_wp2_with fail
  refine Calls.mono (awake_any w) (fun e w1 hp => ?_)
  obtain ⟨rfl, hb1⟩ := hp
  have r1 := r0.later hb1 (Nat.le_refl _)
  have H1 : Below w.heap.size w w1 := hb1
  clear r0 hb1
  go_wp2_with fail
  refine Calls.mono (twin_rd v xs w1 r1 hl) (fun e w2 hp => ?_)
  obtain ⟨tB, rfl, rt1, hb2⟩ := hp
  have r2 := r1.later hb2 (Nat.le_refl _)
  have q2 := rt1
  have H2 : Below w.heap.size w w2 := H1.trans (hb2.mono H1.size)
  clear rt1 r1 hb2 H1
  go_wp2_with fail
  refine Calls.mono (CB1.out tB w2 q2) (fun e w3 hp => ?_)
  obtain ⟨rfl, hb3⟩ := hp
  have r3 := r2.later hb3 (Nat.le_refl _)
  have H3 : Below w.heap.size w w3 := H2.trans (hb3.mono H2.size)
  clear r2 q2 hb3 H2
  go_wp2_with fail
  refine Calls.mono (CB2.out v w3 r3) (fun e w4 hp => ?_)
  obtain ⟨rfl, hb4⟩ := hp
  have r4 := r3.later hb4 (Nat.le_refl _)
  have H4 : Below w.heap.size w w4 := H3.trans (hb4.mono H3.size)
  clear r3 hb4 H3
  go_wp2_with fail
  refine Calls.mono (twin_rd v xs w4 r4 hl) (fun e w5 hp => ?_)
  obtain ⟨tS, rfl, rt1, hb5⟩ := hp
  have r5 := r4.later hb5 (Nat.le_refl _)
  have q5 := rt1
  have H5 : Below w.heap.size w w5 := H4.trans (hb5.mono H4.size)
  clear rt1 r4 hb5 H4
  go_wp2_with fail
  refine Calls.mono (CS1.out tS w5 q5) (fun e w6 hp => ?_)
  obtain ⟨rfl, hb6⟩ := hp
  have r6 := r5.later hb6 (Nat.le_refl _)
  have H6 : Below w.heap.size w w6 := H5.trans (hb6.mono H5.size)
  clear r5 q5 hb6 H5
  go_wp2_with fail
  refine Calls.mono (CS2.out v w6 r6) (fun e w7 hp => ?_)
  obtain ⟨rfl, hb7⟩ := hp
  have r7 := r6.later hb7 (Nat.le_refl _)
  have H7 : Below w.heap.size w w7 := H6.trans (hb7.mono H6.size)
  clear r6 hb7 H6
  go_wp2_with fail
  refine Calls.mono (twin_rd v xs w7 r7 hl) (fun e w8 hp => ?_)
  obtain ⟨tP, rfl, rt1, hb8⟩ := hp
  have r8 := r7.later hb8 (Nat.le_refl _)
  have q8 := rt1
  have H8 : Below w.heap.size w w8 := H7.trans (hb8.mono H7.size)
  clear rt1 r7 hb8 H7
  go_wp2_with fail
  refine Calls.mono (CP1.out tP w8 q8) (fun e w9 hp => ?_)
  obtain ⟨rfl, hb9⟩ := hp
  have r9 := r8.later hb9 (Nat.le_refl _)
  have H9 : Below w.heap.size w w9 := H8.trans (hb9.mono H8.size)
  clear r8 q8 hb9 H8
  go_wp2_with fail
  refine Calls.mono (CP2.out v w9 r9) (fun e w10 hp => ?_)
  obtain ⟨rfl, hb10⟩ := hp
  have r10 := r9.later hb10 (Nat.le_refl _)
  have H10 : Below w.heap.size w w10 := H9.trans (hb10.mono H9.size)
  clear r9 hb10 H9
  go_wp2_with fail
  refine Calls.mono (twin_rd v xs w10 r10 hl) (fun e w11 hp => ?_)
  obtain ⟨tH, rfl, rt1, hb11⟩ := hp
  have r11 := r10.later hb11 (Nat.le_refl _)
  have q11 := rt1
  have H11 : Below w.heap.size w w11 := H10.trans (hb11.mono H10.size)
  clear rt1 r10 hb11 H10
  go_wp2_with fail
  refine Calls.mono (CH1.out tH w11 q11) (fun e w12 hp => ?_)
  obtain ⟨rfl, hb12⟩ := hp
  have r12 := r11.later hb12 (Nat.le_refl _)
  have H12 : Below w.heap.size w w12 := H11.trans (hb12.mono H11.size)
  clear r11 q11 hb12 H11
  go_wp2_with fail
  refine Calls.mono (CH2.out v w12 r12) (fun e w13 hp => ?_)
  obtain ⟨rfl, hb13⟩ := hp
  have r13 := r12.later hb13 (Nat.le_refl _)
  have H13 : Below w.heap.size w w13 := H12.trans (hb13.mono H12.size)
  clear r12 hb13 H12
  go_wp2
  go_ret
  exact ⟨rfl, H13⟩
end Go.Proofs.Ytpleamahaogfiab
