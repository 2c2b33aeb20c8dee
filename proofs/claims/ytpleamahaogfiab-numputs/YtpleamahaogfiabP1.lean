/-
  The walk of NumPuts.
-/
import Derived.Test.YtpleamahaogfiabW9
namespace Go.Proofs.Ytpleamahaogfiab
open Go.RowKit

set_option maxHeartbeats 4000000 in
theorem numPuts_walk (v : Value) (xs : List Int) (x n : Int) (w : World) (r0 : Rd w v xs) (hx0 : 0 ≤ x) (hx1 : x < 18446744073709551616) (hl : xs.length + 20 ≤ 140737488355328) :
    Calls Try.prog 3 #[v, .int .u64 x, .int .i64 n] w fun e w' => e = .returned (.bool true) ∧ Below w.heap.size w w' := by
  have cB1 := fun v w h => putBig_all v xs x n w h hx0 hx1 hl
  have cB2 := fun v w h => docPutBig_all v xs x n w h hx0 hx1 hl
  have cH1 := fun v w h => putHead_all v xs n x w h hx0 hx1 hl
  have cH2 := fun v w h => docPutHead_all v xs n x w h hx0 hx1 hl
  generalize (bigS xs x n).1 = bl at *
  generalize (bigS xs x n).2 = be at *
  generalize (headS xs n x).1 = hdl at *
  generalize (headS xs n x).2 = he at *
  have CB1 : Hid _ := cB1
  have CB2 : Hid _ := cB2
  have CH1 : Hid _ := cH1
  have CH2 : Hid _ := cH2
  clear cB1 cB2 cH1 cH2
  go_enter Try.func3, Try.ntmps3
  go_wp2_with fail
  refine Calls.mono (awake_any w) (fun e w1 hp => ?_)
  obtain ⟨rfl, hb1⟩ := hp
  have r1 := r0.later hb1 (Nat.le_refl _)
  have H1 : Below w.heap.size w w1 := hb1
  clear r0 hb1
  go_wp2_with fail
  refine Calls.mono (twin_rd v xs w1 r1 hl) (fun e w2 hp => ?_)
  obtain ⟨t1, rfl, rt1, hb2⟩ := hp
  have r2 := r1.later hb2 (Nat.le_refl _)
  have q2 := rt1
  have H2 : Below w.heap.size w w2 := H1.trans (hb2.mono H1.size)
  clear rt1 r1 hb2 H1
  go_wp2_with fail
  refine Calls.mono (CB1.out t1 w2 q2) (fun e w3 hp => ?_)
  obtain ⟨a, rfl, ra, hb3⟩ := hp
  have r3 := r2.later hb3 (Nat.le_refl _)
  have ra3 := ra
  have H3 : Below w.heap.size w w3 := H2.trans (hb3.mono H2.size)
  clear ra r2 q2 hb3 H2
  go_wp2_with fail
  refine Calls.mono (CB2.out v w3 r3) (fun e w4 hp => ?_)
  obtain ⟨b, rfl, rb, hb4⟩ := hp
  have r4 := r3.later hb4 (Nat.le_refl _)
  have ra4 := ra3.later hb4 (Nat.le_refl _)
  have rb4 := rb
  have H4 : Below w.heap.size w w4 := H3.trans (hb4.mono H3.size)
  clear rb r3 ra3 hb4 H3
  go_wp2_with fail
  refine Calls.mono (twin_rd v xs w4 r4 hl) (fun e w5 hp => ?_)
  obtain ⟨t2, rfl, rt1, hb5⟩ := hp
  have r5 := r4.later hb5 (Nat.le_refl _)
  have ra5 := ra4.later hb5 (Nat.le_refl _)
  have rb5 := rb4.later hb5 (Nat.le_refl _)
  have q5 := rt1
  have H5 : Below w.heap.size w w5 := H4.trans (hb5.mono H4.size)
  clear rt1 r4 ra4 rb4 hb5 H4
  go_wp2_with fail
  refine Calls.mono (CH1.out t2 w5 q5) (fun e w6 hp => ?_)
  obtain ⟨c, rfl, rc, hb6⟩ := hp
  have r6 := r5.later hb6 (Nat.le_refl _)
  have ra6 := ra5.later hb6 (Nat.le_refl _)
  have rb6 := rb5.later hb6 (Nat.le_refl _)
  have rc6 := rc
  have H6 : Below w.heap.size w w6 := H5.trans (hb6.mono H5.size)
  clear rc r5 ra5 rb5 q5 hb6 H5
  go_wp2_with fail
  refine Calls.mono (CH2.out v w6 r6) (fun e w7 hp => ?_)
  obtain ⟨d, rfl, rd, hb7⟩ := hp
  have r7 := r6.later hb7 (Nat.le_refl _)
  have ra7 := ra6.later hb7 (Nat.le_refl _)
  have rb7 := rb6.later hb7 (Nat.le_refl _)
  have rc7 := rc6.later hb7 (Nat.le_refl _)
  have rd7 := rd
  have H7 : Below w.heap.size w w7 := H6.trans (hb7.mono H6.size)
  clear rd r6 ra6 rb6 rc6 hb7 H6
  go_wp2_with fail
  refine Calls.mono (same_true a b bl w7 ra7 rb7) (fun e w8 hp => ?_)
  obtain ⟨rfl, hb8⟩ := hp
  have r8 := r7.later hb8 (Nat.le_refl _)
  have rc8 := rc7.later hb8 (Nat.le_refl _)
  have rd8 := rd7.later hb8 (Nat.le_refl _)
  have H8 : Below w.heap.size w w8 := H7.trans (hb8.mono H7.size)
  clear r7 ra7 rb7 rc7 rd7 hb8 H7
  go_wp2_with fail
  refine Calls.mono (same_true c d hdl w8 rc8 rd8) (fun e w9 hp => ?_)
  obtain ⟨rfl, hb9⟩ := hp
  have r9 := r8.later hb9 (Nat.le_refl _)
  have H9 : Below w.heap.size w w9 := H8.trans (hb9.mono H8.size)
  clear r8 rc8 rd8 hb9 H8
  go_wp2_with fail
  refine Calls.mono (twin_rd v xs w9 r9 hl) (fun e w10 hp => ?_)
  obtain ⟨t3, rfl, rt1, hb10⟩ := hp
  have r10 := r9.later hb10 (Nat.le_refl _)
  have q10 := rt1
  have H10 : Below w.heap.size w w10 := H9.trans (hb10.mono H9.size)
  clear rt1 r9 hb10 H9
  go_wp2_with fail
  refine Calls.mono (putSize_rd t3 xs x w10 q10 hx0 hx1 hl) (fun e w11 hp => ?_)
  obtain ⟨e1, rfl, re, hb11⟩ := hp
  have r11 := r10.later hb11 (Nat.le_refl _)
  have re11 := re
  have H11 : Below w.heap.size w w11 := H10.trans (hb11.mono H10.size)
  clear re r10 q10 hb11 H10
  go_wp2_with fail
  refine Calls.mono (docPutSize_rd v xs x w11 r11 hx0 hx1 hl) (fun e w12 hp => ?_)
  obtain ⟨e2, rfl, rf, hb12⟩ := hp
  have r12 := r11.later hb12 (Nat.le_refl _)
  have re12 := re11.later hb12 (Nat.le_refl _)
  have rf12 := rf
  have H12 : Below w.heap.size w w12 := H11.trans (hb12.mono H11.size)
  clear rf r11 re11 hb12 H11
  go_wp2_with fail
  refine Calls.mono (same_true e1 e2 _ w12 re12 rf12) (fun e w13 hp => ?_)
  obtain ⟨rfl, hb13⟩ := hp
  have r13 := r12.later hb13 (Nat.le_refl _)
  have H13 : Below w.heap.size w w13 := H12.trans (hb13.mono H12.size)
  clear r12 re12 rf12 hb13 H12
  go_wp2_with fail
  refine Calls.mono (twin_rd v xs w13 r13 hl) (fun e w14 hp => ?_)
  obtain ⟨t4, rfl, rt1, hb14⟩ := hp
  have r14 := r13.later hb14 (Nat.le_refl _)
  have q14 := rt1
  have H14 : Below w.heap.size w w14 := H13.trans (hb14.mono H13.size)
  clear rt1 r13 hb14 H13
  go_wp2_with fail
  refine Calls.mono (putSpan_rd t4 xs x w14 q14 hx0 hx1 hl) (fun e w15 hp => ?_)
  obtain ⟨e3, rfl, re, hb15⟩ := hp
  have r15 := r14.later hb15 (Nat.le_refl _)
  have re15 := re
  have H15 : Below w.heap.size w w15 := H14.trans (hb15.mono H14.size)
  clear re r14 q14 hb15 H14
  go_wp2_with fail
  refine Calls.mono (docPutSpan_rd v xs x w15 r15 hx0 hx1 hl) (fun e w16 hp => ?_)
  obtain ⟨e4, rfl, rf, hb16⟩ := hp
  have r16 := r15.later hb16 (Nat.le_refl _)
  have re16 := re15.later hb16 (Nat.le_refl _)
  have rf16 := rf
  have H16 : Below w.heap.size w w16 := H15.trans (hb16.mono H15.size)
  clear rf r15 re15 hb16 H15
  go_wp2_with fail
  refine Calls.mono (same_true e3 e4 _ w16 re16 rf16) (fun e w17 hp => ?_)
  obtain ⟨rfl, hb17⟩ := hp
  have r17 := r16.later hb17 (Nat.le_refl _)
  have H17 : Below w.heap.size w w17 := H16.trans (hb17.mono H16.size)
  clear r16 re16 rf16 hb17 H16
  go_wp2
  go_ret
  exact ⟨rfl, H17⟩
end Go.Proofs.Ytpleamahaogfiab
