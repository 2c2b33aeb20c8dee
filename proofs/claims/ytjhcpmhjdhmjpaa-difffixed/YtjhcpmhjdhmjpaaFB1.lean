/-
  Walks: inForm and Apply at hunks that are not in form.
-/
import Derived.Test.YtjhcpmhjdhmjpaaVJ
namespace Go.Proofs.Ytjhcpmhjdhmjpaa
open Go.RowKit

def tcH : Bool := match FloatKind.f64.decode 4602678819172646912 with
  | .nan _ _ => false
  | d => FloatKind.f64.encode (d.integral .zero) == 0
theorem tcH_ok : tcH = true := by kernel_rfl
theorem tcH_run (s : String) : Extern.MathFloor.toIntegral s .zero #[.float .f64 4602678819172646912] = pure (.float .f64 0) := by
  have := tcH_ok
  unfold tcH at this
  split at this
  · cases this
  · rename_i d hd
    rw [tc_gen 4602678819172646912 _ rfl hd s, beq_iff_eq.1 this]
theorem run_archH (w : World) : (callFunc 61 #[.float .f64 4602678819172646912]).run Try.prog w = .ok (.value (.float .f64 0)) w := by
  rw [run_callFunc_extern Try.func61 (by kernel_rfl) (by kernel_rfl) (by kernel_rfl) (e := Extern.MathFloor.toIntegral "math.archTrunc" .zero) (by kernel_rfl), tcH_run]
  rfl
set_option maxHeartbeats 400000 in
set_option maxRecDepth 100000 in
theorem TruncH (w : World) : Calls Try.prog 60 #[.float .f64 4602678819172646912] w fun e w' => e = .returned (.float .f64 0) ∧ w' = w := by
  have h1 := run_archH w
  generalize 4602678819172646912 = X at *
  go_enter Try.func60, Try.ntmps60
  go_wp2
  go_ret
  exact ⟨rfl, rfl⟩
theorem fl_two : fl 2 = 4611686018427387904 := by kernel_rfl
theorem fl_three : fl 3 = 4613937818241073152 := by kernel_rfl
set_option maxHeartbeats 400000 in
set_option maxRecDepth 100000 in
theorem isWholeH (w : World) : Calls Try.prog 57 #[.float .f64 4602678819172646912, .float .f64 (fl 2)] w fun e w' => e = .returned (.bool false) ∧ w' = w := by
  have K1 := Kept.mk (TruncH w)
  have d0 : FloatKind.f64.format.order 4602678819172646912 0 = some .gt := by kernel_rfl
  have d1 : FloatKind.f64.format.order 4602678819172646912 (fl 2) = some .lt := by kernel_rfl
  generalize 4602678819172646912 = X at *
  generalize fl 2 = Y at *
  go_enter Try.func57, Try.ntmps57
  go_wp2_with fail
  refine Calls.mono K1.out (fun e w1 hp => ?_)
  obtain ⟨rfl, hw⟩ := hp
  subst w1
  clear K1
  go_wp2
  go_ret
  exact ⟨rfl, rfl⟩
set_option maxHeartbeats 400000 in
set_option maxRecDepth 100000 in
theorem isWholeN (w : World) : Calls Try.prog 57 #[.float .f64 13830554455654793216, .float .f64 (fl 2)] w fun e w' => e = .returned (.bool false) ∧ w' = w := by
  have d0 : (FloatKind.f64.format.order 13830554455654793216 0 == some .gt || FloatKind.f64.format.order 13830554455654793216 0 == some .eq) = false := by kernel_rfl
  generalize 13830554455654793216 = X at *
  generalize fl 2 = Y at *
  go_enter Try.func57, Try.ntmps57
  go_wp2
  go_ret
  exact ⟨rfl, rfl⟩
set_option maxHeartbeats 400000 in
set_option maxRecDepth 100000 in
theorem isWhole3 (w : World) : Calls Try.prog 57 #[.float .f64 (fl 3), .float .f64 (fl 2)] w fun e w' => e = .returned (.bool false) ∧ w' = w := by
  have d0 : (FloatKind.f64.format.order (fl 3) 0 == some .gt || FloatKind.f64.format.order (fl 3) 0 == some .eq) = true := by kernel_rfl
  have d1 : (FloatKind.f64.format.order (fl 3) (fl 2) == some .lt || FloatKind.f64.format.order (fl 3) (fl 2) == some .eq) = false := by kernel_rfl
  generalize fl 3 = X at *
  generalize fl 2 = Y at *
  go_enter Try.func57, Try.ntmps57
  go_wp2
  go_ret
  exact ⟨rfl, rfl⟩
set_option maxHeartbeats 400000 in
set_option maxRecDepth 100000 in
theorem inPlane_no (X Y : Nat) (h : ∀ w, Calls Try.prog 57 #[.float .f64 X, .float .f64 (fl 2)] w fun e w' => e = .returned (.bool false) ∧ w' = w) (w : World) : Calls Try.prog 50 #[.complex .f64 X Y, pt 2 2] w fun e w' => e = .returned (.bool false) ∧ w' = w := by
  have K1 := Kept.mk (h w)
  clear h
  unfold pt
  generalize fl 2 = Z at *
  go_enter Try.func50, Try.ntmps50
  go_wp2_with fail
  refine Calls.mono K1.out (fun e w1 hp => ?_)
  obtain ⟨rfl, hw⟩ := hp
  subst w1
  clear K1
  go_wp2
  go_ret
  exact ⟨rfl, rfl⟩
set_option maxHeartbeats 1000000 in
set_option maxRecDepth 100000 in
theorem inForm_bad0 (b o c : Nat) (w : World) (hr : ∀ W, Below w.heap.size w W → W.rangeAt b o [.complex .f64 (fl 1) (fl 1), .complex .f64 (fl 1) (fl 1)]) :
    Calls Try.prog 41 #[.slice (some ⟨b, o, none⟩) 1 c, pt 2 2] w fun e w' => e = .returned (.bool false) ∧ Below w.heap.size w w' := by
  have KR := Kept.mk hr
  clear hr
  have s1 := c_subG (x := 1) (y := 1) (u := 0) (v := 0) (by omega) (by omega) (by omega) (by omega)
  have s2 := c_subG (x := 1) (y := 1) (u := 1) (v := 1) (by omega) (by omega) (by omega) (by omega)
  simp only [Nat.sub_zero, Nat.sub_self] at s1 s2
  unfold pt
  go_enter Try.func41, Try.ntmps41
  go_upto_region 3 with fail
  go_loopw [5, 13] (fun bv iv wr => iv = .int .i64 0 ∧ bv = .complex .f64 0 0 ∧ Below w.heap.size w wr) (fun _ iv _ => 1)
  case atStart => exact ⟨rfl, rfl, Below.refl _ _⟩
  case round =>
    obtain ⟨rfl, rfl, hbr⟩ := hrel
    have KRow := Kept.mk (KR.out wr hbr)
    have KI : Kept ((Try.prog.info? 47).map (·.size) = some 2) := ⟨by kernel_rfl⟩
    have hB0 := Bk.new wr 47 [.complex .f64 0 0, .complex .f64 0 0]
    have hB1 := hB0.set 0 (.complex .f64 (fl 1) (fl 1))
    have hB2 := hB1.set 1 (.complex .f64 (fl 1) (fl 1))
    have hst1 := run_store_c _ _ (fl 1) (fl 1) _ (hB0.cell 0 _ rfl) (hB0.frozen 0)
    have hst2 := run_store_c _ _ (fl 1) (fl 1) _ (hB1.cell 1 _ rfl) (hB1.frozen 1)
    have hb1 : Below w.heap.size w ((((wr.alloc (.cells #[.complex .f64 0 0, .complex .f64 0 0] 47)).setCell ⟨wr.heap.size, 0, none⟩ (.complex .f64 (fl 1) (fl 1))).setCell ⟨wr.heap.size, 1, none⟩ (.complex .f64 (fl 1) (fl 1)))) := ((hbr.alloc hbr.size _).setCell hbr.size _).setCell hbr.size _
    have c0 := hB2.cell 0 (.complex .f64 (fl 1) (fl 1)) rfl
    have c1 := hB2.cell 1 (.complex .f64 (fl 1) (fl 1)) rfl
    have ef : ([Value.complex .f64 0 0, .complex .f64 0 0] : List Value).toArray = #[.complex .f64 0 0, .complex .f64 0 0] := rfl
    rw [ef] at hst1 hst2 c0 c1
    obtain ⟨w1, hw1⟩ : ∃ x, ((((wr.alloc (.cells #[.complex .f64 0 0, .complex .f64 0 0] 47)).setCell ⟨wr.heap.size, 0, none⟩ (.complex .f64 (fl 1) (fl 1))).setCell ⟨wr.heap.size, 1, none⟩ (.complex .f64 (fl 1) (fl 1)))) = x := ⟨_, rfl⟩
    rw [hw1] at hst2 c0 c1 hb1
    obtain ⟨w0, hw0⟩ : ∃ x, ((wr.alloc (.cells #[.complex .f64 0 0, .complex .f64 0 0] 47)).setCell ⟨wr.heap.size, 0, none⟩ (.complex .f64 (fl 1) (fl 1))) = x := ⟨_, rfl⟩
    rw [hw0] at hst1 hst2
    have KB1 := Kept.mk hb1
    have K1 := Kept.mk (inPlane_any (x := 1) (y := 1) (n := 2) (m := 2) (by omega) (by omega) (by omega) (by omega) w1)
    have K2 := Kept.mk (inPlane_any (x := 1) (y := 1) (n := 2) (m := 2) (by omega) (by omega) (by omega) (by omega) w1)
    unfold pt at K1 K2
    have q1 : FloatKind.f64.format.order (fl 1) (fl 1) = some .eq := by kernel_rfl
    have q3 : FloatKind.f64.format.order (fl 0) 0 = some .eq := by kernel_rfl
    clear hB0 hB1 hB2 hb1 hbr ef hw1 hw0 KR
    generalize hz0 : fl 0 = Z0 at *
    generalize hz1 : fl 1 = Z1 at *
    generalize hz2 : fl 2 = Z2 at *
    have hz00 : Z0 = 0 := by rw [← hz0]; exact fl_zero
    clear hz0 hz1 hz2
    subst hz00
    go_wp2_with (refine wpList_load_mid rfl 47 _ rfl b o rfl [.complex .f64 Z1 Z1, .complex .f64 Z1 Z1] _ KRow.out Try.underlying47 rfl KI.out ?_)
    refine Calls.mono K1.out (fun e w2 hp => ?_)
    obtain ⟨rfl, hw⟩ := hp
    subst w2
    clear K1
    go_wp2_with fail
    refine Calls.mono K2.out (fun e w2 hp => ?_)
    obtain ⟨rfl, hw⟩ := hp
    subst w2
    clear K2
    go_upto_region 7 with fail
    go_quiet (fail)
    generalize hwq : World.drewN w1 _ = wq
    have KBq : Kept (Below w.heap.size w wq) := ⟨by rw [← hwq]; exact below_drewN KB1.out _⟩
    clear hwq s1 s2
    go_wp2
    go_ret
    exact ⟨rfl, KBq.out⟩
set_option maxHeartbeats 1000000 in
set_option maxRecDepth 100000 in
theorem inForm_bad1 (b o c : Nat) (w : World) (hr : ∀ W, Below w.heap.size w W → W.rangeAt b o [.complex .f64 (fl 1) (fl 1), .complex .f64 (fl 3) (fl 2)]) :
    Calls Try.prog 41 #[.slice (some ⟨b, o, none⟩) 1 c, pt 2 2] w fun e w' => e = .returned (.bool false) ∧ Below w.heap.size w w' := by
  have KR := Kept.mk hr
  clear hr
  unfold pt
  go_enter Try.func41, Try.ntmps41
  go_upto_region 3 with fail
  go_loopw [5, 13] (fun bv iv wr => iv = .int .i64 0 ∧ bv = .complex .f64 0 0 ∧ Below w.heap.size w wr) (fun _ iv _ => 1)
  case atStart => exact ⟨rfl, rfl, Below.refl _ _⟩
  case round =>
    obtain ⟨rfl, rfl, hbr⟩ := hrel
    have KRow := Kept.mk (KR.out wr hbr)
    have KI : Kept ((Try.prog.info? 47).map (·.size) = some 2) := ⟨by kernel_rfl⟩
    have hB0 := Bk.new wr 47 [.complex .f64 0 0, .complex .f64 0 0]
    have hB1 := hB0.set 0 (.complex .f64 (fl 1) (fl 1))
    have hB2 := hB1.set 1 (.complex .f64 (fl 3) (fl 2))
    have hst1 := run_store_c _ _ (fl 1) (fl 1) _ (hB0.cell 0 _ rfl) (hB0.frozen 0)
    have hst2 := run_store_c _ _ (fl 3) (fl 2) _ (hB1.cell 1 _ rfl) (hB1.frozen 1)
    have hb1 : Below w.heap.size w ((((wr.alloc (.cells #[.complex .f64 0 0, .complex .f64 0 0] 47)).setCell ⟨wr.heap.size, 0, none⟩ (.complex .f64 (fl 1) (fl 1))).setCell ⟨wr.heap.size, 1, none⟩ (.complex .f64 (fl 3) (fl 2)))) := ((hbr.alloc hbr.size _).setCell hbr.size _).setCell hbr.size _
    have c0 := hB2.cell 0 (.complex .f64 (fl 1) (fl 1)) rfl
    have c1 := hB2.cell 1 (.complex .f64 (fl 3) (fl 2)) rfl
    have ef : ([Value.complex .f64 0 0, .complex .f64 0 0] : List Value).toArray = #[.complex .f64 0 0, .complex .f64 0 0] := rfl
    rw [ef] at hst1 hst2 c0 c1
    obtain ⟨w1, hw1⟩ : ∃ x, ((((wr.alloc (.cells #[.complex .f64 0 0, .complex .f64 0 0] 47)).setCell ⟨wr.heap.size, 0, none⟩ (.complex .f64 (fl 1) (fl 1))).setCell ⟨wr.heap.size, 1, none⟩ (.complex .f64 (fl 3) (fl 2)))) = x := ⟨_, rfl⟩
    rw [hw1] at hst2 c0 c1 hb1
    obtain ⟨w0, hw0⟩ : ∃ x, ((wr.alloc (.cells #[.complex .f64 0 0, .complex .f64 0 0] 47)).setCell ⟨wr.heap.size, 0, none⟩ (.complex .f64 (fl 1) (fl 1))) = x := ⟨_, rfl⟩
    rw [hw0] at hst1 hst2
    have KB1 := Kept.mk hb1
    have K1 := Kept.mk (inPlane_any (x := 1) (y := 1) (n := 2) (m := 2) (by omega) (by omega) (by omega) (by omega) w1)
    have K2 := Kept.mk (inPlane_no (fl 3) (fl 2) isWhole3 w1)
    unfold pt at K1 K2
    clear hB0 hB1 hB2 hb1 hbr ef hw1 hw0 KR
    generalize hz1 : fl 1 = Z1 at *
    generalize hz2 : fl 2 = Z2 at *
    generalize hz3 : fl 3 = Z3 at *
    clear hz1 hz2 hz3
    go_wp2_with (refine wpList_load_mid rfl 47 _ rfl b o rfl [.complex .f64 Z1 Z1, .complex .f64 Z3 Z2] _ KRow.out Try.underlying47 rfl KI.out ?_)
    refine Calls.mono K1.out (fun e w2 hp => ?_)
    obtain ⟨rfl, hw⟩ := hp
    subst w2
    clear K1
    go_wp2_with fail
    refine Calls.mono K2.out (fun e w2 hp => ?_)
    obtain ⟨rfl, hw⟩ := hp
    subst w2
    clear K2
    have KBq := KB1
    go_wp2
    go_ret
    exact ⟨rfl, KBq.out⟩
set_option maxHeartbeats 1000000 in
set_option maxRecDepth 100000 in
theorem inForm_bad2 (b o c : Nat) (w : World) (hr : ∀ W, Below w.heap.size w W → W.rangeAt b o [.complex .f64 (fl 1) (fl 0), .complex .f64 (fl 2) (fl 1)]) :
    Calls Try.prog 41 #[.slice (some ⟨b, o, none⟩) 1 c, pt 2 2] w fun e w' => e = .returned (.bool false) ∧ Below w.heap.size w w' := by
  have KR := Kept.mk hr
  clear hr
  have s1 := c_subG (x := 1) (y := 0) (u := 0) (v := 0) (by omega) (by omega) (by omega) (by omega)
  have s2 := c_subG (x := 2) (y := 1) (u := 1) (v := 0) (by omega) (by omega) (by omega) (by omega)
  simp only [Nat.sub_zero, Nat.sub_self, Nat.reduceSub] at s1 s2
  unfold pt
  go_enter Try.func41, Try.ntmps41
  go_upto_region 3 with fail
  go_loopw [5, 13] (fun bv iv wr => iv = .int .i64 0 ∧ bv = .complex .f64 0 0 ∧ Below w.heap.size w wr) (fun _ iv _ => 1)
  case atStart => exact ⟨rfl, rfl, Below.refl _ _⟩
  case round =>
    obtain ⟨rfl, rfl, hbr⟩ := hrel
    have KRow := Kept.mk (KR.out wr hbr)
    have KI : Kept ((Try.prog.info? 47).map (·.size) = some 2) := ⟨by kernel_rfl⟩
    have hB0 := Bk.new wr 47 [.complex .f64 0 0, .complex .f64 0 0]
    have hB1 := hB0.set 0 (.complex .f64 (fl 1) (fl 0))
    have hB2 := hB1.set 1 (.complex .f64 (fl 2) (fl 1))
    have hst1 := run_store_c _ _ (fl 1) (fl 0) _ (hB0.cell 0 _ rfl) (hB0.frozen 0)
    have hst2 := run_store_c _ _ (fl 2) (fl 1) _ (hB1.cell 1 _ rfl) (hB1.frozen 1)
    have hb1 : Below w.heap.size w ((((wr.alloc (.cells #[.complex .f64 0 0, .complex .f64 0 0] 47)).setCell ⟨wr.heap.size, 0, none⟩ (.complex .f64 (fl 1) (fl 0))).setCell ⟨wr.heap.size, 1, none⟩ (.complex .f64 (fl 2) (fl 1)))) := ((hbr.alloc hbr.size _).setCell hbr.size _).setCell hbr.size _
    have c0 := hB2.cell 0 (.complex .f64 (fl 1) (fl 0)) rfl
    have c1 := hB2.cell 1 (.complex .f64 (fl 2) (fl 1)) rfl
    have ef : ([Value.complex .f64 0 0, .complex .f64 0 0] : List Value).toArray = #[.complex .f64 0 0, .complex .f64 0 0] := rfl
    rw [ef] at hst1 hst2 c0 c1
    obtain ⟨w1, hw1⟩ : ∃ x, ((((wr.alloc (.cells #[.complex .f64 0 0, .complex .f64 0 0] 47)).setCell ⟨wr.heap.size, 0, none⟩ (.complex .f64 (fl 1) (fl 0))).setCell ⟨wr.heap.size, 1, none⟩ (.complex .f64 (fl 2) (fl 1)))) = x := ⟨_, rfl⟩
    rw [hw1] at hst2 c0 c1 hb1
    obtain ⟨w0, hw0⟩ : ∃ x, ((wr.alloc (.cells #[.complex .f64 0 0, .complex .f64 0 0] 47)).setCell ⟨wr.heap.size, 0, none⟩ (.complex .f64 (fl 1) (fl 0))) = x := ⟨_, rfl⟩
    rw [hw0] at hst1 hst2
    have KB1 := Kept.mk hb1
    have K1 := Kept.mk (inPlane_any (x := 1) (y := 0) (n := 2) (m := 2) (by omega) (by omega) (by omega) (by omega) w1)
    have K2 := Kept.mk (inPlane_any (x := 2) (y := 1) (n := 2) (m := 2) (by omega) (by omega) (by omega) (by omega) w1)
    unfold pt at K1 K2
    have q1 : FloatKind.f64.format.order (fl 1) (fl 0) = some .gt := by kernel_rfl
    clear hB0 hB1 hB2 hb1 hbr ef hw1 hw0 KR
    generalize hz0 : fl 0 = Z0 at *
    generalize hz1 : fl 1 = Z1 at *
    generalize hz2 : fl 2 = Z2 at *
    have hz00 : Z0 = 0 := by rw [← hz0]; exact fl_zero
    clear hz0 hz1 hz2
    subst hz00
    go_wp2_with (refine wpList_load_mid rfl 47 _ rfl b o rfl [.complex .f64 Z1 0, .complex .f64 Z2 Z1] _ KRow.out Try.underlying47 rfl KI.out ?_)
    refine Calls.mono K1.out (fun e w2 hp => ?_)
    obtain ⟨rfl, hw⟩ := hp
    subst w2
    clear K1
    go_wp2_with fail
    refine Calls.mono K2.out (fun e w2 hp => ?_)
    obtain ⟨rfl, hw⟩ := hp
    subst w2
    clear K2
    go_upto_region 7 with fail
    go_quiet (fail)
    generalize hwq : World.drewN w1 _ = wq
    have KBq : Kept (Below w.heap.size w wq) := ⟨by rw [← hwq]; exact below_drewN KB1.out _⟩
    clear hwq s1 s2
    go_wp2
    go_ret
    exact ⟨rfl, KBq.out⟩
set_option maxHeartbeats 1000000 in
set_option maxRecDepth 100000 in
theorem inForm_bad3 (b o c : Nat) (w : World) (hr : ∀ W, Below w.heap.size w W → W.rangeAt b o [.complex .f64 (fl 1) (fl 1), .complex .f64 (fl 2) (fl 1)]) :
    Calls Try.prog 41 #[.slice (some ⟨b, o, none⟩) 1 c, pt 2 2] w fun e w' => e = .returned (.bool false) ∧ Below w.heap.size w w' := by
  have KR := Kept.mk hr
  clear hr
  have s1 := c_subG (x := 1) (y := 1) (u := 0) (v := 0) (by omega) (by omega) (by omega) (by omega)
  have s2 := c_subG (x := 2) (y := 1) (u := 1) (v := 1) (by omega) (by omega) (by omega) (by omega)
  have s3 := c_subG (x := 2) (y := 2) (u := 2) (v := 1) (by omega) (by omega) (by omega) (by omega)
  simp only [Nat.sub_zero, Nat.sub_self, Nat.reduceSub] at s1 s2 s3
  unfold pt
  go_enter Try.func41, Try.ntmps41
  go_upto_region 3 with fail
  go_loopw [5, 13] (fun bv iv wr => ((iv = .int .i64 0 ∧ bv = .complex .f64 0 0) ∨ (iv = .int .i64 1 ∧ bv = .complex .f64 (fl 2) (fl 1))) ∧ Below w.heap.size w wr) (fun _ iv _ => 1 - (intOf iv).toNat)
  case atStart => exact ⟨.inl ⟨rfl, rfl⟩, Below.refl _ _⟩
  case round =>
    obtain ⟨hor, hbr⟩ := hrel
    rcases hor with ⟨rfl, rfl⟩ | ⟨rfl, rfl⟩
    rotate_left
    · have q9 : FloatKind.f64.format.order (fl 0) (fl 1) = some .lt := by kernel_rfl
      have KBr := Kept.mk hbr
      have s3w := s3 wr
      clear hbr KR s1 s2 s3
      rw [fl_zero] at q9 s3w
      generalize fl 2 = Z2 at *
      generalize fl 1 = Z1 at *
      go_wp2
      go_ret
      exact ⟨rfl, KBr.out⟩
    have KRow := Kept.mk (KR.out wr hbr)
    have KI : Kept ((Try.prog.info? 47).map (·.size) = some 2) := ⟨by kernel_rfl⟩
    have hB0 := Bk.new wr 47 [.complex .f64 0 0, .complex .f64 0 0]
    have hB1 := hB0.set 0 (.complex .f64 (fl 1) (fl 1))
    have hB2 := hB1.set 1 (.complex .f64 (fl 2) (fl 1))
    have hst1 := run_store_c _ _ (fl 1) (fl 1) _ (hB0.cell 0 _ rfl) (hB0.frozen 0)
    have hst2 := run_store_c _ _ (fl 2) (fl 1) _ (hB1.cell 1 _ rfl) (hB1.frozen 1)
    have hb1 : Below w.heap.size w ((((wr.alloc (.cells #[.complex .f64 0 0, .complex .f64 0 0] 47)).setCell ⟨wr.heap.size, 0, none⟩ (.complex .f64 (fl 1) (fl 1))).setCell ⟨wr.heap.size, 1, none⟩ (.complex .f64 (fl 2) (fl 1)))) := ((hbr.alloc hbr.size _).setCell hbr.size _).setCell hbr.size _
    have c0 := hB2.cell 0 (.complex .f64 (fl 1) (fl 1)) rfl
    have c1 := hB2.cell 1 (.complex .f64 (fl 2) (fl 1)) rfl
    have ef : ([Value.complex .f64 0 0, .complex .f64 0 0] : List Value).toArray = #[.complex .f64 0 0, .complex .f64 0 0] := rfl
    rw [ef] at hst1 hst2 c0 c1
    obtain ⟨w1, hw1⟩ : ∃ x, ((((wr.alloc (.cells #[.complex .f64 0 0, .complex .f64 0 0] 47)).setCell ⟨wr.heap.size, 0, none⟩ (.complex .f64 (fl 1) (fl 1))).setCell ⟨wr.heap.size, 1, none⟩ (.complex .f64 (fl 2) (fl 1)))) = x := ⟨_, rfl⟩
    rw [hw1] at hst2 c0 c1 hb1
    obtain ⟨w0, hw0⟩ : ∃ x, ((wr.alloc (.cells #[.complex .f64 0 0, .complex .f64 0 0] 47)).setCell ⟨wr.heap.size, 0, none⟩ (.complex .f64 (fl 1) (fl 1))) = x := ⟨_, rfl⟩
    rw [hw0] at hst1 hst2
    have KB1 := Kept.mk hb1
    have K1 := Kept.mk (inPlane_any (x := 1) (y := 1) (n := 2) (m := 2) (by omega) (by omega) (by omega) (by omega) w1)
    have K2 := Kept.mk (inPlane_any (x := 2) (y := 1) (n := 2) (m := 2) (by omega) (by omega) (by omega) (by omega) w1)
    unfold pt at K1 K2
    have q1 : FloatKind.f64.format.order (fl 1) (fl 1) = some .eq := by kernel_rfl
    have q3 : FloatKind.f64.format.order (fl 0) 0 = some .eq := by kernel_rfl
    have q4 : FloatKind.f64.format.order (fl 1) 0 = some .gt := by kernel_rfl
    clear hB0 hB1 hB2 hb1 hbr ef hw1 hw0 KR
    generalize hz0 : fl 0 = Z0 at *
    generalize hz1 : fl 1 = Z1 at *
    generalize hz2 : fl 2 = Z2 at *
    have hz00 : Z0 = 0 := by rw [← hz0]; exact fl_zero
    clear hz0 hz1 hz2
    subst hz00
    go_wp2_with (refine wpList_load_mid rfl 47 _ rfl b o rfl [.complex .f64 Z1 Z1, .complex .f64 Z2 Z1] _ KRow.out Try.underlying47 rfl KI.out ?_)
    refine Calls.mono K1.out (fun e w2 hp => ?_)
    obtain ⟨rfl, hw⟩ := hp
    subst w2
    clear K1
    go_wp2_with fail
    refine Calls.mono K2.out (fun e w2 hp => ?_)
    obtain ⟨rfl, hw⟩ := hp
    subst w2
    clear K2
    go_upto_region 7 with fail
    go_quiet (fail)
    generalize hwq : World.drewN w1 _ = wq
    have KBq : Kept (Below w.heap.size w wq) := ⟨by rw [← hwq]; exact below_drewN KB1.out _⟩
    have c1q : wq.cell? ⟨wr.heap.size, 1, none⟩ = some (.complex .f64 Z2 Z1) := by rw [← hwq]; exact c1
    clear hwq s1 s2
    go_wp2
    go_roundw
    case rel => exact ⟨.inr ⟨rfl, rfl⟩, KBq.out⟩
    case measure => simp [intOf]
set_option maxHeartbeats 1000000 in
set_option maxRecDepth 100000 in
theorem inForm_bad4 (b o c : Nat) (w : World) (hr : ∀ W, Below w.heap.size w W → W.rangeAt b o [.complex .f64 4602678819172646912 4602678819172646912, .complex .f64 (fl 2) (fl 2)]) :
    Calls Try.prog 41 #[.slice (some ⟨b, o, none⟩) 1 c, pt 2 2] w fun e w' => e = .returned (.bool false) ∧ Below w.heap.size w w' := by
  have KR := Kept.mk hr
  clear hr
  unfold pt
  go_enter Try.func41, Try.ntmps41
  go_upto_region 3 with fail
  go_loopw [5, 13] (fun bv iv wr => iv = .int .i64 0 ∧ bv = .complex .f64 0 0 ∧ Below w.heap.size w wr) (fun _ iv _ => 1)
  case atStart => exact ⟨rfl, rfl, Below.refl _ _⟩
  case round =>
    obtain ⟨rfl, rfl, hbr⟩ := hrel
    have KRow := Kept.mk (KR.out wr hbr)
    have KI : Kept ((Try.prog.info? 47).map (·.size) = some 2) := ⟨by kernel_rfl⟩
    have hB0 := Bk.new wr 47 [.complex .f64 0 0, .complex .f64 0 0]
    have hB1 := hB0.set 0 (.complex .f64 4602678819172646912 4602678819172646912)
    have hB2 := hB1.set 1 (.complex .f64 (fl 2) (fl 2))
    have hst1 := run_store_c _ _ 4602678819172646912 4602678819172646912 _ (hB0.cell 0 _ rfl) (hB0.frozen 0)
    have hst2 := run_store_c _ _ (fl 2) (fl 2) _ (hB1.cell 1 _ rfl) (hB1.frozen 1)
    have hb1 : Below w.heap.size w ((((wr.alloc (.cells #[.complex .f64 0 0, .complex .f64 0 0] 47)).setCell ⟨wr.heap.size, 0, none⟩ (.complex .f64 4602678819172646912 4602678819172646912)).setCell ⟨wr.heap.size, 1, none⟩ (.complex .f64 (fl 2) (fl 2)))) := ((hbr.alloc hbr.size _).setCell hbr.size _).setCell hbr.size _
    have c0 := hB2.cell 0 (.complex .f64 4602678819172646912 4602678819172646912) rfl
    have c1 := hB2.cell 1 (.complex .f64 (fl 2) (fl 2)) rfl
    have ef : ([Value.complex .f64 0 0, .complex .f64 0 0] : List Value).toArray = #[.complex .f64 0 0, .complex .f64 0 0] := rfl
    rw [ef] at hst1 hst2 c0 c1
    obtain ⟨w1, hw1⟩ : ∃ x, ((((wr.alloc (.cells #[.complex .f64 0 0, .complex .f64 0 0] 47)).setCell ⟨wr.heap.size, 0, none⟩ (.complex .f64 4602678819172646912 4602678819172646912)).setCell ⟨wr.heap.size, 1, none⟩ (.complex .f64 (fl 2) (fl 2)))) = x := ⟨_, rfl⟩
    rw [hw1] at hst2 c0 c1 hb1
    obtain ⟨w0, hw0⟩ : ∃ x, ((wr.alloc (.cells #[.complex .f64 0 0, .complex .f64 0 0] 47)).setCell ⟨wr.heap.size, 0, none⟩ (.complex .f64 4602678819172646912 4602678819172646912)) = x := ⟨_, rfl⟩
    rw [hw0] at hst1 hst2
    have KB1 := Kept.mk hb1
    have K1 := Kept.mk (inPlane_no 4602678819172646912 4602678819172646912 isWholeH w1)
    unfold pt at K1
    clear hB0 hB1 hB2 hb1 hbr ef hw1 hw0 KR
    generalize 4602678819172646912 = X at *
    generalize hz2 : fl 2 = Z2 at *
    clear hz2
    go_wp2_with (refine wpList_load_mid rfl 47 _ rfl b o rfl [.complex .f64 X X, .complex .f64 Z2 Z2] _ KRow.out Try.underlying47 rfl KI.out ?_)
    refine Calls.mono K1.out (fun e w2 hp => ?_)
    obtain ⟨rfl, hw⟩ := hp
    subst w2
    clear K1
    have KBq := KB1
    go_wp2
    go_ret
    exact ⟨rfl, KBq.out⟩
set_option maxHeartbeats 1000000 in
set_option maxRecDepth 100000 in
theorem inForm_bad5 (b o c : Nat) (w : World) (hr : ∀ W, Below w.heap.size w W → W.rangeAt b o [.complex .f64 13830554455654793216 13830554455654793216, .complex .f64 (fl 2) (fl 2)]) :
    Calls Try.prog 41 #[.slice (some ⟨b, o, none⟩) 1 c, pt 2 2] w fun e w' => e = .returned (.bool false) ∧ Below w.heap.size w w' := by
  have KR := Kept.mk hr
  clear hr
  unfold pt
  go_enter Try.func41, Try.ntmps41
  go_upto_region 3 with fail
  go_loopw [5, 13] (fun bv iv wr => iv = .int .i64 0 ∧ bv = .complex .f64 0 0 ∧ Below w.heap.size w wr) (fun _ iv _ => 1)
  case atStart => exact ⟨rfl, rfl, Below.refl _ _⟩
  case round =>
    obtain ⟨rfl, rfl, hbr⟩ := hrel
    have KRow := Kept.mk (KR.out wr hbr)
    have KI : Kept ((Try.prog.info? 47).map (·.size) = some 2) := ⟨by kernel_rfl⟩
    have hB0 := Bk.new wr 47 [.complex .f64 0 0, .complex .f64 0 0]
    have hB1 := hB0.set 0 (.complex .f64 13830554455654793216 13830554455654793216)
    have hB2 := hB1.set 1 (.complex .f64 (fl 2) (fl 2))
    have hst1 := run_store_c _ _ 13830554455654793216 13830554455654793216 _ (hB0.cell 0 _ rfl) (hB0.frozen 0)
    have hst2 := run_store_c _ _ (fl 2) (fl 2) _ (hB1.cell 1 _ rfl) (hB1.frozen 1)
    have hb1 : Below w.heap.size w ((((wr.alloc (.cells #[.complex .f64 0 0, .complex .f64 0 0] 47)).setCell ⟨wr.heap.size, 0, none⟩ (.complex .f64 13830554455654793216 13830554455654793216)).setCell ⟨wr.heap.size, 1, none⟩ (.complex .f64 (fl 2) (fl 2)))) := ((hbr.alloc hbr.size _).setCell hbr.size _).setCell hbr.size _
    have c0 := hB2.cell 0 (.complex .f64 13830554455654793216 13830554455654793216) rfl
    have c1 := hB2.cell 1 (.complex .f64 (fl 2) (fl 2)) rfl
    have ef : ([Value.complex .f64 0 0, .complex .f64 0 0] : List Value).toArray = #[.complex .f64 0 0, .complex .f64 0 0] := rfl
    rw [ef] at hst1 hst2 c0 c1
    obtain ⟨w1, hw1⟩ : ∃ x, ((((wr.alloc (.cells #[.complex .f64 0 0, .complex .f64 0 0] 47)).setCell ⟨wr.heap.size, 0, none⟩ (.complex .f64 13830554455654793216 13830554455654793216)).setCell ⟨wr.heap.size, 1, none⟩ (.complex .f64 (fl 2) (fl 2)))) = x := ⟨_, rfl⟩
    rw [hw1] at hst2 c0 c1 hb1
    obtain ⟨w0, hw0⟩ : ∃ x, ((wr.alloc (.cells #[.complex .f64 0 0, .complex .f64 0 0] 47)).setCell ⟨wr.heap.size, 0, none⟩ (.complex .f64 13830554455654793216 13830554455654793216)) = x := ⟨_, rfl⟩
    rw [hw0] at hst1 hst2
    have KB1 := Kept.mk hb1
    have K1 := Kept.mk (inPlane_no 13830554455654793216 13830554455654793216 isWholeN w1)
    unfold pt at K1
    clear hB0 hB1 hB2 hb1 hbr ef hw1 hw0 KR
    generalize 13830554455654793216 = X at *
    generalize hz2 : fl 2 = Z2 at *
    clear hz2
    go_wp2_with (refine wpList_load_mid rfl 47 _ rfl b o rfl [.complex .f64 X X, .complex .f64 Z2 Z2] _ KRow.out Try.underlying47 rfl KI.out ?_)
    refine Calls.mono K1.out (fun e w2 hp => ?_)
    obtain ⟨rfl, hw⟩ := hp
    subst w2
    clear K1
    have KBq := KB1
    go_wp2
    go_ret
    exact ⟨rfl, KBq.out⟩
end Go.Proofs.Ytjhcpmhjdhmjpaa
