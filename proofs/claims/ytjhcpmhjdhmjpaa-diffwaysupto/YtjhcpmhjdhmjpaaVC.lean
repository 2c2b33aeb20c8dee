/-
  Walks: isWhole, inPlane.
-/
import Derived.Test.YtjhcpmhjdhmjpaaVB
namespace Go.Proofs.Ytjhcpmhjdhmjpaa
open Go.RowKit

theorem cmp_ge {x y : Nat} (hx : x < 1100) (hy : y < 1100) (h : y ≤ x) : FloatKind.f64.format.order (fl x) (fl y) = some .gt ∨ FloatKind.f64.format.order (fl x) (fl y) = some .eq := by
  rw [fl_cmp hx hy]
  rcases Nat.lt_or_eq_of_le h with h | h
  · exact Or.inl (by rw [Nat.compare_eq_gt.2 h])
  · exact Or.inr (by rw [Nat.compare_eq_eq.2 h.symm])
theorem cmp_le {x y : Nat} (hx : x < 1100) (hy : y < 1100) (h : x ≤ y) : FloatKind.f64.format.order (fl x) (fl y) = some .lt ∨ FloatKind.f64.format.order (fl x) (fl y) = some .eq := by
  rw [fl_cmp hx hy]
  rcases Nat.lt_or_eq_of_le h with h | h
  · exact Or.inl (by rw [Nat.compare_eq_lt.2 h])
  · exact Or.inr (by rw [Nat.compare_eq_eq.2 h])
theorem cmp_eq {x : Nat} (hx : x < 1100) : FloatKind.f64.format.order (fl x) (fl x) = some .eq := by rw [fl_cmp hx hx, Nat.compare_eq_eq.2 rfl]
set_option maxHeartbeats 400000 in
set_option maxRecDepth 100000 in
theorem isWhole_any {x n : Nat} (hx : x ≤ n) (hn : n < 1100) (w : World) : Calls Try.prog 57 #[.float .f64 (fl x), .float .f64 (fl n)] w fun e w' => e = .returned (.bool true) ∧ w' = w := by
  have K1 := Kept.mk (Trunc_any (n := x) (by omega) w)
  have c0 := cmp_ge (x := x) (y := 0) (by omega) (by omega) (Nat.zero_le _)
  have c1 := cmp_le (x := x) (y := n) (by omega) hn hx
  have c2 := cmp_eq (x := x) (by omega)
  rw [fl_zero] at c0
  generalize fl x = X at *
  generalize fl n = Y at *
  have d0 : (FloatKind.f64.format.order X 0 == some .gt || FloatKind.f64.format.order X 0 == some .eq) = true := by
    rcases c0 with h | h <;> rw [h] <;> rfl
  have d1 : (FloatKind.f64.format.order X Y == some .lt || FloatKind.f64.format.order X Y == some .eq) = true := by
    rcases c1 with h | h <;> rw [h] <;> rfl
  clear c0 c1
  go_enter Try.func57, Try.ntmps57
  go_wp2_with fail
  refine Calls.mono K1.out (fun e w1 hp => ?_)
  obtain ⟨rfl, hw⟩ := hp
  subst w1
  clear K1
  go_wp2
  go_ret
  exact ⟨rfl, rfl⟩
set_option maxHeartbeats 400000 in
set_option maxRecDepth 100000 in
theorem inPlane_any {x y n m : Nat} (hx : x ≤ n) (hy : y ≤ m) (hn : n < 1100) (hm : m < 1100) (w : World) : Calls Try.prog 50 #[pt x y, pt n m] w fun e w' => e = .returned (.bool true) ∧ w' = w := by
  have K1 := Kept.mk (isWhole_any hx hn w)
  have K2 := Kept.mk (isWhole_any hy hm w)
  unfold pt
  go_enter Try.func50, Try.ntmps50
  go_wp2_with fail
  refine Calls.mono K1.out (fun e w1 hp => ?_)
  obtain ⟨rfl, hw⟩ := hp
  subst w1
  clear K1
  go_wp2_with fail
  refine Calls.mono K2.out (fun e w1 hp => ?_)
  obtain ⟨rfl, hw⟩ := hp
  subst w1
  clear K2
  go_wp2
  go_ret
  exact ⟨rfl, rfl⟩
def sbOk (x : Nat) : Bool := (List.range (x + 1)).all fun y => floatBits .sub .f64 (fl x) (fl y) == some (fl (x - y))
set_option maxRecDepth 100000 in
theorem sb_all : (List.range 61).all sbOk = true := by kernel_rfl
theorem fl_sub {x y : Nat} (hx : x ≤ 60) (hy : y ≤ x) : floatBits .sub .f64 (fl x) (fl y) = some (fl (x - y)) := by
  have := List.all_eq_true.1 sb_all x (List.mem_range.2 (by omega))
  have := List.all_eq_true.1 this y (List.mem_range.2 (by omega))
  exact beq_iff_eq.1 this
end Go.Proofs.Ytjhcpmhjdhmjpaa
