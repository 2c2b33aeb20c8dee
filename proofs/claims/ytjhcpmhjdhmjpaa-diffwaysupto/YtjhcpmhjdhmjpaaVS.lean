/-
  The walk of DiffShortest.
-/
import Derived.Test.YtjhcpmhjdhmjpaaV11
import Derived.Test.YtjhcpmhjdhmjpaaVP
import Derived.Test.YtjhcpmhjdhmjpaaVT
namespace Go.Proofs.Ytjhcpmhjdhmjpaa
open Go.RowKit

theorem OwnW.open {w : World} {base : Nat} {v : Value} {W : List (Nat × Nat)} (h : OwnW w base v W) (h0 : W ≠ []) : ∃ g cap, v = .slice (some ⟨g, 0, none⟩) W.length cap ∧ base ≤ g ∧ ∀ w', Below w.heap.size w w' → ∀ j (q : Nat × Nat), W[j]? = some q → w'.cell? ⟨g, j, none⟩ = some (.complex .f64 (fl q.1) (fl q.2)) := by
  have hlt := h.lt
  rcases h.2 with ⟨rfl, hn⟩ | ⟨g, cap, cur, rfl, hbg, hg, hnc, hcm, hcs, htake⟩
  · exact absurd (List.eq_nil_of_length_eq_zero hn) h0
  · refine ⟨g, cap, rfl, hbg, fun w' hw' j q hq => ?_⟩
    have h2 := World.ownsRow.cells h (g := g) rfl j (pt q.1 q.2) (by unfold ptsV; rw [List.getElem?_map, hq]; rfl)
    rw [add_plain, Nat.zero_add] at h2
    rw [hw'.cell (p := ⟨g, j, none⟩) (hlt g rfl).2]
    exact h2
theorem o11 : (FloatKind.f64.format.order 4607182418800017408 4607182418800017408 == some .eq) = true := by kernel_rfl
theorem o01 : (FloatKind.f64.format.order 0 4607182418800017408 == some .eq) = false := by kernel_rfl
theorem o10 : (FloatKind.f64.format.order 4607182418800017408 0 == some .eq) = false := by kernel_rfl
theorem o00 : (FloatKind.f64.format.order 0 0 == some .eq) = true := by kernel_rfl
theorem chg_take {W : List (Nat × Nat)} {i : Nat} {p q : Nat × Nat} (hp : W[i]? = some p) (hq : W[i + 1]? = some q) : chg (W.take (i + 2)) = chg (W.take (i + 1)) + dg p q := by
  have e1 : W.take (i + 1) = W.take i ++ [p] := by rw [List.take_add_one, hp]; rfl
  have e2 : W.take (i + 2) = W.take i ++ [p, q] := by rw [List.take_add_one, hq, e1]; simp
  rw [e1, e2, chg_snoc]
theorem c_sub {p q : Nat × Nat} (hp1 : p.1 < 1100) (hp2 : p.2 < 1100) {d1 d2 : Nat} (h : (q = (p.1 + 1, p.2 + 1) ∧ d1 = 4607182418800017408 ∧ d2 = 4607182418800017408) ∨ (q = (p.1 + 1, p.2) ∧ d1 = 4607182418800017408 ∧ d2 = 0) ∨ (q = (p.1, p.2 + 1) ∧ d1 = 0 ∧ d2 = 4607182418800017408)) (w : World) :
    (binOp .sub 45 (.complex .f64 (fl q.1) (fl q.2)) (.complex .f64 (fl p.1) (fl p.2))).run Try.prog w = .ok (.complex .f64 d1 d2) w := by
  obtain ⟨-, -, -, a1, a2⟩ := fl_parts hp1
  obtain ⟨-, -, -, b1, b2⟩ := fl_parts hp2
  unfold one64 at a1 b1
  refine run_complex_sum w .sub (.inr rfl) _ _ _ _ _ _ _ _ ?_
  unfold cSumBits
  rcases h with ⟨rfl, rfl, rfl⟩ | ⟨rfl, rfl, rfl⟩ | ⟨rfl, rfl, rfl⟩
  · simp only; rw [a1, b1]; rfl
  · simp only; rw [a1, b2]; rfl
  · simp only; rw [a2, b1]; rfl
set_option maxRecDepth 100000 in
theorem c_int {x : Nat} (hx : x < 1100) (w : World) : (convert 75 3 (.float .f64 (fl x))).run Try.prog w = .ok (.int .i64 x) w :=
  run_convert_float_int (P := Try.prog) w 75 3 .f64 .i64 (fl x) x rfl Try.underlying3 (fl_parts hx).2.2.1
theorem selB_skip {α : Type} {p i : Nat} {s : α} {us L : List α} (h : L.drop i = s :: us) (hb : p / 2 ^ i % 2 = 0) : selB (p / 2 ^ i) (L.drop i) = selB (p / 2 ^ (i + 1)) (L.drop (i + 1)) := by
  have h2 := (drop_get h).2.2
  rw [h2, h, selB, if_neg (by omega), Nat.div_div_eq_div_mul, ← Nat.pow_succ]
theorem selB_take {α : Type} {p i : Nat} {s : α} {us L : List α} (h : L.drop i = s :: us) (hb : p / 2 ^ i % 2 = 1) : selB (p / 2 ^ i) (L.drop i) = s :: selB (p / 2 ^ (i + 1)) (L.drop (i + 1)) := by
  have h2 := (drop_get h).2.2
  rw [h2, h, selB, if_pos hb, Nat.div_div_eq_div_mul, ← Nat.pow_succ]
theorem grd_cons {α : Type} [DecidableEq α] (s : α) (us vs : List α) (k : Int) : grd (s :: us) vs k = if adv s vs = vs.length then -100 else grd us (vs.drop (adv s vs + 1)) (k + 1) := rfl
theorem adv_cons {α : Type} [DecidableEq α] (s y : α) (vs : List α) : adv s (y :: vs) = if y = s then 0 else adv s vs + 1 := rfl
end Go.Proofs.Ytjhcpmhjdhmjpaa
