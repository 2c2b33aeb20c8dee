/-
  Slices of values of one cell; walks: tooLong, endOf, parts.
-/
import Derived.Test.YtjhcpmhjdhmjpaaK
import Derived.Test.YtjhcpmhjdhmjpaaQ2
import Derived.Test.YtjhcpmhjdhmjpaaDF1
import Derived.Deep.Cut
import Derived.Deep.MidRow
import Derived.Deep.RegionHeld3
namespace Go.Proofs.Ytjhcpmhjdhmjpaa
open Go.RowKit

/-- A slice of values of one cell each that reads as these. -/
def RdV (w : World) (v : Value) (cs : List Value) : Prop :=
  ∃ (a : Option Addr) (c : Nat), v = .slice a cs.length c ∧ cs.length ≤ c ∧ (0 < cs.length → ∃ b off, a = some ⟨b, off, none⟩ ∧ b < w.heap.size ∧ w.rangeAt b off cs)
theorem RdV.later {B : Nat} {w w' : World} {v : Value} {cs : List Value} (h : RdV w v cs) (hb : Below B w w') (hB : w.heap.size ≤ B) : RdV w' v cs := by
  obtain ⟨a, c, rfl, h1, h2⟩ := h
  refine ⟨a, c, rfl, h1, fun h0 => ?_⟩
  obtain ⟨b, off, rfl, hlt, hr⟩ := h2 h0
  refine ⟨b, off, rfl, Nat.lt_of_lt_of_le hlt (by have := hb.size; omega), fun j u hu => ?_⟩
  rw [hb.cell (p := ⟨b, off + j, none⟩) (Nat.lt_of_lt_of_le hlt hB)]
  exact hr j u hu
theorem RdV.nil (w : World) : RdV w (.slice none 0 0) [] := ⟨none, 0, rfl, Nat.le_refl _, fun h => by simp at h⟩
/-- A slice of texts. -/
def RdS (w : World) (v : Value) (L : List ByteArray) : Prop := RdV w v (L.map Value.string)
theorem RdS.form {w : World} {v : Value} {L : List ByteArray} (h : RdS w v L) : ∃ a c, v = .slice a L.length c := by
  obtain ⟨a, c, rfl, -⟩ := h
  exact ⟨a, c, by rw [List.length_map]⟩
theorem RdS.later {B : Nat} {w w' : World} {v : Value} {L : List ByteArray} (h : RdS w v L) (hb : Below B w w') (hB : w.heap.size ≤ B) : RdS w' v L := RdV.later h hb hB
/-- The point x + y i. -/
def pt (x y : Nat) : Value := .complex .f64 (fl x) (fl y)
def longB (n m : Nat) : Bool := decide (1000 < n) || decide (1000 < m)
set_option maxHeartbeats 400000 in
set_option maxRecDepth 100000 in
theorem tooLong_any (a b : Option Addr) (n m c d : Nat) (w : World) :
    Calls Try.prog 40 #[.slice a n c, .slice b m d] w fun e w' => e = .returned (.bool (longB n m)) ∧ w' = w := by
  unfold longB
  by_cases h1 : 1000 < n
  · have g1 : decide ((1000 : Int) < (n : Int)) = true := decide_eq_true (by omega)
    have K1 : Kept (decide (1000 < n) = true) := ⟨decide_eq_true h1⟩
    clear h1
    go_enter Try.func40, Try.ntmps40
    go_wp2
    go_ret
    exact ⟨by rw [K1.out]; rfl, rfl⟩
  · have g1 : decide ((1000 : Int) < (n : Int)) = false := decide_eq_false (by omega)
    have K1 : Kept (decide (1000 < n) = false) := ⟨decide_eq_false h1⟩
    have K2 : Kept (decide ((1000 : Int) < (m : Int)) = decide (1000 < m)) := ⟨by simp only [decide_eq_decide]; omega⟩
    clear h1
    go_enter Try.func40, Try.ntmps40
    go_wp2
    go_ret
    exact ⟨by rw [K1.out, Bool.false_or, ← K2.out]; rfl, rfl⟩
set_option maxHeartbeats 400000 in
set_option maxRecDepth 100000 in
theorem endOf_any (a b : Option Addr) (n m c d : Nat) (w : World) :
    Calls Try.prog 42 #[.slice a n c, .slice b m d] w fun e w' => e = .returned (pt n m) ∧ w' = w := by
  go_enter Try.func42, Try.ntmps42
  go_wp2
  go_ret
  exact ⟨rfl, rfl⟩
set_option maxHeartbeats 400000 in
set_option maxRecDepth 100000 in
theorem parts_any (x y : Nat) (hx : x < 1100) (hy : y < 1100) (w : World) :
    Calls Try.prog 35 #[pt x y] w fun e w' => e = .returned (.tuple #[.int .i64 x, .int .i64 y]) ∧ w' = w := by
  have h1 := run_convert_float_int (P := Try.prog) w 75 3 .f64 .i64 (fl x) x rfl Try.underlying3 (fl_parts hx).2.2.1
  have h2 := run_convert_float_int (P := Try.prog) w 75 3 .f64 .i64 (fl y) y rfl Try.underlying3 (fl_parts hy).2.2.1
  unfold pt
  generalize fl x = X at *
  generalize fl y = Y at *
  go_enter Try.func35, Try.ntmps35
  go_wp2
  go_ret2
  exact ⟨rfl, rfl⟩
end Go.Proofs.Ytjhcpmhjdhmjpaa
