/-
  Walks: Clone, Twin, Same.
-/
import Derived.Test.YthkaohkondkhgaaDoorNuKit
namespace Go.Proofs.YthkaohkondkhgaaDoor.Nu
open Go.RowKit

set_option maxRecDepth 100000 in
theorem info5 : ∃ i z, Tryd.prog.info? 5 = some i ∧ i.zero = some z ∧ i.size = 1 ∧ i.bytes = 1 ∧ z.cells.size = 1 ∧ z = .int .u8 0 := by
  refine ⟨_, _, rfl, rfl, rfl, rfl, rfl, rfl⟩

set_option maxHeartbeats 400000 in
set_option maxRecDepth 100000 in
theorem twin_any (v : Value) (xs : List Int) (w : World) (h : Rd w v xs) (hl : xs.length ≤ 140737488355328) :
    Calls Tryd.prog 15 #[v] w fun e w' => ∃ v', e = .returned v' ∧ Own 5 w' w.heap.size v' xs ∧ Below w.heap.size w w' := by
  obtain ⟨i0, z0, hi, hz, hs, hb, hc, _⟩ := info5
  go_enter Tryd.func15, Tryd.ntmps15
  go_wp2_with (at_builtin; refine wpList_append_rd _ rfl _ _ 25 rfl w.heap.size 5 i0 z0 Tryd.underlying25 hi hz hs hb hc (.slice none 0 0) [] rfl (Own.nil 5 w _) v xs rfl h (by simpa using hl) (Nat.le_refl _) ?_; intro v' w1 hown hgrow hat)
  go_ret
  exact ⟨v', rfl, hown, (Below.refl _ w).grown hgrow (Nat.le_refl _) (by intro k hk; simp [Value.ownBlock] at hk)⟩

set_option maxHeartbeats 400000 in
set_option maxRecDepth 100000 in
theorem same_any (a b : Value) (xs ys : List Int) (w : World) (ha : Rd w a xs) (hb : Rd w b ys) :
    Calls Tryd.prog 12 #[a, b] w fun e w' => e = .returned (.bool (decide (xs = ys))) ∧ w' = w := by
  have h1 := ha.str Tryd.underlying25 Tryd.underlying5 9 Tryd.underlying9
  have h2 := hb.str Tryd.underlying25 Tryd.underlying5 9 Tryd.underlying9
  have he := strs_eq ha.allB hb.allB
  clear ha hb
  go_enter Tryd.func12, Tryd.ntmps12
  go_wp2
  go_ret
  exact ⟨rfl, rfl⟩

set_option maxHeartbeats 400000 in
set_option maxRecDepth 100000 in
theorem clone_any (v : Value) (xs : List Int) (w : World) (h : Rd w v xs) (hl : xs.length ≤ 140737488355328) :
    Calls Tryd.prog 45 #[v] w fun e w' => ∃ v', e = .returned v' ∧ Own 5 w' w.heap.size v' xs ∧ Below w.heap.size w w' := by
  obtain ⟨i0, z0, hi, hz, hs, hb, hc, _⟩ := info5
  have q22 : ∀ (w : World) (a : Option Addr) (n c n' c' : Nat), (binOp .eql 25 (.slice a n c) (.slice none n' c')).run Tryd.prog w = .ok (.bool a.isNone) w := fun w a n c n' c' => Lib.run_eql_slice_nil w _ _ a n c n' c' Tryd.underlying25
  obtain ⟨a, c, hv⟩ : ∃ a c, v = .slice a xs.length c := by
    obtain ⟨a, c, hv, _⟩ := h
    exact ⟨a, c, hv⟩
  subst hv
  cases a with
  | none =>
    have hx : xs = [] := by
      obtain ⟨a, c', hv, h1, _, _, h4, _⟩ := h
      injection hv with e1 e2 e3
      subst e1
      have := h4 rfl
      exact List.eq_nil_of_length_eq_zero (by omega)
    subst hx
    clear h
    go_enter Tryd.func45, Tryd.ntmps45
    go_wp2
    go_ret
    exact ⟨_, rfl, Own.nil 5 w _, Below.refl _ _⟩
  | some a =>
    have hr : Rd (w.alloc (.cells #[] 5)) (.slice (some a) xs.length c) xs := h.later ((Below.refl _ _).alloc (Nat.le_refl _) _) (Nat.le_refl _)
    clear h
    have ho : Own 5 (w.alloc (.cells #[] 5)) w.heap.size (.slice (some ⟨w.heap.size, 0, none⟩) 0 0) [] := World.ownsRow_made w #[] 0 (Nat.le_refl _) (Nat.zero_le _) rfl
    go_enter Tryd.func45, Tryd.ntmps45
    go_wp2_with (at_builtin; refine wpList_append_rd _ rfl _ _ 25 rfl w.heap.size 5 i0 z0 Tryd.underlying25 hi hz hs hb hc (.slice (some ⟨w.heap.size, 0, none⟩) 0 0) [] rfl ho _ xs rfl hr (by simpa using hl) (by simp) ?_; intro v' w1 hown hgrow hat)
    go_ret
    exact ⟨v', rfl, hown, ((Below.refl _ w).alloc (Nat.le_refl _) _).grown hgrow (by simp) (by intro k hk; simp [Value.ownBlock] at hk; omega)⟩
end Go.Proofs.YthkaohkondkhgaaDoor.Nu
