/-
  Walks: right, none.
-/
import Derived.Test.YthbcloplhjmkkaaDoorC1
namespace Go.Proofs.YthbcloplhjmkkaaDoor
open Go.RowKit

theorem ret_bool {a b : Bool} (h : a = b) : Ending.returned (.bool a) = .returned (.bool b) := by rw [h]
theorem alloc_keeps {k : IntKind} {S : Nat → Prop} {w : World} {v : Value} {xs : List Int} (h : Rd k S w v xs) (o : Obj) : Rd k S (w.alloc o) v xs := h.later ((Below.refl _ w).alloc (Nat.le_refl _) o) (Nat.le_refl _)

set_option maxHeartbeats 1000000 in
set_option maxRecDepth 100000 in
theorem none_any {S : Nat → Prop} (cv sv : Value) (c : Cd) (w : World) (hs : Rd .i64 S w sv c.symbols) :
    Calls Tryd.prog 44 #[.agg #[cv, sv]] w fun e w' => e = .returned (.bool (decide (c.symbols.length = 0))) ∧ Below w.heap.size w w' := by
  obtain ⟨va, vc, rfl, -, hlc, hcm⟩ := hs.form
  go_enter Tryd.func44, Tryd.ntmps44
  go_wp2
  go_ret
  refine ⟨ret_bool ?_, (Below.refl _ _).alloc (Nat.le_refl _) _⟩
  rw [Bool.eq_iff_iff, beq_iff_eq, decide_eq_true_iff]
  omega

theorem pow2_le {a b : Nat} (h : a ≤ b) : (2 : Int) ^ a ≤ 2 ^ b := by
  have : (2 : Nat) ^ a ≤ 2 ^ b := Nat.pow_le_pow_right (by omega) h
  have e : ∀ n : Nat, ((2 : Int) ^ n) = ((2 ^ n : Nat) : Int) := by intro n; simp
  rw [e, e]
  exact Int.ofNat_le.2 this
theorem sumF_bound : ∀ (l : List Int) (k : Nat), AllIn 0 1000 l → 0 ≤ sumF l k ∧ sumF l k ≤ 32768000 * l.length
  | [], _, _ => by simp [sumF]
  | x :: l, k, h => by
    have ih := sumF_bound l (k + 1) (fun y hy => h y (by simp [hy]))
    have hx := h x (by simp)
    have hp : (2 : Int) ^ (15 - k) ≤ 32768 := pow2_le (b := 15) (by omega)
    have hp0 : (0 : Int) < 2 ^ (15 - k) := Int.pow_pos (by omega)
    have h1 : x * 2 ^ (15 - k) ≤ 1000 * 32768 := Int.mul_le_mul (by omega) hp (by omega) (by omega)
    have h0 : 0 ≤ x * 2 ^ (15 - k) := Int.mul_nonneg hx.1 (by omega)
    rw [sumF, List.length_cons]
    omega

set_option maxHeartbeats 1000000 in
set_option maxRecDepth 100000 in
theorem right_any {S : Nat → Prop} {n : Int} (cv sv : Value) (c : Cd) (w : World) (hok : CdOk c n) (hc : Rd .i64 S w cv c.counts) (hs : Rd .i64 S w sv c.symbols) :
    Calls Tryd.prog 43 #[.agg #[cv, sv]] w fun e w' => e = .returned (.bool (rightF c)) ∧ Below w.heap.size w w' := by
  obtain ⟨va, vc, rfl, -, hlc, hcm⟩ := hs.form
  have hl0 := hok.len0
  have hl1 := hok.len1
  obtain ⟨b, off, cc, rfl, hbl, hcc, -, -, hcells⟩ := hc.open (by omega)
  have KC : Kept (∀ i, i < c.counts.length → w.cell? ⟨b, off + i, none⟩ = some (.int .i64 (c.counts.getD i 0))) := ⟨hcells⟩
  have KO := Kept.mk hok
  clear hc hs hcells hok hcm
  by_cases h1 : c.symbols.length = 1
  · have h1i : (c.symbols.length : Int) = 1 := by omega
    have KL := Kept.mk h1
    clear h1
    go_enter Tryd.func43, Tryd.ntmps43
    go_wp2
    go_ret
    refine ⟨ret_bool ?_, (Below.refl _ _).alloc (Nat.le_refl _) _⟩
    unfold rightF
    rw [if_pos KL.out, Bool.eq_iff_iff, beq_iff_eq, decide_eq_true_iff]
    omega
  · have h1i : ¬ (c.symbols.length : Int) = 1 := by omega
    go_enter Tryd.func43, Tryd.ntmps43
    go_wp2
    go_loop [3, 17, 4, 5] (fun s3 s17 _ _ => ∃ (k : Nat) (z : Int), k ≤ c.counts.length ∧ s17 = .int .i64 k ∧ s3 = .int .i64 z ∧ z + sumF (c.counts.drop k) k = sumF c.counts 0 ∧ 0 ≤ z) (fun _ s17 _ _ => c.counts.length - (intOf s17).toNat)
    case atStart => exact ⟨0, 0, by omega, rfl, rfl, by simp, by omega⟩
    case round =>
      obtain ⟨k, z, hk, rfl, rfl, hz, hz0⟩ := hrel
      by_cases hlt : k < c.counts.length
      · have hlti : (k : Int) < (c.counts.length : Int) := by omega
        have ck := KC.out k hlt
        have hd : c.counts.drop k = c.counts.getD k 0 :: c.counts.drop (k + 1) := by
          rw [List.drop_eq_getElem_cons hlt]
          simp [List.getD, List.getElem?_eq_getElem hlt]
        rw [hd, sumF] at hz
        have hby := KO.out.pos.getD (by omega) k
        have hb1 := sumF_bound (c.counts.drop (k + 1)) (k + 1) (KO.out.pos.drop _)
        have hb2 := sumF_bound c.counts 0 KO.out.pos
        generalize c.counts.getD k 0 = x at *
        have hblt : ¬ b = w.heap.size := by omega
        have hblt2 : ¬ w.heap.size = b := by omega
        have hsh : (15 : Int) - (k : Int) = ((15 - k : Nat) : Int) := by omega
        have hp0 : (0 : Int) < 2 ^ (15 - k) := Int.pow_pos (by omega)
        have hx0 : 0 ≤ x * 2 ^ (15 - k) := Int.mul_nonneg hby.1 (by omega)
        have KZ := Kept.mk hz
        have hm : x * 2 ^ (15 - k) ≤ 600000000 := by omega
        have hzz : z ≤ 600000000 := by omega
        clear hz hd
        go_wp2
        go_round
        case rel => exact ⟨k + 1, z + x * 2 ^ (15 - k), by omega, by go_num, rfl, by rw [← KZ.out]; omega, by omega⟩
        case measure => simp [intOf]; omega
      · have hd : c.counts.drop k = [] := List.eq_nil_of_length_eq_zero (by simp; omega)
        rw [hd, sumF, Int.add_zero] at hz
        have KZ := Kept.mk hz
        clear hz hd
        go_wp2
        go_ret
        refine ⟨ret_bool ?_, (Below.refl _ _).alloc (Nat.le_refl _) _⟩
        unfold rightF
        rw [if_neg h1, ← KZ.out, Bool.eq_iff_iff, beq_iff_eq, decide_eq_true_iff]
end Go.Proofs.YthbcloplhjmkkaaDoor
