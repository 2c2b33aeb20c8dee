/-
  The document's reader: right.
-/
import Derived.Test.YthbcloplhjmkkaaDoorD5
namespace Go.Proofs.YthbcloplhjmkkaaDoor
open Go.RowKit

/-- What the lengths above 0 fill, how many they are, the last of them. -/
def dsum : List Int → Int
  | [] => 0
  | n :: l => (if 0 < n then 2 ^ (15 - n).toNat else 0) + dsum l
def dcnt : List Int → Int
  | [] => 0
  | n :: l => (if 0 < n then 1 else 0) + dcnt l
def dlast : List Int → Int → Int
  | [], f => f
  | n :: l, f => dlast l (if 0 < n then n else f)
def dright (l : List Int) (none_ : Bool) : Bool := decide (dsum l = 32768) || (decide (dcnt l = 1) && decide (dlast l 0 = 1)) || (none_ && decide (dcnt l = 0))
theorem dsum_range : ∀ l : List Int, 0 ≤ dsum l ∧ dsum l ≤ 32768 * l.length
  | [] => by simp [dsum]
  | n :: l => by
    have ih := dsum_range l
    rw [dsum, List.length_cons]
    split
    · have hp : (2 : Int) ^ (15 - n).toNat ≤ 32768 := pow2_le (b := 15) (by omega)
      have hp0 : (0 : Int) < 2 ^ (15 - n).toNat := Int.pow_pos (by omega)
      omega
    · omega
theorem dcnt_range : ∀ l : List Int, 0 ≤ dcnt l ∧ dcnt l ≤ l.length
  | [] => by simp [dcnt]
  | n :: l => by
    have ih := dcnt_range l
    rw [dcnt, List.length_cons]
    split <;> omega

set_option maxHeartbeats 1000000 in
set_option maxRecDepth 100000 in
theorem dright_any {S : Nat → Prop} (w : World) (v : Value) (l : List Int) (none_ : Bool) (hl : AllIn 0 16 l) (hn : l.length ≤ 1000) (hr : Rd .i64 S w v l) :
    Calls Tryd.prog 36 #[v, .bool none_] w fun e w' => e = .returned (.bool (dright l none_)) ∧ w' = w := by
  obtain ⟨va, vc, rfl, -, hlc, hcm⟩ := hr.form
  have KR := Kept.mk hr
  have KL := Kept.mk hl
  clear hr hl hcm
  go_enter Tryd.func36, Tryd.ntmps36
  go_wp2
  go_loopw [5, 6, 7, 12, 9] (fun s5 s6 s7 s12 _ wr => wr = w ∧ ∃ (k : Nat) (z c f : Int), k ≤ l.length ∧ s12 = .int .i64 k ∧ s5 = .int .i64 z ∧ s6 = .int .i64 c ∧ s7 = .int .i64 f ∧ z + dsum (l.drop k) = dsum l ∧ c + dcnt (l.drop k) = dcnt l ∧ dlast (l.drop k) f = dlast l 0 ∧ 0 ≤ z ∧ 0 ≤ c) (fun _ _ _ s12 _ _ => l.length - (intOf s12).toNat)
  case atStart => exact ⟨rfl, 0, 0, 0, 0, by omega, rfl, rfl, rfl, rfl, by simp, by simp, by simp, by omega, by omega⟩
  case round =>
    obtain ⟨rfl, k, z, c, f, hk, rfl, rfl, rfl, rfl, hz, hc, hf, hz0, hc0⟩ := hrel
    by_cases hlt : k < l.length
    · have hlti : (k : Int) < (l.length : Int) := by omega
      obtain ⟨b, off, cc, hva, -, -, -, -, hcells⟩ := KR.out.open (by omega)
      injection hva with hva1 hva2 hva3
      subst hva1
      have ck := hcells k hlt
      have hd : l.drop k = l.getD k 0 :: l.drop (k + 1) := by
        rw [List.drop_eq_getElem_cons hlt]
        simp [List.getD, List.getElem?_eq_getElem hlt]
      rw [hd, dsum] at hz
      rw [hd, dcnt] at hc
      rw [hd, dlast] at hf
      have hby := KL.out.getD (by omega) k
      have hb1 := dsum_range (l.drop (k + 1))
      have hb2 := dsum_range l
      have hb3 := dcnt_range (l.drop (k + 1))
      have hb4 := dcnt_range l
      clear hd hcells
      generalize l.getD k 0 = x at *
      by_cases hx : 0 < x
      · obtain ⟨j, hj⟩ : ∃ j : Nat, 15 - x = (j : Int) := ⟨(15 - x).toNat, by omega⟩
        have hp0 : (0 : Int) < 2 ^ j := Int.pow_pos (by omega)
        have hp : (2 : Int) ^ j ≤ 32768 := pow2_le (b := 15) (by omega)
        rw [if_pos hx, hj, Int.toNat_natCast] at hz
        rw [if_pos hx] at hc hf
        have hzz : z ≤ 100000000 := by omega
        have hcc : c ≤ 100000000 := by omega
        have KZ := Kept.mk hz
        have KC := Kept.mk hc
        have KF := Kept.mk hf
        clear hz hc hf hb1 hb2 hb3 hb4
        go_wp2
        go_roundw
        case rel => exact ⟨trivial, k + 1, z + 2 ^ j, c + 1, x, by omega, by go_num, rfl, rfl, rfl, by rw [← KZ.out]; omega, by rw [← KC.out]; omega, KF.out, by omega, by omega⟩
        case measure => simp [intOf]; omega
      · rw [if_neg hx] at hz hc hf
        have KZ := Kept.mk hz
        have KC := Kept.mk hc
        have KF := Kept.mk hf
        clear hz hc hf hb1 hb2 hb3 hb4
        go_wp2
        go_roundw
        case rel => exact ⟨trivial, k + 1, z, c, f, by omega, by go_num, rfl, rfl, rfl, by rw [← KZ.out]; omega, by rw [← KC.out]; omega, KF.out, by omega, by omega⟩
        case measure => simp [intOf]; omega
    · have hd : l.drop k = [] := List.eq_nil_of_length_eq_zero (by simp; omega)
      rw [hd] at hz hc hf
      simp only [dsum, dcnt, dlast, Int.add_zero] at hz hc hf
      have KE : Kept (dright l none_ = (decide (z = 32768) || (decide (c = 1) && decide (f = 1)) || (none_ && decide (c = 0)))) := ⟨by unfold dright; rw [hz, hc, hf]⟩
      clear hz hc hf hd
      go_wp2
      all_goals go_ret
      all_goals rw [KE.out]
      all_goals refine ⟨ret_bool ?_, rfl⟩
      all_goals clear KE KL KR
      all_goals first | (simp [*]; done) | (rename_i h1 h2 h3; rw [h3, Bool.eq_iff_iff]; simp [h1, h2]; done) | (rename_i h1 h2 h3; rw [Bool.eq_iff_iff]; simp [h1, h2, h3]; done)
end Go.Proofs.YthbcloplhjmkkaaDoor
