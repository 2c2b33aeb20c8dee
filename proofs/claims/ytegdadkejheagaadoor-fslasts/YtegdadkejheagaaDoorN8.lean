/-
  Walks: names and paths.
-/
import Derived.Test.YtegdadkejheagaaDoorN3
namespace Go.Proofs.YtegdadkejheagaaDoor
open Go.RowKit

def lowN (n : Nat) : Nat := if 65 ≤ n ∧ n ≤ 90 then n + 32 else n
set_option maxHeartbeats 400000 in
set_option maxRecDepth 100000 in
theorem lower_any (n : Nat) (w : World) (hn : n < 256) : Calls Tryd.prog 63 #[.int .u8 n] w fun e w' => e = .returned (.int .u8 (lowN n)) ∧ w' = w := by
  unfold lowN
  by_cases h1 : 65 ≤ n
  · have h1i : (65 : Int) ≤ (n : Int) := by omega
    by_cases h2 : n ≤ 90
    · have h2i : (n : Int) ≤ 90 := by omega
      go_enter Tryd.func63, Tryd.ntmps63
      go_wp2
      go_ret
      have e : (n : Int) - 65 + 97 = (n : Int) + 32 := by omega
      rw [← e]
      exact ⟨rfl, rfl⟩
    · have h2i : ¬ (n : Int) ≤ 90 := by omega
      go_enter Tryd.func63, Tryd.ntmps63
      go_wp2
      go_ret
      exact ⟨rfl, rfl⟩
  · have h1i : ¬ (65 : Int) ≤ (n : Int) := by omega
    go_enter Tryd.func63, Tryd.ntmps63
    go_wp2
    go_ret
    exact ⟨rfl, rfl⟩

/-- Is it .git, in whatever letters? -/
def gitF (s : ByteArray) : Bool := decide (s.data.toList.map (fun b => lowN b.toNat) = [46, 103, 105, 116])
theorem four {s : ByteArray} (h : s.size = 4) : ∃ a b c d : UInt8, s = ⟨#[a, b, c, d]⟩ := by
  obtain ⟨⟨l⟩⟩ := s
  have hl : l.length = 4 := h
  match l, hl with
  | [a, b, c, d], _ => exact ⟨a, b, c, d, rfl⟩

set_option maxHeartbeats 1000000 in
set_option maxRecDepth 100000 in
theorem isDotGit_any (s : ByteArray) (w : World) : Calls Tryd.prog 52 #[.string s] w fun e w' => e = .returned (.bool (gitF s)) ∧ Below w.heap.size w w' := by
  by_cases h4 : s.size = 4
  · obtain ⟨x0, x1, x2, x3, rfl⟩ := four h4
    clear h4
    have KL : Kept (∀ (x : UInt8) w', Calls Tryd.prog 63 #[.int .u8 x.toNat] w' fun e w'' => e = .returned (.int .u8 (lowN x.toNat)) ∧ w'' = w') := ⟨fun x w' => lower_any x.toNat w' x.toNat_lt⟩
    have KE : Kept (gitF ⟨#[x0, x1, x2, x3]⟩ = decide (lowN x0.toNat = 46 ∧ lowN x1.toNat = 103 ∧ lowN x2.toNat = 105 ∧ lowN x3.toNat = 116)) := ⟨by unfold gitF; simp⟩
    go_enter Tryd.func52, Tryd.ntmps52
    go_wp2
    go_loopw [3, 9] (fun _ iv wr => ∃ i m : Nat, i ≤ 4 ∧ iv = .int .i64 i ∧ wr = w.drewN m ∧ (1 ≤ i → lowN x0.toNat = 46) ∧ (2 ≤ i → lowN x1.toNat = 103) ∧ (3 ≤ i → lowN x2.toNat = 105) ∧ (4 ≤ i → lowN x3.toNat = 116)) (fun _ iv _ => 4 - (intOf iv).toNat)
    case atStart => exact ⟨0, 0, by omega, rfl, rfl, by omega, by omega, by omega, by omega⟩
    case round =>
      obtain ⟨i, m, hi, rfl, rfl, q0, q1, q2, q3⟩ := hrel
      have KQ := Kept.mk (And.intro q0 (And.intro q1 (And.intro q2 q3)))
      clear q0 q1 q2 q3
      rcases (by omega : i = 0 ∨ i = 1 ∨ i = 2 ∨ i = 3 ∨ i = 4) with rfl | rfl | rfl | rfl | rfl
      · have KL0 : Kept (∀ w', Calls Tryd.prog 63 #[.int .u8 x0.toNat] w' fun e w'' => e = .returned (.int .u8 (lowN x0.toNat)) ∧ w'' = w') := ⟨KL.out x0⟩
        by_cases hx : lowN x0.toNat = 46
        · have KX := Kept.mk hx
          rw [hx] at KL0
          clear hx
          go_upto_region 6 with fail
          go_quiet ((exact (KL0.out _).mono (fun e w'' hp => ⟨hp.1, _, hp.2⟩)))
          go_wp2
          have hx := KX.out
          go_roundw
          case rel => exact ⟨1, _, by omega, rfl, rfl, (fun _ => hx), (fun h => by omega), (fun h => by omega), (fun h => by omega)⟩
          case measure => simp [intOf]
        · have hxi : ((lowN x0.toNat : Int) == 46) = false := by simp; omega
          have KX := Kept.mk hx
          generalize hL : lowN x0.toNat = L at *
          have KH := Kept.mk hL
          have hxn : ¬ (L : Int) = 46 := by omega
          have hxz : ((L : Int) != 46) = true := by simp; omega
          have hxm : ((L : Int) != (((⟨#[46, 103, 105, 116]⟩ : ByteArray)[0]'(by decide)).toNat : Int)) = true := hxz
          clear hxz
          clear hx hL
          go_upto_region 6 with fail
          go_quiet ((exact (KL0.out _).mono (fun e w'' hp => ⟨hp.1, _, hp.2⟩)))
          go_wp2
          go_ret
          have hne := KX.out
          refine ⟨?_, below_drewN (below_drewN (Below.refl _ _) _) _⟩
          rw [KE.out, decide_eq_false (fun h => hne (by have := KH.out; omega))]
          rfl
      · have KL0 : Kept (∀ w', Calls Tryd.prog 63 #[.int .u8 x1.toNat] w' fun e w'' => e = .returned (.int .u8 (lowN x1.toNat)) ∧ w'' = w') := ⟨KL.out x1⟩
        by_cases hx : lowN x1.toNat = 103
        · have KX := Kept.mk hx
          rw [hx] at KL0
          clear hx
          go_upto_region 6 with fail
          go_quiet ((exact (KL0.out _).mono (fun e w'' hp => ⟨hp.1, _, hp.2⟩)))
          go_wp2
          have hx := KX.out
          go_roundw
          case rel => exact ⟨2, _, by omega, rfl, rfl, (fun _ => KQ.out.1 (by omega)), (fun _ => hx), (fun h => by omega), (fun h => by omega)⟩
          case measure => simp [intOf]
        · have hxi : ((lowN x1.toNat : Int) == 103) = false := by simp; omega
          have KX := Kept.mk hx
          generalize hL : lowN x1.toNat = L at *
          have KH := Kept.mk hL
          have hxn : ¬ (L : Int) = 103 := by omega
          have hxz : ((L : Int) != 103) = true := by simp; omega
          have hxm : ((L : Int) != (((⟨#[46, 103, 105, 116]⟩ : ByteArray)[1]'(by decide)).toNat : Int)) = true := hxz
          clear hxz
          clear hx hL
          go_upto_region 6 with fail
          go_quiet ((exact (KL0.out _).mono (fun e w'' hp => ⟨hp.1, _, hp.2⟩)))
          go_wp2
          go_ret
          have hne := KX.out
          refine ⟨?_, below_drewN (below_drewN (Below.refl _ _) _) _⟩
          rw [KE.out, decide_eq_false (fun h => hne (by have := KH.out; omega))]
          rfl
      · have KL0 : Kept (∀ w', Calls Tryd.prog 63 #[.int .u8 x2.toNat] w' fun e w'' => e = .returned (.int .u8 (lowN x2.toNat)) ∧ w'' = w') := ⟨KL.out x2⟩
        by_cases hx : lowN x2.toNat = 105
        · have KX := Kept.mk hx
          rw [hx] at KL0
          clear hx
          go_upto_region 6 with fail
          go_quiet ((exact (KL0.out _).mono (fun e w'' hp => ⟨hp.1, _, hp.2⟩)))
          go_wp2
          have hx := KX.out
          go_roundw
          case rel => exact ⟨3, _, by omega, rfl, rfl, (fun _ => KQ.out.1 (by omega)), (fun _ => KQ.out.2.1 (by omega)), (fun _ => hx), (fun h => by omega)⟩
          case measure => simp [intOf]
        · have hxi : ((lowN x2.toNat : Int) == 105) = false := by simp; omega
          have KX := Kept.mk hx
          generalize hL : lowN x2.toNat = L at *
          have KH := Kept.mk hL
          have hxn : ¬ (L : Int) = 105 := by omega
          have hxz : ((L : Int) != 105) = true := by simp; omega
          have hxm : ((L : Int) != (((⟨#[46, 103, 105, 116]⟩ : ByteArray)[2]'(by decide)).toNat : Int)) = true := hxz
          clear hxz
          clear hx hL
          go_upto_region 6 with fail
          go_quiet ((exact (KL0.out _).mono (fun e w'' hp => ⟨hp.1, _, hp.2⟩)))
          go_wp2
          go_ret
          have hne := KX.out
          refine ⟨?_, below_drewN (below_drewN (Below.refl _ _) _) _⟩
          rw [KE.out, decide_eq_false (fun h => hne (by have := KH.out; omega))]
          rfl
      · have KL0 : Kept (∀ w', Calls Tryd.prog 63 #[.int .u8 x3.toNat] w' fun e w'' => e = .returned (.int .u8 (lowN x3.toNat)) ∧ w'' = w') := ⟨KL.out x3⟩
        by_cases hx : lowN x3.toNat = 116
        · have KX := Kept.mk hx
          rw [hx] at KL0
          clear hx
          go_upto_region 6 with fail
          go_quiet ((exact (KL0.out _).mono (fun e w'' hp => ⟨hp.1, _, hp.2⟩)))
          go_wp2
          have hx := KX.out
          go_roundw
          case rel => exact ⟨4, _, by omega, rfl, rfl, (fun _ => KQ.out.1 (by omega)), (fun _ => KQ.out.2.1 (by omega)), (fun _ => KQ.out.2.2.1 (by omega)), (fun _ => hx)⟩
          case measure => simp [intOf]
        · have hxi : ((lowN x3.toNat : Int) == 116) = false := by simp; omega
          have KX := Kept.mk hx
          generalize hL : lowN x3.toNat = L at *
          have KH := Kept.mk hL
          have hxn : ¬ (L : Int) = 116 := by omega
          have hxz : ((L : Int) != 116) = true := by simp; omega
          have hxm : ((L : Int) != (((⟨#[46, 103, 105, 116]⟩ : ByteArray)[3]'(by decide)).toNat : Int)) = true := hxz
          clear hxz
          clear hx hL
          go_upto_region 6 with fail
          go_quiet ((exact (KL0.out _).mono (fun e w'' hp => ⟨hp.1, _, hp.2⟩)))
          go_wp2
          go_ret
          have hne := KX.out
          refine ⟨?_, below_drewN (below_drewN (Below.refl _ _) _) _⟩
          rw [KE.out, decide_eq_false (fun h => hne (by have := KH.out; omega))]
          rfl
      · have KT : Kept (gitF ⟨#[x0, x1, x2, x3]⟩ = true) := ⟨by rw [KE.out]; exact decide_eq_true ⟨KQ.out.1 (by omega), KQ.out.2.1 (by omega), KQ.out.2.2.1 (by omega), KQ.out.2.2.2 (by omega)⟩⟩
        go_wp2
        go_ret
        exact ⟨by rw [KT.out]; rfl, below_drewN (Below.refl _ _) _⟩
  · have h4i : ¬ (s.size : Int) = 4 := by omega
    have hd : ((s.size : Int) == 4) = false := by simpa using h4i
    have KE : Kept (gitF s = false) := ⟨by
      unfold gitF
      apply decide_eq_false
      intro e
      have := congrArg List.length e
      simp at this
      exact h4 this⟩
    go_enter Tryd.func52, Tryd.ntmps52
    go_wp2
    go_ret
    exact ⟨by rw [KE.out]; rfl, Below.refl _ _⟩
end Go.Proofs.YtegdadkejheagaaDoor
