/-
  Walks: the document's git, Name.
-/
import Derived.Test.YthkaohkondkhgaaDoorN18
namespace Go.Proofs.YthkaohkondkhgaaDoor
open Go.RowKit

theorem lowN_dot (n : Nat) : lowN n = 46 ↔ n = 46 := by
  unfold lowN
  split <;> omega
theorem git_not4 {s : ByteArray} (h : ¬ s.size = 4) : gitF s = false := by
  unfold gitF
  refine decide_eq_false (fun e => h ?_)
  have := congrArg List.length e
  rw [List.length_map] at this
  rw [Lib.size_eq, this]
  rfl
set_option maxHeartbeats 1000000 in
set_option maxRecDepth 100000 in
theorem git_any (s : ByteArray) (w : World) : Calls Tryd.prog 90 #[.string s] w fun e w' => e = .returned (.bool (gitF s)) ∧ Below w.heap.size w w' := by
  by_cases h4 : s.size = 4
  · have KE : Kept (gitF s = decide ((s.data.getD 0 0).toNat = 46 ∧ lowN (s.data.getD 1 0).toNat = 103 ∧ lowN (s.data.getD 2 0).toNat = 105 ∧ lowN (s.data.getD 3 0).toNat = 116)) := ⟨by
      obtain ⟨x0, x1, x2, x3, rfl⟩ := four h4
      unfold gitF
      simp [lowN_dot]⟩
    have hi0 : (Instr.index 9 (.string s) (.int .i64 0)).run Tryd.prog w = .ok (.int .u8 (((s.data.getD 0 0).toNat : Nat) : Int)) w := run_index_text w s .i64 0 (by omega)
    have hi1 : (Instr.index 9 (.string s) (.int .i64 1)).run Tryd.prog w = .ok (.int .u8 (((s.data.getD 1 0).toNat : Nat) : Int)) w := run_index_text w s .i64 1 (by omega)
    have hi2 : (Instr.index 9 (.string s) (.int .i64 2)).run Tryd.prog w = .ok (.int .u8 (((s.data.getD 2 0).toNat : Nat) : Int)) w := run_index_text w s .i64 2 (by omega)
    have hi3 : (Instr.index 9 (.string s) (.int .i64 3)).run Tryd.prog w = .ok (.int .u8 (((s.data.getD 3 0).toNat : Nat) : Int)) w := run_index_text w s .i64 3 (by omega)
    have KL1 := Kept.mk (rlower_any (s.data.getD 1 0).toNat w (s.data.getD 1 0).toNat_lt)
    have KL2 := Kept.mk (rlower_any (s.data.getD 2 0).toNat w (s.data.getD 2 0).toNat_lt)
    have KL3 := Kept.mk (rlower_any (s.data.getD 3 0).toNat w (s.data.getD 3 0).toNat_lt)
    have hsz : ((s.size : Int) == 4) = true := by simp; omega
    generalize (s.data.getD 0 0).toNat = y0 at *
    generalize (s.data.getD 1 0).toNat = y1 at *
    generalize (s.data.getD 2 0).toNat = y2 at *
    generalize (s.data.getD 3 0).toNat = y3 at *
    generalize lowN y1 = l1 at *
    generalize lowN y2 = l2 at *
    generalize lowN y3 = l3 at *
    by_cases g0 : y0 = 46
    · have f0 : ((y0 : Int) == 46) = true := by simp; omega
      go_enter Tryd.func90, Tryd.ntmps90
      go_wp2_with fail
      refine Calls.mono KL1.out (fun e w1 hp => ?_)
      obtain ⟨rfl, rfl⟩ := hp
      by_cases g1 : l1 = 103
      · have f1 : ((l1 : Int) == 103) = true := by simp; omega
        go_wp2_with fail
        refine Calls.mono KL2.out (fun e w2 hp => ?_)
        obtain ⟨rfl, rfl⟩ := hp
        by_cases g2 : l2 = 105
        · have f2 : ((l2 : Int) == 105) = true := by simp; omega
          go_wp2_with fail
          refine Calls.mono KL3.out (fun e w3 hp => ?_)
          obtain ⟨rfl, rfl⟩ := hp
          by_cases g3 : l3 = 116
          · have f3 : ((l3 : Int) == 116) = true := by simp; omega
            have KF : Kept (gitF s = true) := ⟨by rw [KE.out]; exact decide_eq_true ⟨g0, g1, g2, g3⟩⟩
            go_wp2
            go_ret
            exact ⟨by rw [KF.out]; rfl, Below.refl _ _⟩
          · have f3 : ((l3 : Int) == 116) = false := by simp; omega
            have KF : Kept (gitF s = false) := ⟨by rw [KE.out]; exact decide_eq_false (fun h => g3 h.2.2.2)⟩
            go_wp2
            go_ret
            exact ⟨by rw [KF.out]; rfl, Below.refl _ _⟩
        · have f2 : ((l2 : Int) == 105) = false := by simp; omega
          have KF : Kept (gitF s = false) := ⟨by rw [KE.out]; exact decide_eq_false (fun h => g2 h.2.2.1)⟩
          go_wp2
          go_ret
          exact ⟨by rw [KF.out]; rfl, Below.refl _ _⟩
      · have f1 : ((l1 : Int) == 103) = false := by simp; omega
        have KF : Kept (gitF s = false) := ⟨by rw [KE.out]; exact decide_eq_false (fun h => g1 h.2.1)⟩
        go_wp2
        go_ret
        exact ⟨by rw [KF.out]; rfl, Below.refl _ _⟩
    · have f0 : ((y0 : Int) == 46) = false := by simp; omega
      have KF : Kept (gitF s = false) := ⟨by rw [KE.out]; exact decide_eq_false (fun h => g0 h.1)⟩
      go_enter Tryd.func90, Tryd.ntmps90
      go_wp2
      go_ret
      exact ⟨by rw [KF.out]; rfl, Below.refl _ _⟩
  · have KF := Kept.mk (git_not4 h4)
    have hd : ((s.size : Int) == 4) = false := by simp; omega
    go_enter Tryd.func90, Tryd.ntmps90
    go_wp2
    go_ret
    exact ⟨by rw [KF.out]; rfl, Below.refl _ _⟩
end Go.Proofs.YthkaohkondkhgaaDoor
