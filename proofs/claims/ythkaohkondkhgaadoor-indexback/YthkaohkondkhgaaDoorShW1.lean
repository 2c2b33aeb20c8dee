/-
  Walks: turnRight, and the document's right.
-/
import Derived.Test.YthkaohkondkhgaaDoorRows
import Derived.Test.YthkaohkondkhgaaDoorShM
import Derived.WalkKit
import Derived.WalkSpells
import Derived.WalkLawsBesides
import Derived.Deep.QuietTactic
import Derived.BigQuiet
namespace Go.Proofs.YthkaohkondkhgaaDoor.Sh
open Go.RowKit

set_option maxHeartbeats 400000 in
set_option maxRecDepth 100000 in
theorem turn_any (x s : Int) (w : World) (hx0 : 0 ≤ x) (hx1 : x < 4294967296) (hs0 : 1 ≤ s) (hs1 : s ≤ 31) :
    Calls Tryd.prog 104 #[.int .u32 x, .int .i64 s] w fun e w' => e = .returned (.int .u32 (rotr x s)) ∧ w' = w := by
  obtain ⟨n, rfl⟩ := Int.eq_ofNat_of_zero_le (show 0 ≤ s by omega)
  have ha := and31 (n : Int) hs0 hs1
  have hcast : (32 : Int) - (n : Int) = ((32 - n : Nat) : Int) := by omega
  rw [hcast] at ha
  have ho := rot_or x n hx0 hx1 (by omega) (by omega)
  have hc2 : (32 : Int) - ((32 - n : Nat) : Int) = (n : Int) := by omega
  clear hcast
  go_enter Tryd.func104, Tryd.ntmps104
  go_wp2
  go_ret
  exact ⟨rfl, rfl⟩

set_option maxHeartbeats 400000 in
set_option maxRecDepth 100000 in
theorem right_any (x s : Int) (w : World) (hx0 : 0 ≤ x) (hx1 : x < 4294967296) (hs0 : 1 ≤ s) (hs1 : s ≤ 31) :
    Calls Tryd.prog 92 #[.int .u32 x, .int .i64 s] w fun e w' => e = .returned (.int .u32 (rotr x s)) ∧ ∃ n, w' = w.drewN n := by
  obtain ⟨n, rfl⟩ := Int.eq_ofNat_of_zero_le (show 0 ≤ s by omega)
  have h2 : (0 : Int) ≤ 32 - n := by omega
  have hr := rotr_range x n hx0 hx1 hs0 hs1
  have HR : Hid ((x / 2 ^ n + x * 2 ^ (32 - n) % 4294967296) % 4294967296 = rotr x n) := (by
    show _ = rotr x n
    unfold rotr at hr ⊢
    rw [Int.toNat_natCast] at hr ⊢
    omega)
  go_enter Tryd.func92, Tryd.ntmps92
  go_wp2
  go_quiet (fail)
  go_wp2
  go_ret
  exact ⟨by rw [← HR.out]; rfl, _, rfl⟩
end Go.Proofs.YthkaohkondkhgaaDoor.Sh
