/-
  FormatInt at base eight.
-/
import Derived.Test.YtkbalngddlhlpaaGreatDoorN25
import Derived.Laws.BitsAllLaws
import Derived.Test.YtkbalngddlhlpaaGreatDoorShA
namespace Go.Proofs.YtkbalngddlhlpaaGreatDoor
open Go.RowKit

structure Gv (w : World) : Prop where
  pow : Lib.TabIs Tryz.prog w "internal/strconv.uint64pow10" .u64 Lib.pow10Tab
  rnd : Sh.Tab w Sh.ksK
  tz : w.cell? ⟨6, 7, none⟩ = some (.int .u8 3)
  lo : 7 ≤ w.heap.size
set_option maxHeartbeats 400000 in
set_option maxRecDepth 100000 in
theorem tz64_any (w : World) (hg : w.cell? ⟨6, 7, none⟩ = some (.int .u8 3)) : Calls Tryz.prog 156 #[.int .u64 8] w fun e w' => e = .returned (.int .i64 3) ∧ w' = w := by
  have e1 : IntKind.u64.wrap (-8) = 18446744073709551608 := by kernel_rfl
  have e2 : bits .and .u64 8 18446744073709551608 = 8 := by kernel_rfl
  have e3 : IntKind.u64.wrap (8 * 285870213051353865) = 2286961704410830920 := by kernel_rfl
  go_enter Tryz.func156, Tryz.ntmps156
  go_wp2
  go_ret
  exact ⟨rfl, rfl⟩
set_option maxHeartbeats 400000 in
set_option maxRecDepth 100000 in
theorem pow2_any (w : World) : Calls Tryz.prog 135 #[.int .i64 8] w fun e w' => e = .returned (.bool true) ∧ w' = w := by
  go_enter Tryz.func135, Tryz.ntmps135
  go_wp2
  go_ret
  exact ⟨rfl, rfl⟩
set_option maxHeartbeats 400000 in
set_option maxRecDepth 100000 in
theorem tz_any (w : World) (hg : w.cell? ⟨6, 7, none⟩ = some (.int .u8 3)) : Calls Tryz.prog 136 #[.int .u64 8] w fun e w' => e = .returned (.int .i64 3) ∧ w' = w := by
  have KT := Kept.mk (tz64_any w hg)
  clear hg
  go_enter Tryz.func136, Tryz.ntmps136
  go_wp2_with fail
  refine Calls.mono KT.out (fun e w1 hp => ?_)
  obtain ⟨rfl, rfl⟩ := hp
  go_wp2
  go_ret
  exact ⟨rfl, rfl⟩

def octF : Nat → Nat → List Int
  | 0, n => [48 + (n : Int)]
  | f + 1, n => if n < 8 then [48 + (n : Int)] else octF f (n / 8) ++ [48 + ((n % 8 : Nat) : Int)]
theorem octF_length : ∀ f n, 1 ≤ (octF f n).length ∧ (octF f n).length ≤ f + 1
  | 0, n => by simp [octF]
  | f + 1, n => by
    have := octF_length f (n / 8)
    unfold octF
    split
    · simp
    · rw [List.length_append]
      simp
      omega
def digits36 : ByteArray := ⟨#[48, 49, 50, 51, 52, 53, 54, 55, 56, 57, 97, 98, 99, 100, 101, 102, 103, 104, 105, 106, 107, 108, 109, 110, 111, 112, 113, 114, 115, 116, 117, 118, 119, 120, 121, 122]⟩
theorem run_digit (w : World) (n : Nat) (hn : n < 8) : (Instr.index 9 (.string digits36) (.int .u64 n)).run Tryz.prog w = .ok (.int .u8 (48 + (n : Int))) w := by
  rw [run_index_string (P := Tryz.prog) (t := 9) (s := digits36) (k := .u64) (i := (n : Int)) (h := Tryz.underlying9)]
  rw [dif_pos ⟨by omega, by have : digits36.size = 36 := rfl
                            omega⟩]
  have : n = 0 ∨ n = 1 ∨ n = 2 ∨ n = 3 ∨ n = 4 ∨ n = 5 ∨ n = 6 ∨ n = 7 := by omega
  rcases this with rfl | rfl | rfl | rfl | rfl | rfl | rfl | rfl <;> rfl
theorem and7 (n : Nat) (hn : n < 18446744073709551616) : bits .and .u64 (n : Int) 7 = ((n % 8 : Nat) : Int) := by
  have := u64_and_nat n 7 hn (by omega)
  rw [show ((7 : Nat) : Int) = 7 from rfl] at this
  rw [this]
  congr 1
  exact Nat.and_two_pow_sub_one_eq_mod n 3
end Go.Proofs.YtkbalngddlhlpaaGreatDoor
