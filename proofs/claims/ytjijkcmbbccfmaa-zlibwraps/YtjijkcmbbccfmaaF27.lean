/-
  Walks: the program's common.
-/
import Derived.Test.YtjijkcmbbccfmaaF25
namespace Go.Proofs.Ytjijkcmbbccfmaa
open Go.RowKit

set_option maxHeartbeats 1000000 in
set_option maxRecDepth 100000 in
theorem common_any (fb : Nat) (pv : Value) (p : List Int) (j i F : Nat) (w : World) (hp : Rd .u8 anyB w pv p) (c0 : w.cell? ⟨fb, 0, none⟩ = some pv) (hj : j < i) (hF : i + F ≤ p.length) (hl : p.length ≤ 1073741824) :
    Calls Try.prog 30 #[.pointer (some ⟨fb, 0, none⟩), .int .i64 j, .int .i64 i, .int .i64 F] w fun e w' => e = .returned (.int .i64 (cmF p F i j)) ∧ ∃ m, w' = w.drewN m := by
  obtain ⟨pa, pc, rfl, -, -, -⟩ := hp.form
  have KP := Kept.mk hp
  clear hp
  have hpl : (p.length : Int) ≤ 1073741824 := by omega
  go_enter Try.func30, Try.ntmps30
  go_wp2
  go_loopw [9] (fun nv wr => ∃ n m : Nat, nv = .int .i64 n ∧ n ≤ F ∧ n + cmF p (F - n) (i + n) (j + n) = cmF p F i j ∧ wr = w.drewN m) (fun nv _ => F - (intOf nv).toNat)
  case atStart => exact ⟨0, 0, rfl, Nat.zero_le _, by simp, rfl⟩
  case round =>
    obtain ⟨n, m, rfl, hn, he, rfl⟩ := hrel
    have KE := Kept.mk he
    clear he
    by_cases hnF : n < F
    · have hd1 : decide ((n : Int) < (F : Int)) = true := by simp; omega
      have hd11 : (n : Int) < (F : Int) := by omega
      obtain ⟨b, off, pc2, hs0, -, -, -, -, hcells⟩ := KP.out.open (by omega)
      simp only [Value.slice.injEq, true_and] at hs0
      obtain ⟨rfl, rfl⟩ := hs0
      have ci := hcells (i + n) (by omega)
      have cj := hcells (j + n) (by omega)
      have hwi : IntKind.i64.wrap ((i : Int) + (n : Int)) = (i : Int) + (n : Int) := by rw [IntKind.wrap_i64]; omega
      have hwj : IntKind.i64.wrap ((j : Int) + (n : Int)) = (j : Int) + (n : Int) := by rw [IntKind.wrap_i64]; omega
      have hx0 : (0 : Int) ≤ (i : Int) + (n : Int) := by omega
      have hy0 : (0 : Int) ≤ (j : Int) + (n : Int) := by omega
      have hii : (i : Int) + (n : Int) < (p.length : Int) := by omega
      have hjj : (j : Int) + (n : Int) < (p.length : Int) := by omega
      have hti : ((i : Int) + (n : Int)).toNat = i + n := by omega
      have htj : ((j : Int) + (n : Int)).toNat = j + n := by omega
      clear hcells
      by_cases heq : p.getD (i + n) 0 = p.getD (j + n) 0
      · have hE : Kept (n + 1 + cmF p (F - (n + 1)) (i + (n + 1)) (j + (n + 1)) = cmF p F i j) := ⟨by
          rw [← KE.out, cmF_step p (by omega) heq, show F - n - 1 = F - (n + 1) from by omega, show i + n + 1 = i + (n + 1) from by omega, show j + n + 1 = j + (n + 1) from by omega]
          omega⟩
        rw [heq] at ci
        generalize p.getD (j + n) 0 = y at *
        clear heq
        go_upto_region 2 with fail
        go_quiet (fail)
        go_wp2
        go_roundw
        case rel => exact ⟨n + 1, _, rfl, by omega, hE.out, rfl⟩
        case measure => simp [intOf]; omega
      · have hE : Kept (cmF p F i j = n) := ⟨by rw [← KE.out, cmF_stop p heq]; omega⟩
        have heq2 : ¬ p.getD (j + n) 0 = p.getD (i + n) 0 := fun e => heq e.symm
        have hd3 : (p.getD (j + n) 0 == p.getD (i + n) 0) = false := by simpa using heq2
        generalize p.getD (j + n) 0 = y at *
        generalize p.getD (i + n) 0 = x at *
        clear heq heq2
        go_upto_region 2 with fail
        go_quiet (fail)
        go_wp2
        go_ret
        exact ⟨by rw [hE.out]; rfl, ⟨_, World.drewN_drewN _ _ _⟩⟩
    · have hd1 : decide ((n : Int) < (F : Int)) = false := by simp; omega
      have hd11 : ¬ (n : Int) < (F : Int) := by omega
      have hE : Kept (cmF p F i j = n) := ⟨by
        have : F - n = 0 := by omega
        rw [← KE.out, this, cmF]
        omega⟩
      go_upto_region 2 with fail
      go_quiet (fail)
      go_wp2
      go_ret
      exact ⟨by rw [hE.out]; rfl, ⟨_, rfl⟩⟩
end Go.Proofs.Ytjijkcmbbccfmaa
