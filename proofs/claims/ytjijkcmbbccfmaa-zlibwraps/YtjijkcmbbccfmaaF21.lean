/-
  Walks: the document's same.
-/
import Derived.Test.YtjijkcmbbccfmaaF20
namespace Go.Proofs.Ytjijkcmbbccfmaa
open Go.RowKit

/-- How many numbers are alike from two places on. -/
def cmF (p : List Int) : Nat → Nat → Nat → Nat
  | 0, _, _ => 0
  | f + 1, i, j => if p.getD i 0 = p.getD j 0 then cmF p f (i + 1) (j + 1) + 1 else 0
theorem cmF_le (p : List Int) : ∀ (f i j : Nat), cmF p f i j ≤ f
  | 0, _, _ => Nat.le_refl _
  | f + 1, i, j => by
    have := cmF_le p f (i + 1) (j + 1)
    rw [cmF]
    split <;> omega
theorem cmF_step (p : List Int) {f i j : Nat} (h : 0 < f) (he : p.getD i 0 = p.getD j 0) : cmF p f i j = cmF p (f - 1) (i + 1) (j + 1) + 1 := by
  obtain ⟨g, rfl⟩ : ∃ g, f = g + 1 := ⟨f - 1, by omega⟩
  rw [cmF, if_pos he, Nat.add_sub_cancel]
theorem cmF_stop (p : List Int) {f i j : Nat} (he : ¬ p.getD i 0 = p.getD j 0) : cmF p f i j = 0 := by
  cases f with
  | zero => rfl
  | succ f => rw [cmF, if_neg he]

set_option maxHeartbeats 1000000 in
set_option maxRecDepth 100000 in
theorem dsame_any (pv : Value) (p : List Int) (i j : Nat) (w : World) (hp : Rd .u8 anyB w pv p) (hi : i ≤ p.length) (hj : j < i) (hl : p.length ≤ 1073741824) :
    Calls Try.prog 43 #[pv, .int .i64 i, .int .i64 j] w fun e w' => e = .returned (.int .i64 (cmF p (min 258 (p.length - i)) i j)) ∧ ∃ m, w' = w.drewN m := by
  obtain ⟨pa, pc, rfl, -, -, -⟩ := hp.form
  have KP := Kept.mk hp
  clear hp
  obtain ⟨F, hF⟩ : ∃ F, min 258 (p.length - i) = F := ⟨_, rfl⟩
  rw [hF]
  have hpl : (p.length : Int) ≤ 1073741824 := by omega
  go_enter Try.func43, Try.ntmps43
  go_wp2
  go_loopw [7] (fun nv wr => ∃ n m : Nat, nv = .int .i64 n ∧ n ≤ F ∧ n + cmF p (F - n) (i + n) (j + n) = cmF p F i j ∧ wr = w.drewN m) (fun nv _ => F - (intOf nv).toNat)
  case atStart => exact ⟨0, 0, rfl, Nat.zero_le _, by simp, rfl⟩
  case round =>
    obtain ⟨n, m, rfl, hn, he, rfl⟩ := hrel
    have KE := Kept.mk he
    have KF := Kept.mk hF
    clear he
    by_cases h258 : n < 258
    · have hd1 : decide ((n : Int) < 258) = true := by simp; omega
      by_cases hin : i + n < p.length
      · have hd2 : decide ((i : Int) + (n : Int) < (p.length : Int)) = true := by simp; omega
        have hnF : n < F := by omega
        obtain ⟨b, off, pc2, hs0, -, -, -, -, hcells⟩ := KP.out.open (by omega)
        simp only [Value.slice.injEq, true_and] at hs0
        obtain ⟨rfl, rfl⟩ := hs0
        have ci := hcells (i + n) hin
        have cj := hcells (j + n) (by omega)
        have hwi : IntKind.i64.wrap ((i : Int) + (n : Int)) = (i : Int) + (n : Int) := by rw [IntKind.wrap_i64]; omega
        have hwj : IntKind.i64.wrap ((j : Int) + (n : Int)) = (j : Int) + (n : Int) := by rw [IntKind.wrap_i64]; omega
        have hx0 : (0 : Int) ≤ (i : Int) + (n : Int) := by omega
        have hy0 : (0 : Int) ≤ (j : Int) + (n : Int) := by omega
        have hii : (i : Int) + (n : Int) < (p.length : Int) := by omega
        have hjj : (j : Int) + (n : Int) < (p.length : Int) := by omega
        have hti : ((i : Int) + (n : Int)).toNat = i + n := by omega
        have htj : ((j : Int) + (n : Int)).toNat = j + n := by omega
        clear hcells hF
        by_cases heq : p.getD (i + n) 0 = p.getD (j + n) 0
        · have hE : Kept (n + 1 + cmF p (F - (n + 1)) (i + (n + 1)) (j + (n + 1)) = cmF p F i j) := ⟨by
            rw [← KE.out, cmF_step p (by omega) heq, show F - n - 1 = F - (n + 1) from by omega, show i + n + 1 = i + (n + 1) from by omega, show j + n + 1 = j + (n + 1) from by omega]
            omega⟩
          rw [heq] at ci
          generalize p.getD (j + n) 0 = y at *
          clear heq
          go_upto_region 2 with fail
          go_quiet (fail)
          go_wp2
          go_roundw
          case rel => exact ⟨n + 1, _, rfl, by omega, hE.out, rfl⟩
          case measure => simp [intOf]; omega
        · have hE : Kept (cmF p F i j = n) := ⟨by rw [← KE.out, cmF_stop p heq]; omega⟩
          have hd3 : (p.getD (i + n) 0 == p.getD (j + n) 0) = false := by simpa using heq
          generalize p.getD (j + n) 0 = y at *
          generalize p.getD (i + n) 0 = x at *
          clear heq
          go_upto_region 2 with fail
          go_quiet (fail)
          go_wp2
          go_ret
          exact ⟨by rw [hE.out]; rfl, ⟨_, World.drewN_drewN _ _ _⟩⟩
      · have hd2 : decide ((i : Int) + (n : Int) < (p.length : Int)) = false := by simp; omega
        have hE : Kept (cmF p F i j = n) := ⟨by
          have : F - n = 0 := by omega
          rw [← KE.out, this, cmF]
          omega⟩
        clear hF
        go_upto_region 2 with fail
        go_quiet (fail)
        go_wp2
        go_ret
        exact ⟨by rw [hE.out]; rfl, ⟨_, World.drewN_drewN _ _ _⟩⟩
    · have hd1 : decide ((n : Int) < 258) = false := by simp; omega
      have hE : Kept (cmF p F i j = n) := ⟨by
        have : F - n = 0 := by omega
        rw [← KE.out, this, cmF]
        omega⟩
      clear hF
      go_upto_region 2 with fail
      go_quiet (fail)
      go_wp2
      go_ret
      exact ⟨by rw [hE.out]; rfl, ⟨_, World.drewN_drewN _ _ _⟩⟩
end Go.Proofs.Ytjijkcmbbccfmaa
