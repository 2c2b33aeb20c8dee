/-
  Words of kinds, headers; the document's If, Least.
-/
import Derived.Test.YtmnadnhabfflkaaDoorO6
namespace Go.Proofs.YtmnadnhabfflkaaDoor
open Go.RowKit

/-- The word of a kind. -/
def wdF (k : Int) : ByteArray := if k = 1 then ⟨#[99, 111, 109, 109, 105, 116]⟩ else if k = 2 then ⟨#[116, 114, 101, 101]⟩ else if k = 3 then ⟨#[98, 108, 111, 98]⟩ else if k = 4 then ⟨#[116, 97, 103]⟩ else ⟨#[]⟩
def isK (k : Int) : Bool := decide (1 ≤ k) && decide (k ≤ 4)
theorem wd_size (k : Int) : (wdF k).size ≤ 6 := by
  unfold wdF
  repeat' split
  all_goals decide
theorem wd_empty (k : Int) : ((wdF k).toList == []) = !isK k := by
  rw [Lib.toList_data]
  unfold wdF isK
  by_cases h1 : k = 1
  · subst h1; rfl
  by_cases h2 : k = 2
  · subst h2; rfl
  by_cases h3 : k = 3
  · subst h3; rfl
  by_cases h4 : k = 4
  · subst h4; rfl
  rw [if_neg h1, if_neg h2, if_neg h3, if_neg h4]
  have : (decide (1 ≤ k) && decide (k ≤ 4)) = false := by
    rw [Bool.and_eq_false_iff, decide_eq_false_iff_not, decide_eq_false_iff_not]
    omega
  rw [this]
  rfl
set_option maxHeartbeats 400000 in
set_option maxRecDepth 100000 in
theorem word_any (k : Int) (w : World) : Calls Tryd.prog 12 #[.int .i64 k] w fun e w' => e = .returned (.string (wdF k)) ∧ w' = w := by
  unfold wdF
  by_cases h1 : k = 1
  · subst h1
    go_enter Tryd.func12, Tryd.ntmps12
    go_wp2
    go_ret
    exact ⟨rfl, rfl⟩
  have b1 : (k == 1) = false := by simpa using h1
  by_cases h2 : k = 2
  · subst h2
    go_enter Tryd.func12, Tryd.ntmps12
    go_wp2
    go_ret
    exact ⟨rfl, rfl⟩
  have b2 : (k == 2) = false := by simpa using h2
  by_cases h3 : k = 3
  · subst h3
    go_enter Tryd.func12, Tryd.ntmps12
    go_wp2
    go_ret
    exact ⟨rfl, rfl⟩
  have b3 : (k == 3) = false := by simpa using h3
  by_cases h4 : k = 4
  · subst h4
    go_enter Tryd.func12, Tryd.ntmps12
    go_wp2
    go_ret
    exact ⟨rfl, rfl⟩
  have b4 : (k == 4) = false := by simpa using h4
  rw [if_neg h1, if_neg h2, if_neg h3, if_neg h4]
  go_enter Tryd.func12, Tryd.ntmps12
  go_wp2
  go_ret
  exact ⟨rfl, rfl⟩
set_option maxHeartbeats 400000 in
set_option maxRecDepth 100000 in
theorem rword_any (k : Int) (w : World) : Calls Tryd.prog 16 #[.int .i64 k] w fun e w' => e = .returned (.string (wdF k)) ∧ w' = w := by
  unfold wdF
  by_cases h1 : k = 1
  · subst h1
    go_enter Tryd.func16, Tryd.ntmps16
    go_wp2
    go_ret
    exact ⟨rfl, rfl⟩
  have b1 : (k == 1) = false := by simpa using h1
  by_cases h2 : k = 2
  · subst h2
    go_enter Tryd.func16, Tryd.ntmps16
    go_wp2
    go_ret
    exact ⟨rfl, rfl⟩
  have b2 : (k == 2) = false := by simpa using h2
  by_cases h3 : k = 3
  · subst h3
    go_enter Tryd.func16, Tryd.ntmps16
    go_wp2
    go_ret
    exact ⟨rfl, rfl⟩
  have b3 : (k == 3) = false := by simpa using h3
  by_cases h4 : k = 4
  · subst h4
    go_enter Tryd.func16, Tryd.ntmps16
    go_wp2
    go_ret
    exact ⟨rfl, rfl⟩
  have b4 : (k == 4) = false := by simpa using h4
  rw [if_neg h1, if_neg h2, if_neg h3, if_neg h4]
  go_enter Tryd.func16, Tryd.ntmps16
  go_wp2
  go_ret
  exact ⟨rfl, rfl⟩
set_option maxHeartbeats 400000 in
set_option maxRecDepth 100000 in
theorem if_any (so : Bool) (e : Int) (w : World) : Calls Tryd.prog 15 #[.bool so, .int .i64 e] w fun x w' => x = .returned (.int .i64 (if so then e else 0)) ∧ w' = w := by
  cases so
  · go_enter Tryd.func15, Tryd.ntmps15
    go_wp2
    go_ret
    exact ⟨rfl, rfl⟩
  · go_enter Tryd.func15, Tryd.ntmps15
    go_wp2
    go_ret
    exact ⟨rfl, rfl⟩
theorem ndig_le : ∀ (u k : Nat), 1 ≤ k → u < 10 ^ k → Lib.nDigits u ≤ k
  | u, 0, h, _ => by omega
  | u, k + 1, _, h => by
    by_cases hu : u < 10
    · rw [Lib.nDigits_small hu]; omega
    · rw [Lib.nDigits_big hu]
      cases k with
      | zero => simp at h; omega
      | succ k =>
        have := ndig_le (u / 10) (k + 1) (by omega) (by rw [Nat.pow_succ] at h; omega)
        omega
theorem quiet_cat {C : World → Prop} {K : Act → Prop} {o : Oper} {a : Act} (x y : Operand) (ho : o.op = .binOp .add 9 x y 9) (s t : ByteArray) (hx : a.eval x = .string s) (hy : a.eval y = .string t) (hb : s.size + t.size ≤ 9223372036854775807) (hk : K (a.put o.dst (.string (s ++ t)))) : o.quiet Tryd.prog a C K :=
  quiet_run (fun w _ => by
    have hb2 : ¬ 9223372036854775807 < s.size + t.size := by omega
    unfold execOp
    simp only [ho, hx, hy]
    go_simp) hk
theorem size_cat (s t : ByteArray) : (s ++ t).size = s.size + t.size := ByteArray.size_append
/-- A header's bytes. -/
def hdB (k n : Int) : ByteArray := wdF k ++ ⟨#[32]⟩ ++ ⟨(Lib.itoa n).toArray⟩ ++ ⟨#[0]⟩
def hdE (k n : Int) : Int := if n < 0 ∨ 1048576 < n then 1 else if isK k then 0 else 9
def hdS (k n : Int) : ByteArray := if hdE k n = 0 then hdB k n else ⟨#[]⟩
theorem itoa_size {n : Int} (h0 : 0 ≤ n) (h1 : n ≤ 1048576) : (⟨(Lib.itoa n).toArray⟩ : ByteArray).size ≤ 20 := by
  show (Lib.itoa n).toArray.size ≤ 20
  rw [List.size_toArray]
  unfold Lib.itoa
  rw [if_neg (by omega), Lib.decDigits_length]
  exact ndig_le _ 20 (by omega) (by omega)
set_option maxHeartbeats 1000000 in
set_option maxRecDepth 100000 in
theorem header_any (k n : Int) (w : World) (hg : Gv w) (hn0 : -9223372036854775808 ≤ n) (hn1 : n < 9223372036854775808) : Calls Tryd.prog 5 #[.int .i64 k, .int .i64 n] w fun e w' => e = .returned (.tuple #[.string (hdS k n), .int .i64 (hdE k n)]) ∧ Below w.heap.size w w' := by
  by_cases h1 : n < 0
  · have KE : Kept (hdE k n = 1) := ⟨by unfold hdE; rw [if_pos (Or.inl h1)]⟩
    have KS : Kept (hdS k n = ⟨#[]⟩) := ⟨by unfold hdS; rw [KE.out]; rfl⟩
    go_enter Tryd.func5, Tryd.ntmps5
    go_wp2
    go_ret2
    rw [KE.out, KS.out]
    exact ⟨rfl, Below.refl _ _⟩
  by_cases h2 : 1048576 < n
  · have KE : Kept (hdE k n = 1) := ⟨by unfold hdE; rw [if_pos (Or.inr h2)]⟩
    have KS : Kept (hdS k n = ⟨#[]⟩) := ⟨by unfold hdS; rw [KE.out]; rfl⟩
    go_enter Tryd.func5, Tryd.ntmps5
    go_wp2
    go_ret2
    rw [KE.out, KS.out]
    exact ⟨rfl, Below.refl _ _⟩
  have KW : Kept (∀ w, Calls Tryd.prog 12 #[.int .i64 k] w fun e w' => e = .returned (.string (wdF k)) ∧ w' = w) := ⟨word_any k⟩
  have hwe := wd_empty k
  have hws := wd_size k
  have KT := Kept.mk (itoaV_any n w hg (by omega) (by omega))
  have hts := itoa_size (by omega) (by omega : n ≤ 1048576)
  have KHB : Kept (hdB k n = wdF k ++ ⟨#[32]⟩ ++ ⟨(Lib.itoa n).toArray⟩ ++ ⟨#[0]⟩) := ⟨rfl⟩
  have KE0 : Kept (hdE k n = if isK k then 0 else 9) := ⟨by unfold hdE; rw [if_neg (by omega)]⟩
  clear hg
  generalize wdF k = D at *
  generalize (⟨(Lib.itoa n).toArray⟩ : ByteArray) = T at *
  cases hk : isK k
  · have KE : Kept (hdE k n = 9) := ⟨by rw [KE0.out, hk]; rfl⟩
    have KS : Kept (hdS k n = ⟨#[]⟩) := ⟨by unfold hdS; rw [KE.out]; rfl⟩
    rw [hk] at hwe
    have hwe : (D.toList == []) = true := hwe
    go_enter Tryd.func5, Tryd.ntmps5
    go_wp2_with fail
    refine Calls.mono (KW.out w) (fun e w1 hp => ?_)
    obtain ⟨rfl, rfl⟩ := hp
    go_wp2
    go_ret2
    rw [KE.out, KS.out]
    exact ⟨rfl, Below.refl _ _⟩
  · have KE : Kept (hdE k n = 0) := ⟨by rw [KE0.out, hk]; rfl⟩
    have KS : Kept (hdS k n = D ++ ⟨#[32]⟩ ++ T ++ ⟨#[0]⟩) := ⟨by unfold hdS; rw [if_pos KE.out, KHB.out]⟩
    rw [hk] at hwe
    have hwe : (D.toList == []) = false := hwe
    go_enter Tryd.func5, Tryd.ntmps5
    go_wp2_with fail
    refine Calls.mono (KW.out w) (fun e w1 hp => ?_)
    obtain ⟨rfl, rfl⟩ := hp
    go_wp2_with fail
    refine Calls.mono (KW.out w1) (fun e w1 hp => ?_)
    obtain ⟨rfl, rfl⟩ := hp
    go_wp2_with fail
    refine Calls.mono KT.out (fun e w2 hp => ?_)
    obtain ⟨rfl, hb⟩ := hp
    have KB := Kept.mk hb
    clear hb
    go_wp2
    go_ret2
    rw [KE.out, KS.out]
    exact ⟨rfl, KB.out⟩
end Go.Proofs.YtmnadnhabfflkaaDoor
