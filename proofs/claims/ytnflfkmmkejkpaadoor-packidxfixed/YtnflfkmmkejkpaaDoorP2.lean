/-
  Walks: checkSize.
-/
import Derived.Test.YtnflfkmmkejkpaaDoorPB
namespace Go.Proofs.YtnflfkmmkejkpaaDoor
open Go.RowKit

def sizeE (p : List Int) (n : Nat) : Int :=
  if p.length < 1096 + n * 40 then 5 else if p.length < 1096 + n * 40 + nl (longR p n) n * 8 then 5 else if 1096 + n * 40 + nl (longR p n) n * 8 < p.length then 4 else 0

set_option maxHeartbeats 1000000 in
set_option maxRecDepth 100000 in
theorem checkSize_any {S : Nat → Prop} (v : Value) (xs : List Int) (n : Nat) (w : World) (h : Rd .u8 S w v xs) (hA : AllB xs) (hn : n ≤ 4096) (hl : xs.length + 20 ≤ 140737488355328) :
    Calls Tryd.prog 32 #[v, .int .i64 n] w fun e w' => e = .returned (.int .i64 (sizeE xs n)) ∧ w' = w := by
  obtain ⟨a, c, rfl, -, hlc, hcm⟩ := h.form
  have KH := Kept.mk h
  clear h
  have e1 : IntKind.i64.wrap ((n : Int) * 40) = (n : Int) * 40 := wr64 (by omega) (by omega)
  have e2 : IntKind.i64.wrap (1096 + (n : Int) * 40) = 1096 + (n : Int) * 40 := wr64 (by omega) (by omega)
  by_cases h1 : xs.length < 1096 + n * 40
  · have d1 : decide ((xs.length : Int) < 1096 + (n : Int) * 40) = true := decide_eq_true (by omega)
    have KE : Kept (sizeE xs n = 5) := ⟨by unfold sizeE; rw [if_pos h1]⟩
    rw [KE.out]
    clear h1
    go_enter Tryd.func32, Tryd.ntmps32
    go_wp2
    go_ret
    exact ⟨rfl, rfl⟩
  · have d1 : decide ((xs.length : Int) < 1096 + (n : Int) * 40) = false := decide_eq_false (by omega)
    have KE : Kept (sizeE xs n = if xs.length < 1096 + n * 40 + nl (longR xs n) n * 8 then 5 else if 1096 + n * 40 + nl (longR xs n) n * 8 < xs.length then 4 else 0) := ⟨by unfold sizeE; rw [if_neg h1]⟩
    have KC : Kept (∀ i, i < n → Calls Tryd.prog 54 #[.slice a xs.length c, .int .i64 n, .int .i64 i] w fun e w' => e = .returned (.int .u64 (shortR xs n i)) ∧ w' = w) := ⟨fun i hi => shortPlace_any _ xs n i w KH.out hA (by omega) hl⟩
    have K1 := Kept.mk h1
    clear h1
    generalize sizeE xs n = E at *
    go_enter Tryd.func32, Tryd.ntmps32
    go_wp2_with fail
    go_loop [5, 15] (fun sv iv => ∃ k : Nat, k ≤ n ∧ iv = .int .i64 k ∧ sv = .int .i64 (1096 + (n : Int) * 40 + ((nl (longR xs n) k : Nat) : Int) * 8)) (fun _ iv => n - (intOf iv).toNat)
    case atStart => exact ⟨0, Nat.zero_le _, rfl, by simp [nl]⟩
    case round =>
      obtain ⟨k, hk, rfl, rfl⟩ := hrel
      have hnl := nl_le (longR xs n) k
      by_cases hlt : k < n
      · have hki : decide ((k : Int) < (n : Int)) = true := decide_eq_true (by omega)
        have KS := Kept.mk (nl_succ (longR xs n) k)
        have KLg := Kept.mk (lng_longR xs n k hlt)
        have KCk := Kept.mk (KC.out k hlt)
        generalize shortR xs n k = T at *
        generalize nl (longR xs n) k = q at *
        have e5 : IntKind.i64.wrap (1096 + (n : Int) * 40 + (q : Int) * 8 + 8) = 1096 + (n : Int) * 40 + (q : Int) * 8 + 8 := wr64 (by omega) (by omega)
        have e6 : IntKind.i64.wrap ((k : Int) + 1) = (k : Int) + 1 := wr64 (by omega) (by omega)
        by_cases hT : 2147483648 ≤ T
        · have hd : decide (2147483648 ≤ T) = true := decide_eq_true hT
          go_wp2_with fail
          refine Calls.mono KCk.out (fun e w1 hp => ?_)
          obtain ⟨rfl, rfl⟩ := hp
          go_wp2
          go_round
          case rel => exact ⟨k + 1, by omega, by go_num, by rw [KS.out, if_pos (by rw [KLg.out]; exact hd)]; congr 1; omega⟩
          case measure => simp [intOf]; omega
        · have hd : decide (2147483648 ≤ T) = false := decide_eq_false hT
          go_wp2_with fail
          refine Calls.mono KCk.out (fun e w1 hp => ?_)
          obtain ⟨rfl, rfl⟩ := hp
          go_wp2
          go_round
          case rel => exact ⟨k + 1, by omega, by go_num, by rw [KS.out, if_neg (by rw [KLg.out, hd]; decide)]; rfl⟩
          case measure => simp [intOf]; omega
      · have hki : decide ((k : Int) < (n : Int)) = false := decide_eq_false (by omega)
        obtain rfl : k = n := by omega
        generalize nl (longR xs k) k = q at *
        by_cases h2 : xs.length < 1096 + k * 40 + q * 8
        · have d2 : decide ((xs.length : Int) < 1096 + (k : Int) * 40 + (q : Int) * 8) = true := decide_eq_true (by omega)
          have KV : Kept (E = 5) := ⟨by rw [KE.out, if_pos h2]⟩
          clear h2
          go_wp2
          go_ret
          exact ⟨by rw [KV.out]; rfl, rfl⟩
        · have d2 : decide ((xs.length : Int) < 1096 + (k : Int) * 40 + (q : Int) * 8) = false := decide_eq_false (by omega)
          by_cases h3 : 1096 + k * 40 + q * 8 < xs.length
          · have d3 : decide (1096 + (k : Int) * 40 + (q : Int) * 8 < (xs.length : Int)) = true := decide_eq_true (by omega)
            have KV : Kept (E = 4) := ⟨by rw [KE.out, if_neg h2, if_pos h3]⟩
            clear h2 h3
            go_wp2
            go_ret
            exact ⟨by rw [KV.out]; rfl, rfl⟩
          · have d3 : decide (1096 + (k : Int) * 40 + (q : Int) * 8 < (xs.length : Int)) = false := decide_eq_false (by omega)
            have KV : Kept (E = 0) := ⟨by rw [KE.out, if_neg h2, if_neg h3]⟩
            clear h2 h3
            go_wp2
            go_ret
            exact ⟨by rw [KV.out]; rfl, rfl⟩
end Go.Proofs.YtnflfkmmkejkpaaDoor
