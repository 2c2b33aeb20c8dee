/-
  Walks: endOf and the document's end.
-/
import Derived.Test.YtkidoknklgoffaaNuW2
import Derived.Test.YtkidoknklgoffaaNuMath2
namespace Go.Proofs.Ytkidoknklgoffaa.Nu
open Go.RowKit

/-- endOf's place and error. -/
def endS (xs : List Int) (t : Int) : Int × Int := if t < 0 then (0, 1) else match endL (xs.drop t.toNat) with
  | none => (0, 5)
  | some m => (t + m, 0)

set_option maxHeartbeats 400000 in
theorem endOf_neg (v : Value) (t : Int) (w : World) (ht : t < 0) :
    Calls Try.prog 37 #[v, .int .i64 t] w fun e w' => e = .returned (.tuple #[.int .i64 0, .int .i64 1]) ∧ w' = w := by
  go_enter Try.func37, Try.ntmps37
  go_wp2
  go_ret2
  exact ⟨rfl, rfl⟩

set_option maxHeartbeats 1000000 in
theorem endOf_pos (v : Value) (xs : List Int) (t : Nat) (w : World) (h : Rd w v xs) (ht : (t : Int) ≤ 9223372036854775807) (hl : xs.length + 20 ≤ 140737488355328) :
    Calls Try.prog 37 #[v, .int .i64 t] w fun e w' => e = .returned (.tuple #[.int .i64 (endS xs t).1, .int .i64 (endS xs t).2]) ∧ w' = w := by
  have hA := h.allB
  obtain ⟨a, c, rfl, -, -, -, hF⟩ := h.form
  clear h
  have HF : Hid (0 < xs.length → ∃ b off, a = some ⟨b, off, none⟩ ∧ ∀ i, i < xs.length → w.cell? ⟨b, off + i, none⟩ = some (.int .u8 (xs.getD i 0))) := hF
  have HE : Hid (endS xs t = match endL (xs.drop t) with | none => (0, 5) | some m => ((t : Int) + m, 0)) := (by show endS xs t = _; unfold endS; rw [if_neg (by omega), Int.toNat_natCast])
  clear hF
  generalize endS xs t = ES at *
  go_enter Try.func37, Try.ntmps37
  go_wp2
  go_loop [6] (fun i => ∃ k : Nat, i = .int .i64 k ∧ t ≤ k ∧ (k ≤ xs.length ∨ k = t) ∧ endL (xs.drop t) = (endL (xs.drop k)).map (· + (k - t))) (fun i => xs.length - (intOf i).toNat)
  case atStart => exact ⟨t, rfl, Nat.le_refl _, Or.inr rfl, by simp⟩
  case round =>
    obtain ⟨k, rfl, hk, hk2, hend⟩ := hrel
    have HN : Hid (endL (xs.drop t) = (endL (xs.drop k)).map (· + (k - t))) := hend
    have HK : Hid (k ≤ xs.length ∨ k = t) := hk2
    clear hend hk2
    by_cases hlt : k < xs.length
    · obtain ⟨b, off, rfl, hc⟩ := HF.out (by omega)
      have hc1 := hc k hlt
      have hb := hA.getD k
      have hd := drop_cons xs k hlt
      have HD : Hid (xs.drop k = xs.getD k 0 :: xs.drop (k + 1)) := hd
      clear hc hd
      generalize hy : xs.getD k 0 = y at *
      clear hy
      by_cases h128 : y < 128
      · go_wp2
        go_ret2
        refine ⟨?_, rfl⟩
        have e := HN.out
        rw [HD.out, endL_lt _ _ h128] at e
        rw [HE.out, e]
        simp
        omega
      · go_wp2
        go_round
        case rel =>
          refine ⟨k + 1, by go_num, by omega, Or.inl (by omega), ?_⟩
          have e := HN.out
          rw [HD.out, endL_ge _ _ h128] at e
          rw [e, Option.map_map]
          congr 1
          funext m
          simp
          omega
        case measure => simp [intOf]; omega
    · have e : xs.drop k = [] := List.drop_eq_nil_of_le (by omega)
      have e2 := HN.out
      rw [e] at e2
      go_wp2
      go_ret2
      exact ⟨by rw [HE.out, e2]; rfl, rfl⟩

set_option maxHeartbeats 1000000 in
theorem docEnd_pos (v : Value) (xs : List Int) (t : Nat) (w : World) (h : Rd w v xs) (ht : (t : Int) ≤ 9223372036854775807) (hl : xs.length + 20 ≤ 140737488355328) :
    Calls Try.prog 32 #[v, .int .i64 t] w fun e w' => e = .returned (.int .i64 (if (endS xs t).2 = 0 then (endS xs t).1 else -1)) ∧ w' = w := by
  have hA := h.allB
  obtain ⟨a, c, rfl, -, -, -, hF⟩ := h.form
  clear h
  have HF : Hid (0 < xs.length → ∃ b off, a = some ⟨b, off, none⟩ ∧ ∀ i, i < xs.length → w.cell? ⟨b, off + i, none⟩ = some (.int .u8 (xs.getD i 0))) := hF
  have HE : Hid (endS xs t = match endL (xs.drop t) with | none => (0, 5) | some m => ((t : Int) + m, 0)) := (by show endS xs t = _; unfold endS; rw [if_neg (by omega), Int.toNat_natCast])
  clear hF
  generalize endS xs t = ES at *
  generalize hR : (if ES.2 = 0 then ES.1 else -1) = R
  have HR : Hid ((if ES.2 = 0 then ES.1 else -1) = R) := hR
  clear hR
  go_enter Try.func32, Try.ntmps32
  go_wp2
  go_loop [5] (fun i => ∃ k : Nat, i = .int .i64 k ∧ t ≤ k ∧ (k ≤ xs.length ∨ k = t) ∧ endL (xs.drop t) = (endL (xs.drop k)).map (· + (k - t))) (fun i => xs.length - (intOf i).toNat)
  case atStart => exact ⟨t, rfl, Nat.le_refl _, Or.inr rfl, by simp⟩
  case round =>
    obtain ⟨k, rfl, hk, hk2, hend⟩ := hrel
    have HN : Hid (endL (xs.drop t) = (endL (xs.drop k)).map (· + (k - t))) := hend
    have HK : Hid (k ≤ xs.length ∨ k = t) := hk2
    clear hend hk2
    by_cases hlt : k < xs.length
    · obtain ⟨b, off, rfl, hc⟩ := HF.out (by omega)
      have hc1 := hc k hlt
      have hb := hA.getD k
      have hd := drop_cons xs k hlt
      have HD : Hid (xs.drop k = xs.getD k 0 :: xs.drop (k + 1)) := hd
      clear hc hd
      generalize hy : xs.getD k 0 = y at *
      clear hy
      by_cases h128 : y < 128
      · go_wp2
        go_ret
        refine ⟨?_, rfl⟩
        have e := HN.out
        rw [HD.out, endL_lt _ _ h128] at e
        rw [← HR.out, HE.out, e]
        simp
        omega
      · go_wp2
        go_round
        case rel =>
          refine ⟨k + 1, by go_num, by omega, Or.inl (by omega), ?_⟩
          have e := HN.out
          rw [HD.out, endL_ge _ _ h128] at e
          rw [e, Option.map_map]
          congr 1
          funext m
          simp
          omega
        case measure => simp [intOf]; omega
    · have e : xs.drop k = [] := List.drop_eq_nil_of_le (by omega)
      have e2 := HN.out
      rw [e] at e2
      go_wp2
      go_ret
      exact ⟨by rw [← HR.out, HE.out, e2]; rfl, rfl⟩
end Go.Proofs.Ytkidoknklgoffaa.Nu
