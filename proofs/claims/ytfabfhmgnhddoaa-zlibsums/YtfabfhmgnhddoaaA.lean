/-
  Walks: Adler, the program's and the document's.
-/
import Derived.Test.YtfabfhmgnhddoaaM
namespace Go.Proofs.Ytfabfhmgnhddoaa
open Go.RowKit

set_option maxHeartbeats 1000000 in
set_option maxRecDepth 100000 in
theorem adler_any {S : Nat → Prop} (w : World) (v : Value) (l : List Int) (hl : AllB l) (hr : Rd .u8 S w v l) :
    Calls Try.prog 5 #[v] w fun e w' => e = .returned (.int .u32 (adlF l)) ∧ w' = w := by
  obtain ⟨va, vc, rfl, -, hlc, hcm⟩ := hr.form
  have KR := Kept.mk hr
  have KL := Kept.mk hl
  have hlen : l.length ≤ 9223372036854775807 := by unfold maxLen at hcm; omega
  clear hr hl hcm
  go_enter Try.func5, Try.ntmps5
  go_wp2
  go_loopw [3, 4, 9, 6] (fun s3 s4 s9 _ wr => wr = w ∧ ∃ (k : Nat) (a b : Int), k ≤ l.length ∧ s9 = .int .i64 k ∧ s3 = .int .u32 a ∧ s4 = .int .u32 b ∧ adlP (l.drop k) a b = adlP l 1 0 ∧ 0 ≤ a ∧ a < 65521 ∧ 0 ≤ b ∧ b < 65521) (fun _ _ s9 _ _ => l.length - (intOf s9).toNat)
  case atStart => exact ⟨rfl, 0, 1, 0, by omega, rfl, rfl, rfl, by simp, by omega, by omega, by omega, by omega⟩
  case round =>
    obtain ⟨rfl, k, a, b, hk, rfl, rfl, rfl, hz, ha0, ha1, hb0, hb1⟩ := hrel
    by_cases hlt : k < l.length
    · have hlti : (k : Int) < (l.length : Int) := by omega
      obtain ⟨bb, off, cc, hva, -, -, -, -, hcells⟩ := KR.out.open (by omega)
      injection hva with hva1 hva2 hva3
      subst hva1
      have ck := hcells k hlt
      have hd : l.drop k = l.getD k 0 :: l.drop (k + 1) := by
        rw [List.drop_eq_getElem_cons hlt]
        simp [List.getD, List.getElem?_eq_getElem hlt]
      rw [hd, adlP] at hz
      have hby := KL.out.getD (by omega) k
      clear hd hcells
      generalize l.getD k 0 = x at *
      have KZ := Kept.mk hz
      clear hz
      have hx0 := hby.1
      have hx1 := hby.2
      clear hby
      have hm0 : 0 ≤ (a + x) % 65521 := by omega
      have hm1 : (a + x) % 65521 < 65521 := by omega
      go_wp2
      go_roundw
      case rel => exact ⟨trivial, k + 1, (a + x) % 65521, (b + (a + x) % 65521) % 65521, by omega, by go_num, rfl, rfl, KZ.out, by omega, by omega, by omega, by omega⟩
      case measure => simp [intOf]; omega
    · have hd : l.drop k = [] := List.eq_nil_of_length_eq_zero (by simp; omega)
      rw [hd, adlP] at hz
      have KE : Kept (adlF l = 65536 * b + a) := ⟨by unfold adlF; rw [← hz]⟩
      have hor := adl_or a b ha0 ha1 hb0 hb1
      clear hz hd
      go_wp2
      go_ret
      rw [KE.out]
      rw [← hor]
      exact ⟨rfl, rfl⟩

set_option maxHeartbeats 1000000 in
set_option maxRecDepth 100000 in
theorem radler_any {S : Nat → Prop} (w : World) (v : Value) (l : List Int) (hl : AllB l) (hr : Rd .u8 S w v l) :
    Calls Try.prog 7 #[v] w fun e w' => e = .returned (.int .u32 (adlF l)) ∧ w' = w := by
  obtain ⟨va, vc, rfl, -, hlc, hcm⟩ := hr.form
  have KR := Kept.mk hr
  have KL := Kept.mk hl
  have hlen : l.length ≤ 9223372036854775807 := by unfold maxLen at hcm; omega
  clear hr hl hcm
  go_enter Try.func7, Try.ntmps7
  go_wp2
  go_loopw [3, 4, 9, 6] (fun s3 s4 s9 _ wr => wr = w ∧ ∃ (k : Nat) (a b : Int), k ≤ l.length ∧ s9 = .int .i64 k ∧ s3 = .int .u32 a ∧ s4 = .int .u32 b ∧ adlP (l.drop k) a b = adlP l 1 0 ∧ 0 ≤ a ∧ a < 65521 ∧ 0 ≤ b ∧ b < 65521) (fun _ _ s9 _ _ => l.length - (intOf s9).toNat)
  case atStart => exact ⟨rfl, 0, 1, 0, by omega, rfl, rfl, rfl, by simp, by omega, by omega, by omega, by omega⟩
  case round =>
    obtain ⟨rfl, k, a, b, hk, rfl, rfl, rfl, hz, ha0, ha1, hb0, hb1⟩ := hrel
    by_cases hlt : k < l.length
    · have hlti : (k : Int) < (l.length : Int) := by omega
      obtain ⟨bb, off, cc, hva, -, -, -, -, hcells⟩ := KR.out.open (by omega)
      injection hva with hva1 hva2 hva3
      subst hva1
      have ck := hcells k hlt
      have hd : l.drop k = l.getD k 0 :: l.drop (k + 1) := by
        rw [List.drop_eq_getElem_cons hlt]
        simp [List.getD, List.getElem?_eq_getElem hlt]
      rw [hd, adlP] at hz
      have hby := KL.out.getD (by omega) k
      clear hd hcells
      generalize l.getD k 0 = x at *
      have KZ := Kept.mk hz
      clear hz
      have hx0 := hby.1
      have hx1 := hby.2
      clear hby
      have hm0 : 0 ≤ (a + x) % 65521 := by omega
      have hm1 : (a + x) % 65521 < 65521 := by omega
      go_wp2
      go_roundw
      case rel => exact ⟨trivial, k + 1, (a + x) % 65521, (b + (a + x) % 65521) % 65521, by omega, by go_num, rfl, rfl, KZ.out, by omega, by omega, by omega, by omega⟩
      case measure => simp [intOf]; omega
    · have hd : l.drop k = [] := List.eq_nil_of_length_eq_zero (by simp; omega)
      rw [hd, adlP] at hz
      have KE : Kept (adlF l = 65536 * b + a) := ⟨by unfold adlF; rw [← hz]⟩
      have hor := adl_or a b ha0 ha1 hb0 hb1
      clear hz hd
      go_wp2
      go_ret
      rw [KE.out]
      exact ⟨rfl, rfl⟩
end Go.Proofs.Ytfabfhmgnhddoaa
