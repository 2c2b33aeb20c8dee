/-
  Walks: Crc, the program's and the document's.
-/
import Derived.Test.YtfabfhmgnhddoaaA
namespace Go.Proofs.Ytfabfhmgnhddoaa
open Go.RowKit

set_option maxHeartbeats 1000000 in
set_option maxRecDepth 100000 in
theorem crc_any {S : Nat → Prop} (w : World) (v : Value) (l : List Int) (hl : AllB l) (hr : Rd .u8 S w v l) :
    Calls Try.prog 8 #[v] w fun e w' => e = .returned (.int .u32 (crcF l)) ∧ w' = w := by
  obtain ⟨va, vc, rfl, -, hlc, hcm⟩ := hr.form
  have KR := Kept.mk hr
  have KL := Kept.mk hl
  have hlen : l.length ≤ 9223372036854775807 := by unfold maxLen at hcm; omega
  clear hr hl hcm
  go_enter Try.func8, Try.ntmps8
  go_wp2
  go_loopw [3, 9] (fun s3 s9 wr => wr = w ∧ ∃ (k : Nat) (c : Int), k ≤ l.length ∧ s9 = .int .i64 k ∧ s3 = .int .u32 c ∧ crcP (l.drop k) c = crcP l 4294967295 ∧ 0 ≤ c ∧ c < 4294967296) (fun _ s9 _ => l.length - (intOf s9).toNat)
  case atStart => exact ⟨rfl, 0, 4294967295, by omega, rfl, rfl, by simp, by omega, by omega⟩
  case round =>
    obtain ⟨rfl, k, c, hk, rfl, rfl, hz, hc0, hc1⟩ := hrel
    by_cases hlt : k < l.length
    · have hlti : (k : Int) < (l.length : Int) := by omega
      obtain ⟨bb, off, cc, hva, -, -, -, -, hcells⟩ := KR.out.open (by omega)
      injection hva with hva1 hva2 hva3
      subst hva1 hva3
      clear hva2
      have ck := hcells k hlt
      have hd : l.drop k = l.getD k 0 :: l.drop (k + 1) := by
        rw [List.drop_eq_getElem_cons hlt]
        simp [List.getD, List.getElem?_eq_getElem hlt]
      rw [hd, crcP] at hz
      have hby := KL.out.getD (by omega) k
      clear hd hcells
      generalize l.getD k 0 = x at *
      have KZ := Kept.mk hz
      clear hz
      have hx0 := hby.1
      have hx1 := hby.2
      clear hby
      have hy := bits_w .xor c x
      obtain ⟨y, hyy⟩ : ∃ y, bits .xor .u32 c x = y := ⟨_, rfl⟩
      rw [hyy] at hy KZ
      have hy0 := hy.1
      have hy1 := hy.2
      clear hy
      go_wp2
      go_loopw [3, 17] (fun s3 sj wq => wq = wr ∧ ∃ (j : Nat) (z : Int), j ≤ 8 ∧ sj = .int .i64 j ∧ s3 = .int .u32 z ∧ crcN (8 - j) z = crcN 8 y ∧ 0 ≤ z ∧ z < 4294967296) (fun _ sj _ => 8 - (intOf sj).toNat)
      case atStart => exact ⟨rfl, 0, y, by omega, rfl, by rw [← hyy], rfl, hy0, hy1⟩
      case round =>
        obtain ⟨rfl, j, z, hj, rfl, rfl, hn, hz0, hz1⟩ := hrel
        clear hyy
        by_cases hlj : j < 8
        · have hlji : (j : Int) < 8 := by omega
          have hnj : ¬ (8 : Int) ≤ (j : Int) := by omega
          rw [show 8 - j = (8 - (j + 1)) + 1 from by omega, crcN] at hn
          have hand := and_one z hz0 hz1
          by_cases hb : z % 2 = 1
          · have hS : crcS z = bits .xor .u32 (z / 2) 3988292384 := by unfold crcS; rw [if_pos hb]
            have hSr := bits_w .xor (z / 2) 3988292384
            rw [hS] at hn
            have KN := Kept.mk hn
            have KS := Kept.mk hSr
            clear hn hSr hS
            go_wp2
            go_roundw
            case rel => exact ⟨trivial, j + 1, _, by omega, by go_num, rfl, KN.out, KS.out.1, KS.out.2⟩
            case measure => simp [intOf]; omega
          · have hS : crcS z = z / 2 := by unfold crcS; rw [if_neg hb]
            have hb0 : z % 2 = 0 := by omega
            rw [hS] at hn
            have KN := Kept.mk hn
            clear hn hS
            go_wp2
            go_roundw
            case rel => exact ⟨trivial, j + 1, _, by omega, by go_num, rfl, KN.out, by omega, by omega⟩
            case measure => simp [intOf]; omega
        · have hj8 : j = 8 := by omega
          subst hj8
          have hn' : z = crcN 8 y := hn
          rw [← hn'] at KZ
          clear hn hn'
          go_wp2
          go_roundw
          case rel => exact ⟨trivial, k + 1, z, by omega, by go_num, rfl, KZ.out, hz0, hz1⟩
          case measure => simp [intOf]; omega
    · have hd : l.drop k = [] := List.eq_nil_of_length_eq_zero (by simp; omega)
      rw [hd, crcP] at hz
      have KE : Kept (crcF l = bits .xor .u32 IntKind.u32.max c) := ⟨by unfold crcF; rw [← hz]⟩
      clear hz hd
      go_wp2
      go_ret
      rw [KE.out]

      exact ⟨rfl, rfl⟩

set_option maxHeartbeats 1000000 in
set_option maxRecDepth 100000 in
theorem rcrc_any {S : Nat → Prop} (w : World) (v : Value) (l : List Int) (hl : AllB l) (hr : Rd .u8 S w v l) :
    Calls Try.prog 9 #[v] w fun e w' => e = .returned (.int .u32 (crcF l)) ∧ w' = w := by
  obtain ⟨va, vc, rfl, -, hlc, hcm⟩ := hr.form
  have KR := Kept.mk hr
  have KL := Kept.mk hl
  have hlen : l.length ≤ 9223372036854775807 := by unfold maxLen at hcm; omega
  clear hr hl hcm
  go_enter Try.func9, Try.ntmps9
  go_wp2
  go_loopw [3, 9] (fun s3 s9 wr => wr = w ∧ ∃ (k : Nat) (c : Int), k ≤ l.length ∧ s9 = .int .i64 k ∧ s3 = .int .u32 c ∧ crcP (l.drop k) c = crcP l 4294967295 ∧ 0 ≤ c ∧ c < 4294967296) (fun _ s9 _ => l.length - (intOf s9).toNat)
  case atStart => exact ⟨rfl, 0, 4294967295, by omega, rfl, rfl, by simp, by omega, by omega⟩
  case round =>
    obtain ⟨rfl, k, c, hk, rfl, rfl, hz, hc0, hc1⟩ := hrel
    by_cases hlt : k < l.length
    · have hlti : (k : Int) < (l.length : Int) := by omega
      obtain ⟨bb, off, cc, hva, -, -, -, -, hcells⟩ := KR.out.open (by omega)
      injection hva with hva1 hva2 hva3
      subst hva1 hva3
      clear hva2
      have ck := hcells k hlt
      have hd : l.drop k = l.getD k 0 :: l.drop (k + 1) := by
        rw [List.drop_eq_getElem_cons hlt]
        simp [List.getD, List.getElem?_eq_getElem hlt]
      rw [hd, crcP] at hz
      have hby := KL.out.getD (by omega) k
      clear hd hcells
      generalize l.getD k 0 = x at *
      have KZ := Kept.mk hz
      clear hz
      have hx0 := hby.1
      have hx1 := hby.2
      clear hby
      have hy := bits_w .xor c x
      obtain ⟨y, hyy⟩ : ∃ y, bits .xor .u32 c x = y := ⟨_, rfl⟩
      rw [hyy] at hy KZ
      have hy0 := hy.1
      have hy1 := hy.2
      clear hy
      go_wp2
      go_loopw [3, 6] (fun s3 sj wq => wq = wr ∧ ∃ (j : Nat) (z : Int), j ≤ 8 ∧ sj = .int .i64 j ∧ s3 = .int .u32 z ∧ crcN (8 - j) z = crcN 8 y ∧ 0 ≤ z ∧ z < 4294967296) (fun _ sj _ => 8 - (intOf sj).toNat)
      case atStart => exact ⟨rfl, 0, y, by omega, rfl, by rw [← hyy], rfl, hy0, hy1⟩
      case round =>
        obtain ⟨rfl, j, z, hj, rfl, rfl, hn, hz0, hz1⟩ := hrel
        clear hyy
        by_cases hlj : j < 8
        · have hlji : (j : Int) < 8 := by omega
          have hnj : ¬ (8 : Int) ≤ (j : Int) := by omega
          rw [show 8 - j = (8 - (j + 1)) + 1 from by omega, crcN] at hn
          have hand := and_one z hz0 hz1
          by_cases hb : z % 2 = 1
          · have hS : crcS z = bits .xor .u32 (z / 2) 3988292384 := by unfold crcS; rw [if_pos hb]
            have hSr := bits_w .xor (z / 2) 3988292384
            rw [hS] at hn
            have KN := Kept.mk hn
            have KS := Kept.mk hSr
            clear hn hSr hS
            go_wp2
            go_roundw
            case rel => exact ⟨trivial, j + 1, _, by omega, by go_num, rfl, KN.out, KS.out.1, KS.out.2⟩
            case measure => simp [intOf]; omega
          · have hS : crcS z = z / 2 := by unfold crcS; rw [if_neg hb]
            have hb0 : z % 2 = 0 := by omega
            rw [hS] at hn
            have KN := Kept.mk hn
            clear hn hS
            go_wp2
            go_roundw
            case rel => exact ⟨trivial, j + 1, _, by omega, by go_num, rfl, KN.out, by omega, by omega⟩
            case measure => simp [intOf]; omega
        · have hj8 : j = 8 := by omega
          subst hj8
          have hn' : z = crcN 8 y := hn
          rw [← hn'] at KZ
          clear hn hn'
          go_wp2
          go_roundw
          case rel => exact ⟨trivial, k + 1, z, by omega, by go_num, rfl, KZ.out, hz0, hz1⟩
          case measure => simp [intOf]; omega
    · have hd : l.drop k = [] := List.eq_nil_of_length_eq_zero (by simp; omega)
      rw [hd, crcP] at hz
      have KE : Kept (crcF l = bits .xor .u32 IntKind.u32.max c) := ⟨by unfold crcF; rw [← hz]⟩
      clear hz hd
      go_wp2
      go_ret
      rw [KE.out]

      exact ⟨rfl, rfl⟩
end Go.Proofs.Ytfabfhmgnhddoaa
