/-
  Walks: the document's Pad.
-/
import Derived.Test.YtgoegmaepafopaaDoorShP
namespace Go.Proofs.YtgoegmaepafopaaDoor.Sh
open Go.RowKit

def zerP (j : Nat) : List Int := 128 :: List.replicate j 0
theorem zerP_length (j : Nat) : (zerP j).length = j + 1 := by simp [zerP]
theorem zerP_step (j : Nat) : zerP j ++ [0] = zerP (j + 1) := by
  simp [zerP, List.replicate_succ']
theorem padP_zero (N : Nat) : zerP (zcF N) = padP N 0 := by simp [zerP, padP]
theorem padP_step (N k : Nat) : padP N k ++ [lenB N k] = padP N (k + 1) := by simp [padP, List.range_succ]
theorem zc_last (N j : Nat) (h : j ≤ zcF N) : (((N : Int) % 64 + ((j : Int) + 1) + 8) % 64 = 0) ↔ j = zcF N := by
  unfold zcF at *
  omega

def vLen : Value → Nat
  | .slice _ n _ => n
  | _ => 0

set_option maxHeartbeats 4000000 in
set_option maxRecDepth 100000 in
theorem docPad_any (n : Int) (N : Nat) (w : World) (hN : N = (if n < 0 then 0 else n.toNat)) (h0 : -9223372036854775808 ≤ n) (h1 : n < 9223372036854775808) :
    Calls Tryd.prog 48 #[.int .i64 n] w fun e w' => ∃ v', e = .returned v' ∧ Own 5 w' w.heap.size v' (padF N) ∧ Below w.heap.size w w' := by
  obtain ⟨i0, z0, hi, hz0, hs, hb, hc, -⟩ := info5
  go_enter Tryd.func48, Tryd.ntmps48
  go_upto_region 1 with fail
  go_cut [0] from 5 to 6 (fun s0 wx => s0 = .int .i64 N ∧ wx = w)
  case first =>
    go_wp2
    case inl h =>
      go_meet
      case rel => exact ⟨by rw [hN, if_pos h]; rfl, rfl⟩
    case inr h =>
      go_meet
      case rel => exact ⟨by rw [hN, if_neg (by omega)]; rw [Int.toNat_of_nonneg h], rfl⟩
  case rest =>
    obtain ⟨rfl, hw⟩ := hcut
    subst hw
    have hNb : (N : Int) < 9223372036854775808 := by rw [hN]; split <;> omega
    clear hN h0 h1
    have hzl := zcF_lt N
    have HZC : Kept (∀ j, j ≤ zcF N → ((((N : Int) % 64 + ((j : Int) + 1) + 8) % 64 = 0) ↔ j = zcF N)) := ⟨zc_last N⟩
    have HP0 := Kept.mk (padP_zero N)
    have HO0 : Kept (Own 5 (wc.alloc (.cells #[.int .u8 128] 5)) wc.heap.size (.slice (some ⟨wc.heap.size, 0, none⟩) 1 1) (zerP 0)) := ⟨Own.block wc [128] 5 (by simp)⟩
    have HBW : Kept (Below wc.heap.size wc (wc.alloc (.cells #[.int .u8 128] 5))) := ⟨(Below.refl _ _).alloc (Nat.le_refl _) _⟩
    generalize hzc : zcF N = z at *
    clear hzc
    have HNB := Kept.mk hNb
    clear hNb
    go_wp2
    go_loopw [3] (fun s3 wr => ∃ (j cap : Nat) (a : Option Addr), j ≤ z ∧ s3 = .slice a (j + 1) cap ∧ Own 5 wr wc.heap.size s3 (zerP j) ∧ Below wc.heap.size wc wr) (fun s3 _ => z + 1 - vLen s3)
    case atStart => exact ⟨0, 1, _, by omega, rfl, HO0.out, HBW.out⟩
    case round =>
      clear HO0 HBW
      obtain ⟨j, cap, a, hj, rfl, ho, hbel⟩ := hrel
      have HO := Kept.mk ho
      have hsb := hbel.size
      clear ho
      have hcz := HZC.out j hj
      by_cases hjz : j = z
      · subst hjz
        have hcond := hcz.2 rfl
        clear hcz HZC
        have HO' : Kept (Own 5 wr wc.heap.size (.slice a (j + 1) cap) (padP N 0)) := ⟨by rw [← HP0.out]; exact HO.out⟩
        clear HO HP0
        go_wp2
        clear hcond hj
        go_loopw [3, 4] (fun s3 i wr => ∃ (k : Nat), k ≤ 8 ∧ i = .int .i64 (7 - (k : Int)) ∧ Own 5 wr wc.heap.size s3 (padP N k) ∧ Below wc.heap.size wc wr) (fun _ i _ => (intOf i + 1).toNat)
        case atStart => exact ⟨0, by omega, rfl, HO'.out, hbel⟩
        case round =>
          clear HO' hbel hsb
          obtain ⟨k, hk, rfl, ho, hbel⟩ := hrel
          have HO := Kept.mk ho
          have hsb := hbel.size
          clear ho
          by_cases hlt : k < 8
          · have HPS := Kept.mk (padP_step N k)
            have HLB := lenB_range N k
            have HL : Kept (lenB N k = ((N : Int) * 8 % 18446744073709551616) / 2 ^ (56 - 8 * k) % 256) := ⟨rfl⟩
            have HX : Kept ((IntKind.u64.wrap (8 * IntKind.u64.wrap (N : Int)) / 2 ^ (8 * (7 - k)) % 256) = lenB N k) := ⟨by
              rw [HL.out, IntKind.wrap_u64, IntKind.wrap_u64, show 8 * ((N : Int) % 18446744073709551616) % 18446744073709551616 = (N : Int) * 8 % 18446744073709551616 from by omega, show 8 * (7 - k) = 56 - 8 * k from by omega]⟩
            have hxr : 0 ≤ (IntKind.u64.wrap (8 * IntKind.u64.wrap (N : Int)) / 2 ^ (8 * (7 - k)) % 256) ∧ (IntKind.u64.wrap (8 * IntKind.u64.wrap (N : Int)) / 2 ^ (8 * (7 - k)) % 256) < 256 := by rw [HX.out]; exact HLB
            have HR2 : Kept (Rd (wr.alloc (.cells #[.int .u8 (IntKind.u64.wrap (8 * IntKind.u64.wrap (N : Int)) / 2 ^ (8 * (7 - k)) % 256)] 5)) (.slice (some ⟨wr.heap.size, 0, none⟩) 1 1) [(IntKind.u64.wrap (8 * IntKind.u64.wrap (N : Int)) / 2 ^ (8 * (7 - k)) % 256)]) := ⟨Rd.one wr (IntKind.u64.wrap (8 * IntKind.u64.wrap (N : Int)) / 2 ^ (8 * (7 - k)) % 256) 5 hxr.1 hxr.2⟩
            have HOA := Kept.mk (HO.out.alloc (.cells #[.int .u8 (IntKind.u64.wrap (8 * IntKind.u64.wrap (N : Int)) / 2 ^ (8 * (7 - k)) % 256)] 5))
            have HPL := Kept.mk (padP_length N k)
            have hzl2 := zcF_lt N
            clear hxr HLB HL
            go_wp2_with (at_builtin; refine wpList_append_rd _ rfl _ _ 22 rfl wc.heap.size 5 i0 z0 Tryd.underlying22 hi hz0 hs hb hc _ (padP N k) rfl HOA.out (.slice (some ⟨wr.heap.size, 0, none⟩) 1 1) [(IntKind.u64.wrap (8 * IntKind.u64.wrap (N : Int)) / 2 ^ (8 * (7 - k)) % 256)] rfl HR2.out (by rw [HPL.out]; simp; omega) (by simp; omega) ?_; intro v' w' hown hgrow hat)
            have hb' : Below wc.heap.size wc w' := (hbel.alloc (by omega) _).grown hgrow (by simp; omega) (own_ge HOA.out)
            rw [HX.out, HPS.out] at hown
            go_roundw
            case rel => exact ⟨k + 1, by omega, by go_num, hown, hb'⟩
            case measure => simp [intOf]; omega
          · obtain rfl : k = 8 := by omega
            go_wp2
            go_ret
            exact ⟨_, rfl, HO.out, hbel⟩
      · have hcond : ¬ (((N : Int) % 64 + ((j : Int) + 1) + 8) % 64 = 0) := fun h => hjz (hcz.1 h)
        clear hcz HZC
        have HZS := Kept.mk (zerP_step j)
        have HZL := Kept.mk (zerP_length j)
        have hr2 : Rd (wr.alloc (.cells #[.int .u8 0] 5)) (.slice (some ⟨wr.heap.size, 0, none⟩) 1 1) [0] := Rd.one wr 0 5 (by omega) (by omega)
        have HR2 := Kept.mk hr2
        have HOA := Kept.mk (HO.out.alloc (.cells #[.int .u8 0] 5))
        clear hr2
        go_wp2_with (at_builtin; refine wpList_append_rd _ rfl _ _ 22 rfl wc.heap.size 5 i0 z0 Tryd.underlying22 hi hz0 hs hb hc (.slice a (j + 1) cap) (zerP j) rfl HOA.out (.slice (some ⟨wr.heap.size, 0, none⟩) 1 1) [0] rfl HR2.out (by rw [HZL.out]; simp; omega) (by simp; omega) ?_; intro v' w' hown hgrow hat)
        have hb' : Below wc.heap.size wc w' := (hbel.alloc (by omega) _).grown hgrow (by simp; omega) (own_ge HOA.out)
        obtain ⟨g', cap', hv', -⟩ := hown.open (by simp)
        subst hv'
        go_roundw
        case rel =>
          have hlen : (zerP j ++ [0]).length = j + 1 + 1 := by rw [HZS.out, zerP_length]
          exact ⟨j + 1, cap', _, by omega, by rw [hlen], by rw [← HZS.out]; exact hown, hb'⟩
        case measure =>
          have hlen : (zerP j ++ [0]).length = j + 1 + 1 := by rw [HZS.out, zerP_length]
          simp only [vLen, hlen]
          omega
end Go.Proofs.YtgoegmaepafopaaDoor.Sh
