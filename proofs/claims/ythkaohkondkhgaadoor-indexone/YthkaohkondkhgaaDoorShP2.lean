/-
  Walks: Pad.
-/
import Derived.Test.YthkaohkondkhgaaDoorShB2
import Derived.Deep.CutRange
import Derived.OwnWalk
namespace Go.Proofs.YthkaohkondkhgaaDoor.Sh
open Go.RowKit

/-- How many zeros a padding has. -/
def zcF (N : Nat) : Nat := (64 - (N % 64 + 9) % 64) % 64
/-- Byte i of the length's eight. -/
def lenB (N i : Nat) : Int := ((N : Int) * 8 % 18446744073709551616) / 2 ^ (56 - 8 * i) % 256
/-- The padding, up to byte k of the length. -/
def padP (N k : Nat) : List Int := 128 :: (List.replicate (zcF N) 0 ++ (List.range k).map (lenB N))
def padK (N k : Nat) : List Int := padP N k ++ List.replicate (8 - k) 0
def padF (N : Nat) : List Int := padP N 8
theorem padP_length (N k : Nat) : (padP N k).length = 1 + zcF N + k := by
  simp [padP]
  omega
theorem padK_length (N k : Nat) (h : k ≤ 8) : (padK N k).length = 1 + zcF N + 8 := by
  rw [padK, List.length_append, padP_length, List.length_replicate]
  omega
theorem padK_step (N k : Nat) (h : k < 8) : (padK N k).set (1 + zcF N + k) (lenB N k) = padK N (k + 1) := by
  have e : List.replicate (8 - k) (0 : Int) = 0 :: List.replicate (8 - (k + 1)) 0 := by
    rw [show 8 - k = (8 - (k + 1)) + 1 from by omega, List.replicate_succ]
  rw [padK, e, List.set_append_right _ _ (by rw [padP_length]; omega), padP_length, Nat.sub_self, List.set_cons_zero, padK]
  have e2 : padP N (k + 1) = padP N k ++ [lenB N k] := by
    simp [padP, List.range_succ]
  rw [e2, List.append_assoc]
  rfl
theorem padK_all (N : Nat) : padK N 8 = padF N := by simp [padK, padF]
theorem padK_none (N : Nat) : padK N 0 = (List.replicate (1 + zcF N + 8) (0 : Int)).set 0 128 := by
  rw [show 1 + zcF N + 8 = (zcF N + 8) + 1 from by omega, List.replicate_succ, List.set_cons_zero, padK, padP]
  simp only [List.range_zero, List.map_nil, List.append_nil, List.cons_append, List.replicate_append_replicate]
theorem lenB_range (N i : Nat) : 0 ≤ lenB N i ∧ lenB N i < 256 := by
  unfold lenB
  omega
theorem padF_allB (N : Nat) : AllB (padF N) := by
  intro x hx
  simp only [padF, padP, List.mem_cons, List.mem_append, List.mem_replicate, List.mem_map] at hx
  rcases hx with rfl | ⟨_, rfl⟩ | ⟨i, _, rfl⟩
  · omega
  · omega
  · exact lenB_range N i
theorem zcF_lt (N : Nat) : zcF N < 64 := by
  unfold zcF
  omega

theorem made_zeros (n : Nat) : (madeCells (Value.int IntKind.u8 0).cells n).toList = cellsU8 (List.replicate n 0) := by
  have h : ∀ i : Nat, ((Value.int IntKind.u8 0).cells)[i % (Value.int IntKind.u8 0).cells.size]! = Value.int IntKind.u8 0 := fun i => by
    have e : (Value.int IntKind.u8 0).cells = #[Value.int IntKind.u8 0] := rfl
    rw [e]
    simp [Nat.mod_one]
  simp only [madeCells, h, cellsU8, List.map_replicate]
  simp [List.map_const']
theorem Own.cellAt {e : TypeId} {w : World} {base g n cap i : Nat} {xs : List Int} (h : Own e w base (.slice (some ⟨g, 0, none⟩) n cap) xs) (hi : i < xs.length) : w.cell? ⟨g, i, none⟩ = some (.int .u8 (xs.getD i 0)) ∧ w.frozen? ⟨g, i, none⟩ = false := by
  obtain ⟨g', cap', hv, _, _, _, hc, hf⟩ := h.open (by omega)
  injection hv with e1 e2 e3
  injection e1 with e1
  injection e1 with e4 e5
  subst e4
  exact ⟨hc i hi, hf i⟩

set_option maxHeartbeats 2000000 in
set_option maxRecDepth 100000 in
theorem pad_any (n : Int) (N : Nat) (w : World) (hN : N = (if n < 0 then 0 else n.toNat)) (h0 : -9223372036854775808 ≤ n) (h1 : n < 9223372036854775808) :
    Calls Tryd.prog 46 #[.int .i64 n] w fun e w' => ∃ v', e = .returned v' ∧ Own 5 w' w.heap.size v' (padF N) ∧ Below w.heap.size w w' := by
  go_enter Tryd.func46, Tryd.ntmps46
  go_upto_region 1 with fail
  go_cut [0] from 8 to 9 (fun s0 wx => s0 = .int .i64 N ∧ wx = w)
  case first =>
    go_wp2
    case inl h =>
      go_meet
      case rel => exact ⟨by rw [hN, if_pos h]; rfl, rfl⟩
    case inr h =>
      go_meet
      case rel => exact ⟨by rw [hN, if_neg (by omega)]; rw [Int.toNat_of_nonneg h], rfl⟩
  case rest =>
    obtain ⟨rfl, hw⟩ := hcut
    subst hw
    have hNb : (N : Int) < 9223372036854775808 := by rw [hN]; split <;> omega
    clear hN h0 h1
    go_upto_region 4 with fail
    have hz : (64 - ((N : Int) + 9) % 64) % 64 = ((zcF N : Nat) : Int) := by unfold zcF; omega
    rw [hz]
    clear hz
    have hzl := zcF_lt N
    have HK0 := Kept.mk (padK_none N)
    have HKA := Kept.mk (padK_all N)
    have HKS : Kept (∀ k, k < 8 → (padK N k).set (1 + zcF N + k) (lenB N k) = padK N (k + 1)) := ⟨padK_step N⟩
    have HKL : Kept (∀ k, k ≤ 8 → (padK N k).length = 1 + zcF N + 8) := ⟨padK_length N⟩
    generalize zcF N = z at *
    obtain ⟨i0, z0, hi, hz0, hs, hb, hc, hzv⟩ := info5
    subst hzv
    go_wp2_with fail
    obtain ⟨w1, hrun, hown, hgrow⟩ := run_make_full (P := Tryd.prog) wc wc.heap.size 25 5 i0 (.int .u8 0) 1 Tryd.underlying25 hi hz0 hs .i64 .i64 (1 + z + 8) (by rw [hb]; omega) (by unfold maxLen; omega) (Nat.le_refl _)
    have hcast : (((1 + z + 8 : Nat) : Nat) : Int) = 1 + (z : Int) + 8 := by omega
    rw [hcast] at hrun
    rw [hrun]
    have hO : Own 5 w1 wc.heap.size (.slice (some ⟨wc.heap.size, 0, none⟩) (1 + z + 8) (1 + z + 8)) (List.replicate (1 + z + 8) 0) := by
      unfold Own
      rw [List.length_replicate]
      have e : (madeCells (Value.int IntKind.u8 0).cells ((1 + z + 8) * 1)).toList = cellsU8 (List.replicate (1 + z + 8) 0) := by
        rw [Nat.mul_one]
        exact made_zeros (1 + z + 8)
      rw [← e]
      exact hown
    have hbel : Below wc.heap.size wc w1 := (Below.refl _ wc).grown hgrow (Nat.le_refl _) (by intro k hk; cases hk)
    have HO := Kept.mk hO
    obtain ⟨c0, f0⟩ := hO.cellAt (i := 0) (by simp)
    clear hown hgrow hrun hcast hO hi hz0 hs hb hc
    simp only [Result.andThen_ok]
    go_upto_region 7 with fail
    rw [IntKind.wrap_u64]
    have HL : Kept (∀ k, lenB N k = ((N : Int) * 8 % 18446744073709551616) / 2 ^ (56 - 8 * k) % 256) := ⟨fun k => rfl⟩
    generalize (N : Int) * 8 % 18446744073709551616 = L at *
    have hO1 : Own 5 (w1.setCell ⟨wc.heap.size, 0, none⟩ (.int .u8 128)) wc.heap.size (.slice (some ⟨wc.heap.size, 0, none⟩) (1 + z + 8) (1 + z + 8)) (padK N 0) := by
      rw [HK0.out]
      exact HO.out.set 0 128
    have hbel1 : Below wc.heap.size wc (w1.setCell ⟨wc.heap.size, 0, none⟩ (.int .u8 128)) := hbel.setCell (Nat.le_refl _) _
    clear HO hbel c0 f0 HK0 hNb
    generalize w1.setCell ⟨wc.heap.size, 0, none⟩ (.int .u8 128) = w2 at *
    go_wp2
    go_loopw [26] (fun i wr => ∃ (k : Nat), k ≤ 8 ∧ i = .int .i64 k ∧ Own 5 wr wc.heap.size (.slice (some ⟨wc.heap.size, 0, none⟩) (1 + z + 8) (1 + z + 8)) (padK N k) ∧ Below wc.heap.size wc wr) (fun i _ => 8 - (intOf i).toNat)
    case atStart => exact ⟨0, by omega, rfl, hO1, hbel1⟩
    case round =>
      clear hO1 hbel1
      obtain ⟨k, hk, rfl, hO1, hbel1⟩ := hrel
      by_cases hlt : k < 8
      · obtain ⟨ck, fk⟩ := hO1.cellAt (i := 1 + z + k) (by rw [HKL.out k hk]; omega)
        have HO := Kept.mk hO1
        clear hO1
        generalize (padK N k).getD (1 + z + k) 0 = old at *
        have hm : (1 + (z : Int) + (k : Int)).toNat = 1 + z + k := by omega
        go_wp2
        go_roundw
        case rel =>
          refine ⟨k + 1, by omega, by go_num, ?_, hbel1.setCell (Nat.le_refl _) _⟩
          rw [← HKS.out k hlt, HL.out k]
          exact HO.out.set _ _
        case measure => simp [intOf]; omega
      · obtain rfl : k = 8 := by omega
        rw [HKA.out] at hO1
        have HO := Kept.mk hO1
        clear hO1
        go_wp2
        go_ret
        exact ⟨_, rfl, HO.out, hbel1⟩


def zerP (j : Nat) : List Int := 128 :: List.replicate j 0
theorem zerP_length (j : Nat) : (zerP j).length = j + 1 := by simp [zerP]
theorem zerP_step (j : Nat) : zerP j ++ [0] = zerP (j + 1) := by
  simp [zerP, List.replicate_succ']
theorem padP_zero (N : Nat) : zerP (zcF N) = padP N 0 := by simp [zerP, padP]
theorem padP_step (N k : Nat) : padP N k ++ [lenB N k] = padP N (k + 1) := by simp [padP, List.range_succ]
theorem zc_last (N j : Nat) (h : j ≤ zcF N) : (((N : Int) % 64 + ((j : Int) + 1) + 8) % 64 = 0) ↔ j = zcF N := by
  unfold zcF at *
  omega

def vLen : Value → Nat
  | .slice _ n _ => n
  | _ => 0

set_option maxHeartbeats 4000000 in
set_option maxRecDepth 100000 in
theorem docPad_any (n : Int) (N : Nat) (w : World) (hN : N = (if n < 0 then 0 else n.toNat)) (h0 : -9223372036854775808 ≤ n) (h1 : n < 9223372036854775808) :
    Calls Tryd.prog 70 #[.int .i64 n] w fun e w' => ∃ v', e = .returned v' ∧ Own 5 w' w.heap.size v' (padF N) ∧ Below w.heap.size w w' := by
  obtain ⟨i0, z0, hi, hz0, hs, hb, hc, -⟩ := info5
  go_enter Tryd.func70, Tryd.ntmps70
  go_upto_region 1 with fail
  go_cut [0] from 5 to 6 (fun s0 wx => s0 = .int .i64 N ∧ wx = w)
  case first =>
    go_wp2
    case inl h =>
      go_meet
      case rel => exact ⟨by rw [hN, if_pos h]; rfl, rfl⟩
    case inr h =>
      go_meet
      case rel => exact ⟨by rw [hN, if_neg (by omega)]; rw [Int.toNat_of_nonneg h], rfl⟩
  case rest =>
    obtain ⟨rfl, hw⟩ := hcut
    subst hw
    have hNb : (N : Int) < 9223372036854775808 := by rw [hN]; split <;> omega
    clear hN h0 h1
    have hzl := zcF_lt N
    have HZC : Kept (∀ j, j ≤ zcF N → ((((N : Int) % 64 + ((j : Int) + 1) + 8) % 64 = 0) ↔ j = zcF N)) := ⟨zc_last N⟩
    have HP0 := Kept.mk (padP_zero N)
    have HO0 : Kept (Own 5 (wc.alloc (.cells #[.int .u8 128] 5)) wc.heap.size (.slice (some ⟨wc.heap.size, 0, none⟩) 1 1) (zerP 0)) := ⟨Own.block wc [128] 5 (by simp)⟩
    have HBW : Kept (Below wc.heap.size wc (wc.alloc (.cells #[.int .u8 128] 5))) := ⟨(Below.refl _ _).alloc (Nat.le_refl _) _⟩
    generalize hzc : zcF N = z at *
    clear hzc
    have HNB := Kept.mk hNb
    clear hNb
    go_wp2
    go_loopw [3] (fun s3 wr => ∃ (j cap : Nat) (a : Option Addr), j ≤ z ∧ s3 = .slice a (j + 1) cap ∧ Own 5 wr wc.heap.size s3 (zerP j) ∧ Below wc.heap.size wc wr) (fun s3 _ => z + 1 - vLen s3)
    case atStart => exact ⟨0, 1, _, by omega, rfl, HO0.out, HBW.out⟩
    case round =>
      clear HO0 HBW
      obtain ⟨j, cap, a, hj, rfl, ho, hbel⟩ := hrel
      have HO := Kept.mk ho
      have hsb := hbel.size
      clear ho
      have hcz := HZC.out j hj
      by_cases hjz : j = z
      · subst hjz
        have hcond := hcz.2 rfl
        clear hcz HZC
        have HO' : Kept (Own 5 wr wc.heap.size (.slice a (j + 1) cap) (padP N 0)) := ⟨by rw [← HP0.out]; exact HO.out⟩
        clear HO HP0
        go_wp2
        clear hcond hj
        go_loopw [3, 4] (fun s3 i wr => ∃ (k : Nat), k ≤ 8 ∧ i = .int .i64 (7 - (k : Int)) ∧ Own 5 wr wc.heap.size s3 (padP N k) ∧ Below wc.heap.size wc wr) (fun _ i _ => (intOf i + 1).toNat)
        case atStart => exact ⟨0, by omega, rfl, HO'.out, hbel⟩
        case round =>
          clear HO' hbel hsb
          obtain ⟨k, hk, rfl, ho, hbel⟩ := hrel
          have HO := Kept.mk ho
          have hsb := hbel.size
          clear ho
          by_cases hlt : k < 8
          · have HPS := Kept.mk (padP_step N k)
            have HLB := lenB_range N k
            have HL : Kept (lenB N k = ((N : Int) * 8 % 18446744073709551616) / 2 ^ (56 - 8 * k) % 256) := ⟨rfl⟩
            have HX : Kept ((IntKind.u64.wrap (8 * IntKind.u64.wrap (N : Int)) / 2 ^ (8 * (7 - k)) % 256) = lenB N k) := ⟨by
              rw [HL.out, IntKind.wrap_u64, IntKind.wrap_u64, show 8 * ((N : Int) % 18446744073709551616) % 18446744073709551616 = (N : Int) * 8 % 18446744073709551616 from by omega, show 8 * (7 - k) = 56 - 8 * k from by omega]⟩
            have hxr : 0 ≤ (IntKind.u64.wrap (8 * IntKind.u64.wrap (N : Int)) / 2 ^ (8 * (7 - k)) % 256) ∧ (IntKind.u64.wrap (8 * IntKind.u64.wrap (N : Int)) / 2 ^ (8 * (7 - k)) % 256) < 256 := by rw [HX.out]; exact HLB
            have HR2 : Kept (Rd (wr.alloc (.cells #[.int .u8 (IntKind.u64.wrap (8 * IntKind.u64.wrap (N : Int)) / 2 ^ (8 * (7 - k)) % 256)] 5)) (.slice (some ⟨wr.heap.size, 0, none⟩) 1 1) [(IntKind.u64.wrap (8 * IntKind.u64.wrap (N : Int)) / 2 ^ (8 * (7 - k)) % 256)]) := ⟨Rd.one wr (IntKind.u64.wrap (8 * IntKind.u64.wrap (N : Int)) / 2 ^ (8 * (7 - k)) % 256) 5 hxr.1 hxr.2⟩
            have HOA := Kept.mk (HO.out.alloc (.cells #[.int .u8 (IntKind.u64.wrap (8 * IntKind.u64.wrap (N : Int)) / 2 ^ (8 * (7 - k)) % 256)] 5))
            have HPL := Kept.mk (padP_length N k)
            have hzl2 := zcF_lt N
            clear hxr HLB HL
            go_wp2_with (at_builtin; refine wpList_append_rd _ rfl _ _ 25 rfl wc.heap.size 5 i0 z0 Tryd.underlying25 hi hz0 hs hb hc _ (padP N k) rfl HOA.out (.slice (some ⟨wr.heap.size, 0, none⟩) 1 1) [(IntKind.u64.wrap (8 * IntKind.u64.wrap (N : Int)) / 2 ^ (8 * (7 - k)) % 256)] rfl HR2.out (by rw [HPL.out]; simp; omega) (by simp; omega) ?_; intro v' w' hown hgrow hat)
            have hb' : Below wc.heap.size wc w' := (hbel.alloc (by omega) _).grown hgrow (by simp; omega) (own_ge HOA.out)
            rw [HX.out, HPS.out] at hown
            go_roundw
            case rel => exact ⟨k + 1, by omega, by go_num, hown, hb'⟩
            case measure => simp [intOf]; omega
          · obtain rfl : k = 8 := by omega
            go_wp2
            go_ret
            exact ⟨_, rfl, HO.out, hbel⟩
      · have hcond : ¬ (((N : Int) % 64 + ((j : Int) + 1) + 8) % 64 = 0) := fun h => hjz (hcz.1 h)
        clear hcz HZC
        have HZS := Kept.mk (zerP_step j)
        have HZL := Kept.mk (zerP_length j)
        have hr2 : Rd (wr.alloc (.cells #[.int .u8 0] 5)) (.slice (some ⟨wr.heap.size, 0, none⟩) 1 1) [0] := Rd.one wr 0 5 (by omega) (by omega)
        have HR2 := Kept.mk hr2
        have HOA := Kept.mk (HO.out.alloc (.cells #[.int .u8 0] 5))
        clear hr2
        go_wp2_with (at_builtin; refine wpList_append_rd _ rfl _ _ 25 rfl wc.heap.size 5 i0 z0 Tryd.underlying25 hi hz0 hs hb hc (.slice a (j + 1) cap) (zerP j) rfl HOA.out (.slice (some ⟨wr.heap.size, 0, none⟩) 1 1) [0] rfl HR2.out (by rw [HZL.out]; simp; omega) (by simp; omega) ?_; intro v' w' hown hgrow hat)
        have hb' : Below wc.heap.size wc w' := (hbel.alloc (by omega) _).grown hgrow (by simp; omega) (own_ge HOA.out)
        obtain ⟨g', cap', hv', -⟩ := hown.open (by simp)
        subst hv'
        go_roundw
        case rel =>
          have hlen : (zerP j ++ [0]).length = j + 1 + 1 := by rw [HZS.out, zerP_length]
          exact ⟨j + 1, cap', _, by omega, by rw [hlen], by rw [← HZS.out]; exact hown, hb'⟩
        case measure =>
          have hlen : (zerP j ++ [0]).length = j + 1 + 1 := by rw [HZS.out, zerP_length]
          simp only [vLen, hlen]
          omega
end Go.Proofs.YthkaohkondkhgaaDoor.Sh
