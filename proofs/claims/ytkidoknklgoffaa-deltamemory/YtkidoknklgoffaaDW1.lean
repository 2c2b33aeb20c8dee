/-
  Walks: readSparse, readCopy, readInstruction, readSizes.
-/
import Derived.Test.YtkidoknklgoffaaDM
namespace Go.Proofs.Ytkidoknklgoffaa
open Go.RowKit

theorem nuRd {S : Nat → Prop} {w : World} {v : Value} {xs : List Int} (h : Rd .u8 S w v xs) (hb : AllB xs) : Nu.Rd w v xs := by
  obtain ⟨a, c, hv, h1, h2, h3, h4⟩ := h
  exact ⟨a, c, hv, h1, h2, hb, h3, fun h0 => by
    obtain ⟨b, off, ha, hlt, -, hc⟩ := h4 h0
    exact ⟨b, off, ha, hlt, hc⟩⟩

theorem i64_and1 (n : Int) : bits .and .i64 n 1 = n % 2 := by
  have h1 : (BitVec.ofInt 64 1).toNat = 2 ^ 1 - 1 := by decide
  have key : (BitVec.ofInt 64 n &&& BitVec.ofInt 64 1).toNat = (n % ((2 ^ 64 : Nat) : Int)).toNat % 2 ^ 1 := by
    rw [BitVec.toNat_and, BitVec.toNat_ofInt, h1, Nat.and_two_pow_sub_one_eq_mod]
  show IntKind.i64.wrap ((BitVec.ofInt 64 n &&& BitVec.ofInt 64 1).toNat : Nat) = n % 2
  rw [key, IntKind.wrap_i64]
  omega

theorem or_sp (k : Nat) (y z : Int) (hk : k ≤ 3) (h0 : 0 ≤ y) (h1 : y < 256 ^ k) (hz0 : 0 ≤ z) (hz1 : z < 256) : bits .or .i64 y (wrap64 (z * 2 ^ (8 * k))) = y + z * 256 ^ k := by
  have e : (256 : Int) ^ k = 2 ^ (8 * k) := by rw [Int.pow_mul]; rfl
  have hc : ∀ a b : Int, bits .or .i64 a b = bits .or .i64 b a := fun a b => by simp only [bits, BitVec.or_comm]
  rw [e] at h1
  have hp : (2 : Int) ^ (8 * k) ≤ 2 ^ 24 := by
    have : (2 : Nat) ^ (8 * k) ≤ 2 ^ 24 := Nat.pow_le_pow_right (by omega) (by omega)
    exact_mod_cast this
  have hp0 : (0 : Int) < 2 ^ (8 * k) := Int.pow_pos (by omega)
  have h3 : z * 2 ^ (8 * k) ≤ 255 * 2 ^ (8 * k) := Int.mul_le_mul_of_nonneg_right (by omega) (by omega)
  have h4 : 0 ≤ z * 2 ^ (8 * k) := Int.mul_nonneg hz0 (by omega)
  have hw : wrap64 (z * 2 ^ (8 * k)) = z * 2 ^ (8 * k) := by unfold wrap64; omega
  rw [hw, e, hc, bits_join .i64 62 (by decide) (fun n g0 g1 => by rw [IntKind.wrap_i64]; omega) (8 * k) _ y h4 (Int.mul_emod_left _ _) (by omega) h0 h1 (by omega)]
  omega

def spE : Option (Int × Nat) → Ending
  | none => .returned (.tuple #[.int .i64 0, .int .i64 0, .int .i64 5])
  | some (x, a) => .returned (.tuple #[.int .i64 x, .int .i64 a, .int .i64 0])

theorem spE_none : spE none = .returned (.tuple #[.int .i64 0, .int .i64 0, .int .i64 5]) := rfl
theorem spE_some (x : Int) (a : Nat) : spE (some (x, a)) = .returned (.tuple #[.int .i64 x, .int .i64 a, .int .i64 0]) := rfl

set_option maxHeartbeats 1000000 in
theorem readSparse_any {S : Nat → Prop} (v : Value) (d : List Int) (at_ n : Nat) (c : Int) (w : World) (h : Rd .u8 S w v d) (hb : AllB d) (hat : at_ ≤ d.length) (hl : d.length + 20 ≤ 140737488355328) (hn : n ≤ 4) :
    Calls Try.prog 39 #[v, .int .i64 at_, .int .i64 c, .int .i64 n] w fun e w' => e = spE (spF d c n 0 0 at_) ∧ w' = w := by
  obtain ⟨va, vc, rfl, -, hlc, hcm⟩ := h.form
  have KH := Kept.mk h
  clear h hcm
  go_enter Try.func39, Try.ntmps39
  go_wp2
  go_loop [1, 11, 14] (fun a x i => ∃ (k b : Nat) (y : Int), a = .int .i64 b ∧ x = .int .i64 y ∧ i = .int .i64 k ∧ k ≤ n ∧ b ≤ d.length ∧ 0 ≤ y ∧ y < 256 ^ k ∧ spF d c n 0 0 at_ = spF d c (n - k) k y b) (fun _ _ i => n - (intOf i).toNat)
  case atStart => exact ⟨0, at_, 0, rfl, rfl, rfl, by omega, hat, by omega, by omega, rfl⟩
  case round =>
    obtain ⟨k, b, y, rfl, rfl, rfl, hk, hbl, hy0, hy1, he⟩ := hrel
    have HE := Kept.mk he
    have HY := Kept.mk hy1
    clear he hy1
    by_cases hkn : k = n
    · subst hkn
      have hlt : ¬ (k : Int) < (k : Int) := by omega
      go_wp2
      go_ret3
      rw [HE.out, Nat.sub_self]
      exact ⟨rfl, rfl⟩
    · have hlt : (k : Int) < (n : Int) := by omega
      obtain ⟨q, hq⟩ : ∃ q, n - k = q + 1 := ⟨n - k - 1, by omega⟩
      rw [hq] at HE
      have ha := i64_and1 (c / 2 ^ k)
      by_cases hbit : c / 2 ^ k % 2 = 0
      · have hz : (bits .and .i64 (c / 2 ^ k) 1 == 0) = true := by rw [ha, hbit]; rfl
        rw [spF, if_pos hbit] at HE
        clear ha
        go_wp2
        go_round
        case rel => exact ⟨k + 1, b, y, rfl, rfl, rfl, by omega, hbl, hy0, by have := HY.out; rw [Int.pow_succ]; omega, by rw [HE.out, show n - (k + 1) = q from by omega]⟩
        case measure => simp [intOf]; omega
      · have hz : (bits .and .i64 (c / 2 ^ k) 1 == 0) = false := by rw [ha]; simpa using hbit
        rw [spF, if_neg hbit] at HE
        clear ha
        by_cases hend : b = d.length
        · have hee : ((b : Int) == (d.length : Int)) = true := by simp [hend]
          rw [if_neg (by omega)] at HE
          have KB := Kept.mk hend
          clear hend
          go_wp2
          go_ret3
          rw [HE.out]
          exact ⟨rfl, rfl⟩
        · have hee : ((b : Int) == (d.length : Int)) = false := by simp; omega
          have hlt2 : b < d.length := by omega
          rw [if_pos hlt2] at HE
          obtain ⟨ib, io, ic2, he, hib, -, -, -, hcells⟩ := KH.out.open (by omega)
          simp only [Value.slice.injEq, true_and] at he
          obtain ⟨rfl, rfl⟩ := he
          have ci := hcells b hlt2
          have hby := hb.getD (by omega) b
          have hi2 : (b : Int) < (d.length : Int) := by omega
          clear hcells hend
          generalize d.getD b 0 = z at *
          go_wp2
          go_round
          case rel =>
            rw [or_sp k y z (by omega) hy0 HY.out hby.1 hby.2]
            have hp : (0 : Int) < 256 ^ k := Int.pow_pos (by omega)
            have h3 : z * 256 ^ k ≤ 255 * 256 ^ k := Int.mul_le_mul_of_nonneg_right (by omega) (by omega)
            have h4 : 0 ≤ z * 256 ^ k := Int.mul_nonneg hby.1 (by omega)
            exact ⟨k + 1, b + 1, _, rfl, rfl, rfl, by omega, by omega, by omega, by have := HY.out; rw [Int.pow_succ]; omega, by rw [HE.out, show n - (k + 1) = q from by omega]⟩
          case measure => simp [intOf]; omega

/-- A piece of what is read, where it has an address. -/
theorem Rd.piece2 {k : IntKind} {S : Nat → Prop} {w : World} {b off n c i j : Nat} {xs : List Int} (h : Rd k S w (.slice (some ⟨b, off, none⟩) n c) xs) (hij : i ≤ j) (hj : j ≤ xs.length) :
    Rd k S w (.slice (some ⟨b, off + i, none⟩) (j - i) (c - i)) ((xs.drop i).take (j - i)) := by
  obtain ⟨a0, c0, hv, h1, h2, h3, h4⟩ := h
  cases hv
  have hlen : ((xs.drop i).take (j - i)).length = j - i := by simp; omega
  refine ⟨some ⟨b, off + i, none⟩, c - i, by rw [hlen], by rw [hlen]; omega, by omega, (fun e => by cases e), fun h0 => ?_⟩
  rw [hlen] at h0
  obtain ⟨b', off', ha, hlt, hs, hc⟩ := h4 (by omega)
  cases ha
  refine ⟨b, off + i, rfl, hlt, hs, fun q hq => ?_⟩
  rw [hlen] at hq
  have := hc (i + q) (by omega)
  rw [show off + i + q = off + (i + q) from by omega, this]
  congr 2
  simp only [List.getD, List.getElem?_drop, List.getElem?_take]
  rw [if_pos (by omega)]

/-- An instruction's answer. -/
def AfterP (w : World) (r : An (List Int × Nat)) (e : Ending) : Prop :=
  match r with
  | .ok (part, b) => ∃ v, e = .returned (.tuple #[v, .int .i64 b, .int .i64 0]) ∧ Rd .u8 anyB w v part
  | .bad er => e = .returned (.tuple #[.slice none 0 0, .int .i64 0, .int .i64 er])

set_option maxHeartbeats 1000000 in
set_option maxRecDepth 100000 in
theorem readCopy_any {S S' : Nat → Prop} (u v : Value) (base d : List Int) (at_ : Nat) (c : Int) (w : World) (g : Rd .u8 S' w u base) (h : Rd .u8 S w v d) (hb : AllB d) (hat : at_ ≤ d.length) (hl : d.length + 20 ≤ 140737488355328) (hg : base.length + 20 ≤ 140737488355328) :
    Calls Try.prog 31 #[u, v, .int .i64 c, .int .i64 at_] w fun e w' => AfterP w (cpF base d c at_) e ∧ w' = w := by
  have K1 := Kept.mk (readSparse_any v d at_ 4 c w h hb hat hl (by omega))
  obtain ⟨va, vc, rfl, -, hlc, hcm⟩ := h.form
  obtain ⟨ua, uc, rfl, -, hluc, hucm⟩ := g.form
  rcases h1 : spF d c 4 0 0 at_ with _ | ⟨p, a1⟩
  · rw [h1, spE_none] at K1
    have KR : Kept (cpF base d c at_ = .bad 5) := ⟨by unfold cpF; rw [h1]⟩
    clear h1 h g
    go_enter Try.func31, Try.ntmps31
    go_wp2_with fail
    refine Calls.mono K1.out (fun e w1 hp => ?_)
    obtain ⟨rfl, rfl⟩ := hp
    go_wp2
    go_ret3
    rw [KR.out]
    exact ⟨rfl, rfl⟩
  · rw [h1, spE_some] at K1
    have hle1 := spF_le d c 4 0 0 at_ p a1 hat h1
    have hlt1 := spF_lt d c hb 4 0 0 at_ p a1 (by omega) (by omega) h1
    have K2 := Kept.mk (readSparse_any _ d a1 3 (c / 16) w h hb hle1.2 hl (by omega))
    rcases h2 : spF d (c / 16) 3 0 0 a1 with _ | ⟨n, a2⟩
    · rw [h2, spE_none] at K2
      have KR : Kept (cpF base d c at_ = .bad 5) := ⟨by unfold cpF; rw [h1]; simp only []; rw [h2]⟩
      clear h1 h2 h g hle1 hlt1
      go_enter Try.func31, Try.ntmps31
      go_wp2_with fail
      refine Calls.mono K1.out (fun e w1 hp => ?_)
      obtain ⟨rfl, rfl⟩ := hp
      go_wp2_with fail
      refine Calls.mono K2.out (fun e w1 hp => ?_)
      obtain ⟨rfl, rfl⟩ := hp
      go_wp2
      go_ret3
      rw [KR.out]
      exact ⟨rfl, rfl⟩
    · rw [h2, spE_some] at K2
      have hle2 := spF_le d (c / 16) 3 0 0 a1 n a2 hle1.2 h2
      have hlt2 := spF_lt d (c / 16) hb 3 0 0 a1 n a2 (by omega) (by omega) h2
      have KR : Kept (cpF base d c at_ = if (base.length : Int) < p + cntF n then .bad 4 else .ok ((base.drop p.toNat).take (cntF n).toNat, a2)) := ⟨by unfold cpF; rw [h1]; simp only []; rw [h2]⟩
      have hp0 := hlt1.1
      have hp1 : p < 4294967296 := by have := hlt1.2; omega
      have hn0 := hlt2.1
      have hn1 : n < 16777216 := by have := hlt2.2; omega
      have KG := Kept.mk g
      clear h1 h2 h g hle1 hlt1 hlt2 hcm hucm
      obtain ⟨P, rfl⟩ := Int.eq_ofNat_of_zero_le hp0
      obtain ⟨N, rfl⟩ := Int.eq_ofNat_of_zero_le hn0
      by_cases hz : N = 0
      · subst hz
        rw [show cntF ((0 : Nat) : Int) = 65536 from rfl] at KR
        by_cases hbig : (base.length : Int) < (P : Int) + 65536
        · rw [if_pos hbig] at KR
          have hB : decide ((base.length : Int) - 65536 < (P : Int)) = true := by simp; omega
          clear hbig
          go_enter Try.func31, Try.ntmps31
          go_wp2_with fail
          refine Calls.mono K1.out (fun e w1 hp => ?_)
          obtain ⟨rfl, rfl⟩ := hp
          go_wp2_with fail
          refine Calls.mono K2.out (fun e w1 hp => ?_)
          obtain ⟨rfl, rfl⟩ := hp
          go_wp2
          go_ret3
          rw [KR.out]
          exact ⟨rfl, rfl⟩
        · rw [if_neg hbig] at KR
          have hB : decide ((base.length : Int) - 65536 < (P : Int)) = false := by simp; omega
          obtain ⟨ib, io, ic2, he, hib, -, -, -, -⟩ := KG.out.open (by omega)
          simp only [Value.slice.injEq, true_and] at he
          obtain ⟨rfl, rfl⟩ := he
          have hb1 : (P : Int) + 65536 ≤ base.length := by omega
          have hb2 : (P : Int) + 65536 ≤ uc := by omega
          have hb3 : ¬ uc = P := by omega
          have KP := Kept.mk (Rd.piece2 (i := P) (j := P + 65536) KG.out (by omega) (by omega))
          clear hbig
          go_enter Try.func31, Try.ntmps31
          go_wp2_with fail
          refine Calls.mono K1.out (fun e w1 hp => ?_)
          obtain ⟨rfl, rfl⟩ := hp
          go_wp2_with fail
          refine Calls.mono K2.out (fun e w1 hp => ?_)
          obtain ⟨rfl, rfl⟩ := hp
          go_wp2
          go_ret3
          rw [KR.out]
          refine ⟨?_, rfl⟩
          have e : (base.drop (P : Int).toNat).take (Int.toNat 65536) = (base.drop P).take (P + 65536 - P) := by rw [Int.toNat_natCast, show Int.toNat 65536 = 65536 from rfl, Nat.add_sub_cancel_left]
          rw [e]
          exact ⟨_, rfl, KP.out.any⟩
      · have hne : ¬ (N : Int) = 0 := by omega
        rw [show cntF (N : Int) = N from if_neg hne] at KR
        have hbo : ((N : Int) == 0) = false := by simpa using hne
        have hn1' : 1 ≤ N := by omega
        clear hne hz
        by_cases hbig : (base.length : Int) < (P : Int) + (N : Int)
        · rw [if_pos hbig] at KR
          have hB : decide ((base.length : Int) - (N : Int) < (P : Int)) = true := by simp; omega
          clear hbig
          go_enter Try.func31, Try.ntmps31
          go_wp2_with fail
          refine Calls.mono K1.out (fun e w1 hp => ?_)
          obtain ⟨rfl, rfl⟩ := hp
          go_wp2_with fail
          refine Calls.mono K2.out (fun e w1 hp => ?_)
          obtain ⟨rfl, rfl⟩ := hp
          go_wp2
          go_ret3
          rw [KR.out]
          exact ⟨rfl, rfl⟩
        · rw [if_neg hbig] at KR
          have hB : decide ((base.length : Int) - (N : Int) < (P : Int)) = false := by simp; omega
          obtain ⟨ib, io, ic2, he, hib, -, -, -, -⟩ := KG.out.open (by omega)
          simp only [Value.slice.injEq, true_and] at he
          obtain ⟨rfl, rfl⟩ := he
          have hb1 : (P : Int) + (N : Int) ≤ base.length := by omega
          have hb2 : (P : Int) + (N : Int) ≤ uc := by omega
          have hb3 : ¬ uc = P := by omega
          have KP := Kept.mk (Rd.piece2 (i := P) (j := P + N) KG.out (by omega) (by omega))
          clear hbig
          go_enter Try.func31, Try.ntmps31
          go_wp2_with fail
          refine Calls.mono K1.out (fun e w1 hp => ?_)
          obtain ⟨rfl, rfl⟩ := hp
          go_wp2_with fail
          refine Calls.mono K2.out (fun e w1 hp => ?_)
          obtain ⟨rfl, rfl⟩ := hp
          go_wp2
          go_ret3
          rw [KR.out]
          refine ⟨?_, rfl⟩
          have e : (base.drop (P : Int).toNat).take (Int.toNat (N : Int)) = (base.drop P).take (P + N - P) := by rw [Int.toNat_natCast, Int.toNat_natCast, Nat.add_sub_cancel_left]
          rw [e]
          exact ⟨_, rfl, KP.out.any⟩

set_option maxHeartbeats 1000000 in
set_option maxRecDepth 100000 in
theorem readInstruction_any {S S' : Nat → Prop} (u v : Value) (base d : List Int) (at_ : Nat) (w : World) (g : Rd .u8 S' w u base) (h : Rd .u8 S w v d) (hb : AllB d) (hat : at_ < d.length) (hl : d.length + 20 ≤ 140737488355328) (hg : base.length + 20 ≤ 140737488355328) :
    Calls Try.prog 21 #[u, v, .int .i64 at_] w fun e w' => AfterP w (insF base d at_) e ∧ w' = w := by
  have hby := hb.getD (by omega) at_
  have K1 := Kept.mk (readCopy_any u v base d (at_ + 1) (d.getD at_ 0) w g h hb (by omega) hl hg)
  obtain ⟨ib, io, vc, rfl, hib, hlc, hcm, -, hcells⟩ := h.open (by omega)
  obtain ⟨ua, uc, rfl, -, hluc, hucm⟩ := g.form
  have ci := hcells at_ hat
  have hi2 : (at_ : Int) < (d.length : Int) := by omega
  have KR : Kept (insF base d at_ = if d.getD at_ 0 = 0 then .bad 4 else if d.getD at_ 0 < 128 then if (d.length : Int) < at_ + 1 + d.getD at_ 0 then .bad 5 else .ok ((d.drop (at_ + 1)).take (d.getD at_ 0).toNat, at_ + 1 + (d.getD at_ 0).toNat) else cpF base d (d.getD at_ 0) (at_ + 1)) := ⟨rfl⟩
  have KH := Kept.mk h
  clear hcells hcm hucm g h
  generalize d.getD at_ 0 = z at *
  by_cases hz : z = 0
  · subst hz
    rw [if_pos rfl] at KR
    go_enter Try.func21, Try.ntmps21
    go_wp2
    go_ret3
    rw [KR.out]
    exact ⟨rfl, rfl⟩
  · have hzo : (z == 0) = false := by simpa using hz
    rw [if_neg hz] at KR
    by_cases hs : z < 128
    · have hso : decide (z < 128) = true := by simpa using hs
      rw [if_pos hs] at KR
      by_cases hsh : (d.length : Int) < at_ + 1 + z
      · rw [if_pos hsh] at KR
        have hsb : decide ((d.length : Int) - ((at_ : Int) + 1) < z) = true := by simp; omega
        clear hsh hs hz
        go_enter Try.func21, Try.ntmps21
        go_wp2
        go_ret3
        rw [KR.out]
        exact ⟨rfl, rfl⟩
      · rw [if_neg hsh] at KR
        have hsb : decide ((d.length : Int) - ((at_ : Int) + 1) < z) = false := by simp; omega
        obtain ⟨Z, rfl⟩ := Int.eq_ofNat_of_zero_le hby.1
        have hb1 : (at_ : Int) + 1 + Z ≤ d.length := by omega
        have hb2 : (at_ : Int) + 1 + Z ≤ vc := by omega
        have hb3 : ¬ vc = at_ + 1 := by omega
        have KP := Kept.mk (Rd.piece2 (i := at_ + 1) (j := at_ + 1 + Z) KH.out (by omega) (by omega))
        have e : (d.drop (at_ + 1)).take (Z : Int).toNat = (d.drop (at_ + 1)).take (at_ + 1 + Z - (at_ + 1)) := by rw [Int.toNat_natCast, Nat.add_sub_cancel_left]
        rw [e, Int.toNat_natCast] at KR
        clear hsh hs hz e
        go_enter Try.func21, Try.ntmps21
        go_wp2
        go_ret3
        rw [KR.out]
        exact ⟨⟨_, rfl, KP.out.any⟩, rfl⟩
    · have hso : decide (z < 128) = false := by simpa using hs
      rw [if_neg hs] at KR
      rw [← KR.out] at K1
      clear hs hz
      go_enter Try.func21, Try.ntmps21
      go_wp2_with fail
      refine Calls.mono K1.out (fun e w1 hp => ?_)
      obtain ⟨hp, rfl⟩ := hp
      clear KR
      rcases hR : insF base d at_ with ⟨part, b⟩ | er <;> rw [hR] at hp <;> have KR := Kept.mk hR <;> clear hR
      · obtain ⟨v1, rfl, hr⟩ := hp
        have KRd := Kept.mk hr
        clear hr
        go_wp2
        go_ret3
        rw [KR.out]
        exact ⟨⟨_, rfl, KRd.out⟩, rfl⟩
      · have hp : e = _ := hp
        subst hp
        go_wp2
        go_ret3
        rw [KR.out]
        exact ⟨rfl, rfl⟩

theorem nu_size {S : Nat → Prop} (v : Value) (xs : List Int) (t : Int) (w : World) (h : Rd .u8 S w v xs) (hb : AllB xs) (ht : t ≤ 9223372036854775807) (hl : xs.length + 20 ≤ 140737488355328) :
    Calls Try.prog 30 #[v, .int .i64 t] w fun e w' => e = .returned (.tuple #[.int .u64 (Nu.sizeS xs t).1, .int .i64 (Nu.sizeS xs t).2.1, .int .i64 (Nu.sizeS xs t).2.2]) ∧ w' = w :=
  Nu.size_any v xs t w (nuRd h hb) ht hl
theorem nu_docSize {S : Nat → Prop} (v : Value) (xs : List Int) (t : Int) (w : World) (h : Rd .u8 S w v xs) (hb : AllB xs) (ht : t ≤ 9223372036854775807) (hl : xs.length + 20 ≤ 140737488355328) :
    Calls Try.prog 22 #[v, .int .i64 t] w fun e w' => e = .returned (.tuple #[.int .u64 (Nu.sizeS xs t).1, .int .i64 (Nu.sizeS xs t).2.1, .int .i64 (Nu.sizeS xs t).2.2]) ∧ w' = w :=
  Nu.docSize_any v xs t w (nuRd h hb) ht hl

/-- What sizeS says, where it is right. -/
theorem sizeS_ok {xs : List Int} {t : Int} {a p : Int} (h : Nu.sizeS xs t = (a, p, 0)) : 0 ≤ a ∧ a < 18446744073709551616 ∧ 0 ≤ t ∧ t < p ∧ p ≤ xs.length := by
  unfold Nu.sizeS at h
  split at h
  · rename_i he
    obtain ⟨n, m, rfl, -, h1, hm1, hnm⟩ := Nu.endS_ok he
    split at h
    · rename_i hv
      simp only [Prod.mk.injEq, and_true] at h
      obtain ⟨rfl, rfl⟩ := h
      exact ⟨Nu.sizeV_nonneg _, hv, by omega, by omega, by omega⟩
    · simp at h
  · rename_i he
    simp only [Prod.mk.injEq] at h
    exact absurd h.2.2 he

def hdE : An (Nat × Nat) → Ending
  | .ok (size, b) => .returned (.tuple #[.int .i64 size, .int .i64 b, .int .i64 0])
  | .bad er => .returned (.tuple #[.int .i64 0, .int .i64 0, .int .i64 er])

set_option maxHeartbeats 1000000 in
set_option maxRecDepth 100000 in
theorem readSizes_any {S : Nat → Prop} (v : Value) (d : List Int) (n most : Nat) (w : World) (h : Rd .u8 S w v d) (hb : AllB d) (hl : d.length + 20 ≤ 140737488355328) (hn : n ≤ 140737488355328) (hm : most ≤ 1048576) :
    Calls Try.prog 20 #[v, .int .i64 n, .int .i64 most] w fun e w' => e = hdE (hdF n d most) ∧ w' = w := by
  have K1 := Kept.mk (nu_size v d 0 w h hb (by omega) hl)
  rcases h1 : Nu.sizeS d 0 with ⟨a, p, e1⟩
  rw [h1] at K1
  by_cases he1 : e1 = 0
  · subst he1
    have hs1 := sizeS_ok h1
    have K2 := Kept.mk (nu_size v d p w h hb (by omega) hl)
    obtain ⟨va, vc, rfl, -, -, -⟩ := h.form
    by_cases ha : a = n
    · subst ha
      have hno : ((n : Int) != (n : Int)) = false := by simp
      rcases h2 : Nu.sizeS d p with ⟨b, p2, e2⟩
      rw [h2] at K2
      by_cases he2 : e2 = 0
      · subst he2
        have hs2 := sizeS_ok h2
        by_cases hbig : (most : Int) < b
        · have KR : Kept (hdF n d most = .bad 10) := ⟨by unfold hdF; rw [h1]; simp only [ne_eq, not_true_eq_false, if_false]; rw [h2]; simp only [not_true_eq_false, if_false]; rw [if_pos hbig]⟩
          have hbo : decide ((most : Int) < b) = true := by simpa using hbig
          clear hbig h1 h2 h hs1 hs2
          go_enter Try.func20, Try.ntmps20
          go_wp2_with fail
          refine Calls.mono K1.out (fun e w1 hp => ?_)
          obtain ⟨rfl, rfl⟩ := hp
          go_wp2_with fail
          refine Calls.mono K2.out (fun e w1 hp => ?_)
          obtain ⟨rfl, rfl⟩ := hp
          go_wp2
          go_ret3
          rw [KR.out]
          exact ⟨rfl, rfl⟩
        · have KR : Kept (hdF n d most = .ok (b.toNat, p2.toNat)) := ⟨by unfold hdF; rw [h1]; simp only [ne_eq, not_true_eq_false, if_false]; rw [h2]; simp only [not_true_eq_false, if_false]; rw [if_neg hbig]⟩
          obtain ⟨B, rfl⟩ := Int.eq_ofNat_of_zero_le hs2.1
          obtain ⟨P2, rfl⟩ := Int.eq_ofNat_of_zero_le (show 0 ≤ p2 by omega)
          have hB : (B : Int) ≤ 1048576 := by omega
          have hbn : decide (most < B) = false := by simp; omega
          simp only [Int.toNat_natCast] at KR
          clear hbig h1 h2 h hs1 hs2
          go_enter Try.func20, Try.ntmps20
          go_wp2_with fail
          refine Calls.mono K1.out (fun e w1 hp => ?_)
          obtain ⟨rfl, rfl⟩ := hp
          go_wp2_with fail
          refine Calls.mono K2.out (fun e w1 hp => ?_)
          obtain ⟨rfl, rfl⟩ := hp
          go_wp2
          go_ret3
          rw [KR.out]
          exact ⟨rfl, rfl⟩
      · have KR : Kept (hdF n d most = .bad e2) := ⟨by unfold hdF; rw [h1]; simp only [ne_eq, not_true_eq_false, if_false]; rw [h2]; simp only []; rw [if_pos he2]⟩
        have hbo : (e2 != 0) = true := by simpa using he2
        clear he2 h1 h2 h hs1
        go_enter Try.func20, Try.ntmps20
        go_wp2_with fail
        refine Calls.mono K1.out (fun e w1 hp => ?_)
        obtain ⟨rfl, rfl⟩ := hp
        go_wp2_with fail
        refine Calls.mono K2.out (fun e w1 hp => ?_)
        obtain ⟨rfl, rfl⟩ := hp
        go_wp2
        go_ret3
        rw [KR.out]
        exact ⟨rfl, rfl⟩
    · have KR : Kept (hdF n d most = .bad 4) := ⟨by unfold hdF; rw [h1]; simp only [ne_eq, not_true_eq_false, if_false]; rw [if_pos ha]⟩
      have hbo : (a != (n : Int)) = true := by simpa using ha
      clear ha h1 h hs1
      go_enter Try.func20, Try.ntmps20
      go_wp2_with fail
      refine Calls.mono K1.out (fun e w1 hp => ?_)
      obtain ⟨rfl, rfl⟩ := hp
      go_wp2
      go_ret3
      rw [KR.out]
      exact ⟨rfl, rfl⟩
  · have KR : Kept (hdF n d most = .bad e1) := ⟨by unfold hdF; rw [h1]; simp only [ne_eq]; rw [if_pos he1]⟩
    have hbo : (e1 != 0) = true := by simpa using he1
    clear he1 h1
    go_enter Try.func20, Try.ntmps20
    go_wp2_with fail
    refine Calls.mono K1.out (fun e w1 hp => ?_)
    obtain ⟨rfl, rfl⟩ := hp
    go_wp2
    go_ret3
    rw [KR.out]
    exact ⟨rfl, rfl⟩
end Go.Proofs.Ytkidoknklgoffaa
