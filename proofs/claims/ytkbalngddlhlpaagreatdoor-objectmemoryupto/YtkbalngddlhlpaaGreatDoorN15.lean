/-
  Pure: an ident that is written is read again.
-/
import Derived.Test.YtkbalngddlhlpaaGreatDoorN7
namespace Go.Proofs.YtkbalngddlhlpaaGreatDoor
open Go.RowKit

theorem idx1 (b : UInt8) (r : List UInt8) : ∀ (a : List UInt8), b ∉ a → Lib.index (a ++ b :: r) [b] = a.length
  | [], _ => by simp [Lib.index, List.isPrefixOf]
  | x :: a, h => by
    have hx : ¬ b = x := fun e => h (by rw [e]; exact List.mem_cons_self)
    have ih := idx1 b r a (fun e => h (List.mem_cons_of_mem _ e))
    rw [List.cons_append]
    unfold Lib.index
    rw [ih, if_neg (by simp [List.isPrefixOf, hx]), if_neg (by simp)]
    simp
theorem idx2 (b c : UInt8) (hbc : b ≠ c) (r : List UInt8) : ∀ (a : List UInt8), c ∉ a → Lib.index (a ++ b :: c :: r) [b, c] = a.length
  | [], _ => by simp [Lib.index, List.isPrefixOf]
  | [x], h => by
    have ih := idx2 b c hbc r [] (by simp)
    rw [List.cons_append]
    unfold Lib.index
    rw [ih, if_neg (by simp [List.isPrefixOf]; intro _ e; exact hbc e.symm), if_neg (by simp)]
    simp
  | x :: y :: a, h => by
    have hy : ¬ c = y := fun e => h (by rw [e]; simp)
    have ih := idx2 b c hbc r (y :: a) (fun e => h (List.mem_cons_of_mem _ e))
    rw [List.cons_append]
    unfold Lib.index
    rw [ih, if_neg (by simp [List.isPrefixOf, hy]), if_neg (by simp; omega)]
    simp
theorem idx3 (b c : UInt8) (r : List UInt8) : ∀ (a : List UInt8), b ∉ a → Lib.index (a ++ b :: c :: r) [b, c] = a.length
  | [], _ => by simp [Lib.index, List.isPrefixOf]
  | x :: a, h => by
    have hx : ¬ b = x := fun e => h (by rw [e]; exact List.mem_cons_self)
    have ih := idx3 b c r a (fun e => h (List.mem_cons_of_mem _ e))
    rw [List.cons_append]
    unfold Lib.index
    rw [ih, if_neg (by simp [List.isPrefixOf, hx]), if_neg (by simp)]
    simp
theorem cut3 (b c : UInt8) (a r : List UInt8) (h : b ∉ a) : Lib.cut (a ++ b :: c :: r) [b, c] = (a, r, true) := by
  unfold Lib.cut
  rw [idx3 b c r a h, if_pos (by omega)]
  simp
theorem cut1 (b : UInt8) (a r : List UInt8) (h : b ∉ a) : Lib.cut (a ++ b :: r) [b] = (a, r, true) := by
  unfold Lib.cut
  rw [idx1 b r a h, if_pos (by omega)]
  simp
theorem cut2 (b c : UInt8) (hbc : b ≠ c) (a r : List UInt8) (h : c ∉ a) : Lib.cut (a ++ b :: c :: r) [b, c] = (a, r, true) := by
  unfold Lib.cut
  rw [idx2 b c hbc r a h, if_pos (by omega)]
  simp
theorem any_mem (chars : List UInt8) : ∀ (l : List UInt8), Lib.containsAny l chars = false → ∀ b ∈ l, b ∉ chars
  | [], _, b, hb => by cases hb
  | x :: l, h, b, hb => by
    unfold Lib.containsAny at h
    have h := of_decide_eq_false h
    unfold Lib.indexAny at h
    by_cases hx : chars.contains x = true
    · rw [if_pos hx] at h; omega
    · rw [if_neg hx] at h
      rcases List.mem_cons.1 hb with rfl | hb
      · simpa using hx
      · refine any_mem chars l ?_ b hb
        unfold Lib.containsAny
        refine decide_eq_false ?_
        have hg := Lib.indexAny_ge chars l
        split at h
        · rename_i e; have : Lib.indexAny l chars = -1 := by simpa using e
          omega
        · omega
theorem dig_nat {d : Nat} (h : d < 10) : (UInt8.ofNat (48 + d)).toNat = 48 + d := by
  rw [UInt8.toNat_ofNat']
  omega
theorem parse_app : ∀ (l : List UInt8) (acc u : Nat) (r : List UInt8), Lib.parseUint10 acc l = .ok u → Lib.parseUint10 acc (l ++ r) = Lib.parseUint10 u r
  | [], acc, u, r, h => by
    simp only [Lib.parseUint10] at h
    injection h with h
    rw [← h]
    rfl
  | c :: l, acc, u, r, h => by
    rw [List.cons_append]
    rw [Lib.parseUint10] at h ⊢
    split at h
    · rename_i h1
      rw [if_pos h1]
      split at h
      · cases h
      · rename_i h2
        rw [if_neg h2]
        split at h
        · cases h
        · rename_i h3
          rw [if_neg h3]
          exact parse_app l _ u r h
    · cases h
theorem parse_one {acc d : Nat} (h : d < 10) (ha : acc * 10 + d < 9223372036854775808) : Lib.parseUint10 acc [UInt8.ofNat (48 + d)] = .ok (acc * 10 + d) := by
  unfold Lib.parseUint10
  rw [dig_nat h, if_pos (by omega), if_neg (by omega), if_neg (by omega)]
  unfold Lib.parseUint10
  congr 1
  omega
theorem parse_dec : ∀ (n u : Nat), u < n → u < 9223372036854775808 → Lib.parseUint10 0 (Lib.decDigits u) = .ok u
  | 0, u, h, _ => by omega
  | n + 1, u, h, hu => by
    by_cases h10 : u < 10
    · rw [Lib.decDigits_one h10, parse_one h10 (by omega)]
      congr 1
      omega
    · rw [Lib.decDigits, dif_neg h10, parse_app _ _ (u / 10) _ (parse_dec n (u / 10) (by omega) (by omega)), parse_one (by omega) (by omega)]
      congr 1
      omega
theorem dec_mem : ∀ (n u : Nat), u < n → ∀ b ∈ Lib.decDigits u, 48 ≤ b.toNat ∧ b.toNat ≤ 57
  | 0, u, h, _, _ => by omega
  | n + 1, u, h, b, hb => by
    by_cases h10 : u < 10
    · rw [Lib.decDigits_one h10] at hb
      rw [List.mem_singleton.1 hb, dig_nat h10]
      omega
    · rw [Lib.decDigits, dif_neg h10] at hb
      rcases List.mem_append.1 hb with hb | hb
      · exact dec_mem n (u / 10) (by omega) b hb
      · rw [List.mem_singleton.1 hb, dig_nat (by omega)]
        omega
theorem dec_head (u : Nat) : ∃ c r, Lib.decDigits u = c :: r ∧ 48 ≤ c.toNat ∧ c.toNat ≤ 57 := by
  cases h : Lib.decDigits u with
  | nil =>
    rw [Lib.decDigits] at h
    split at h <;> simp at h
  | cons c r => exact ⟨c, r, rfl, dec_mem (u + 1) u (by omega) c (by rw [h]; simp)⟩
theorem ato_dec (u : Nat) (hu : u < 9223372036854775808) : Lib.atoiAll (Lib.decDigits u) = .ok (u : Int) := by
  obtain ⟨c, r, h, h1, h2⟩ := dec_head u
  have hp := parse_dec (u + 1) u (by omega) hu
  rw [h] at hp ⊢
  unfold Lib.atoiAll Lib.parseMag
  simp only
  rw [if_neg (by omega : ¬ (c.toNat = 43 ∨ c.toNat = 45)), if_neg (by simp), hp]
  simp only
  rw [if_neg (by omega), if_neg (by omega), if_neg (by omega)]
theorem dec_step {u : Nat} (h : ¬ u < 10) : Lib.decDigits u = Lib.decDigits (u / 10) ++ [UInt8.ofNat (48 + u % 10)] := by rw [Lib.decDigits, dif_neg h]
theorem dec_five {x : Nat} (h : x < 10000) : Lib.decDigits (10000 + x) = 49 :: [UInt8.ofNat (48 + x / 1000), UInt8.ofNat (48 + x / 100 % 10), UInt8.ofNat (48 + x / 10 % 10), UInt8.ofNat (48 + x % 10)] := by
  rw [dec_step (by omega), dec_step (u := (10000 + x) / 10) (by omega), dec_step (u := (10000 + x) / 10 / 10) (by omega), dec_step (u := (10000 + x) / 10 / 10 / 10) (by omega), Lib.decDigits_one (by omega)]
  rw [show (10000 + x) / 10 / 10 / 10 / 10 = 1 by omega, show (10000 + x) / 10 / 10 / 10 % 10 = x / 1000 by omega, show (10000 + x) / 10 / 10 % 10 = x / 100 % 10 by omega, show (10000 + x) / 10 % 10 = x / 10 % 10 by omega, show (10000 + x) % 10 = x % 10 by omega]
  rfl
theorem parse_four {x : Nat} (h : x < 10000) : Lib.parseMag [UInt8.ofNat (48 + x / 1000), UInt8.ofNat (48 + x / 100 % 10), UInt8.ofNat (48 + x / 10 % 10), UInt8.ofNat (48 + x % 10)] = .ok x := by
  unfold Lib.parseMag
  rw [if_neg (by simp)]
  have e1 := parse_one (acc := 0) (d := x / 1000) (by omega) (by omega)
  have e2 := parse_one (acc := 0 * 10 + x / 1000) (d := x / 100 % 10) (by omega) (by omega)
  have e3 := parse_one (acc := (0 * 10 + x / 1000) * 10 + x / 100 % 10) (d := x / 10 % 10) (by omega) (by omega)
  have e4 := parse_one (acc := ((0 * 10 + x / 1000) * 10 + x / 100 % 10) * 10 + x / 10 % 10) (d := x % 10) (by omega) (by omega)
  rw [show [UInt8.ofNat (48 + x / 1000), UInt8.ofNat (48 + x / 100 % 10), UInt8.ofNat (48 + x / 10 % 10), UInt8.ofNat (48 + x % 10)] = [UInt8.ofNat (48 + x / 1000)] ++ ([UInt8.ofNat (48 + x / 100 % 10)] ++ ([UInt8.ofNat (48 + x / 10 % 10)] ++ [UInt8.ofNat (48 + x % 10)])) from rfl]
  rw [parse_app _ _ _ _ e1, parse_app _ _ _ _ e2, parse_app _ _ _ _ e3, e4]
  congr 1
  omega
def zl (a : Nat) : List UInt8 := [UInt8.ofNat (48 + (a / 60 * 100 + a % 60) / 1000), UInt8.ofNat (48 + (a / 60 * 100 + a % 60) / 100 % 10), UInt8.ofNat (48 + (a / 60 * 100 + a % 60) / 10 % 10), UInt8.ofNat (48 + (a / 60 * 100 + a % 60) % 10)]
theorem zone_list {z : Int} (h0 : -1439 ≤ z) (h1 : z ≤ 1439) : (zoneB z).data.toList = (if z < 0 then 45 else 43) :: zl z.natAbs := by
  have e : (zdB z.natAbs).data.toList = 49 :: zl z.natAbs := by
    unfold zdB zl
    rw [show (10000 + ((z.natAbs : Nat) : Int) / 60 * 100 + ((z.natAbs : Nat) : Int) % 60) = ((10000 + (z.natAbs / 60 * 100 + z.natAbs % 60) : Nat) : Int) by omega, Lib.itoa_nonneg]
    show Lib.decDigits _ = _
    rw [dec_five (by omega)]
  have e5 : ((zdB z.natAbs).extract 1 5).data.toList = zl z.natAbs := by
    rw [ByteArray.data_extract, Array.toList_extract, e]
    rfl
  unfold zoneB
  rw [ByteArray.data_append, Array.toList_append, e5]
  split <;> rfl
theorem ato_zone {z : Int} (h0 : -1439 ≤ z) (h1 : z ≤ 1439) : Lib.atoiAll ((if z < 0 then 45 else 43) :: zl z.natAbs) = .ok (if z < 0 then -((z.natAbs / 60 * 100 + z.natAbs % 60 : Nat) : Int) else ((z.natAbs / 60 * 100 + z.natAbs % 60 : Nat) : Int)) := by
  have hp := parse_four (x := z.natAbs / 60 * 100 + z.natAbs % 60) (by omega)
  unfold Lib.atoiAll
  by_cases hz : z < 0
  · simp only [if_pos hz]
    rw [if_pos (by decide)]
    unfold zl
    rw [hp]
    simp only
    rw [if_neg (by simp), if_neg (by omega), if_pos (by decide)]
  · simp only [if_neg hz]
    rw [if_pos (by decide)]
    unfold zl
    rw [hp]
    simp only
    rw [if_neg (by omega), if_neg (by omega), if_neg (by decide)]
theorem zone_back {z : Int} (h0 : -1439 ≤ z) (h1 : z ≤ 1439) (v : Int) (hv : v = if z < 0 then -((z.natAbs / 60 * 100 + z.natAbs % 60 : Nat) : Int) else ((z.natAbs / 60 * 100 + z.natAbs % 60 : Nat) : Int)) :
    wrap64 (wrap64 (wrap64 (v.tdiv 100) * 60) + v.tmod 100) = z := by
  obtain ⟨k, hk⟩ : ∃ k, z.natAbs / 60 * 100 + z.natAbs % 60 = k := ⟨_, rfl⟩
  rw [hk] at hv
  have q1 : ((k : Nat) : Int).tdiv 100 = ((k / 100 : Nat) : Int) := rfl
  have q2 : ((k : Nat) : Int).tmod 100 = ((k % 100 : Nat) : Int) := rfl
  by_cases hz : z < 0
  · rw [if_pos hz] at hv
    subst hv
    rw [Int.neg_tdiv, Int.neg_tmod, q1, q2]
    unfold wrap64
    omega
  · rw [if_neg hz] at hv
    subst hv
    rw [q1, q2]
    unfold wrap64
    omega
theorem who_mem {s : ByteArray} (h : whoF s = true) : (60 : UInt8) ∉ s.data.toList ∧ (62 : UInt8) ∉ s.data.toList := by
  unfold whoF at h
  simp only [Bool.and_eq_true, Bool.not_eq_true'] at h
  have := any_mem _ _ h.2
  exact ⟨fun hm => this _ hm (by simp), fun hm => this _ hm (by simp)⟩
theorem back_put {i : Idt} (h : idF i = true) : rfF (putB i) = i := by
  obtain ⟨nm, em, tm, zn⟩ := i
  unfold idF at h
  simp only [Bool.and_eq_true, decide_eq_true_eq] at h
  obtain ⟨⟨⟨⟨⟨w1, w2⟩, t0⟩, t1⟩, z0⟩, z1⟩ := h
  have hl : (putB ⟨nm, em, tm, zn⟩).data.toList = nm.data.toList ++ 32 :: 60 :: (em.data.toList ++ 62 :: 32 :: (Lib.decDigits tm.toNat ++ 32 :: ((if zn < 0 then 45 else 43) :: zl zn.natAbs))) := by
    unfold putB
    simp only [ByteArray.data_append, Array.toList_append, zone_list z0 z1, Lib.itoa]
    rw [if_neg (by omega)]
    simp
  have c1 := cut2 32 60 (by decide) nm.data.toList (em.data.toList ++ 62 :: 32 :: (Lib.decDigits tm.toNat ++ 32 :: ((if zn < 0 then 45 else 43) :: zl zn.natAbs))) (who_mem w1).1
  have c2 := cut3 62 32 em.data.toList (Lib.decDigits tm.toNat ++ 32 :: ((if zn < 0 then 45 else 43) :: zl zn.natAbs)) (who_mem w2).2
  have c3 := cut1 32 (Lib.decDigits tm.toNat) ((if zn < 0 then 45 else 43) :: zl zn.natAbs) (fun hm => by have := dec_mem _ _ (Nat.lt_succ_self tm.toNat) _ hm; simp at this)
  have b1 : c1B (putB ⟨nm, em, tm, zn⟩) [32, 60] = nm := by unfold c1B; rw [hl, c1]
  have b2 : (c2B (putB ⟨nm, em, tm, zn⟩) [32, 60]).data.toList = em.data.toList ++ 62 :: 32 :: (Lib.decDigits tm.toNat ++ 32 :: ((if zn < 0 then 45 else 43) :: zl zn.natAbs)) := by unfold c2B; rw [hl, c1]
  have b3 : c1B (c2B (putB ⟨nm, em, tm, zn⟩) [32, 60]) [62, 32] = em := by unfold c1B; rw [b2, c2]
  have b4 : (c2B (c2B (putB ⟨nm, em, tm, zn⟩) [32, 60]) [62, 32]).data.toList = Lib.decDigits tm.toNat ++ 32 :: ((if zn < 0 then 45 else 43) :: zl zn.natAbs) := by
    have : ∀ x : ByteArray, (c2B x [62, 32]).data.toList = (Lib.cut x.data.toList [62, 32]).2.1 := fun _ => rfl
    rw [this, b2, c2]
  have b5 : (c1B (c2B (c2B (putB ⟨nm, em, tm, zn⟩) [32, 60]) [62, 32]) [32]).data.toList = Lib.decDigits tm.toNat := by
    have : ∀ x : ByteArray, (c1B x [32]).data.toList = (Lib.cut x.data.toList [32]).1 := fun _ => rfl
    rw [this, b4, c3]
  have b6 : (c2B (c2B (c2B (putB ⟨nm, em, tm, zn⟩) [32, 60]) [62, 32]) [32]).data.toList = (if zn < 0 then 45 else 43) :: zl zn.natAbs := by
    have : ∀ x : ByteArray, (c2B x [32]).data.toList = (Lib.cut x.data.toList [32]).2.1 := fun _ => rfl
    rw [this, b4, c3]
  have a1 : atoF (c1B (c2B (c2B (putB ⟨nm, em, tm, zn⟩) [32, 60]) [62, 32]) [32]) = tm := by
    unfold atoF
    rw [b5, ato_dec _ (by omega)]
    show ((tm.toNat : Nat) : Int) = tm
    omega
  have a2 := zone_back z0 z1 (atoF (c2B (c2B (c2B (putB ⟨nm, em, tm, zn⟩) [32, 60]) [62, 32]) [32])) (by
    unfold atoF
    rw [b6, ato_zone z0 z1])
  unfold rfF
  rw [b1, b3, a1, a2]
theorem prs_put {i : Idt} (h : idF i = true) : prsF (putB i) = (i, 0) := by
  unfold prsF
  rw [back_put h, if_pos ⟨h, rfl⟩]
end Go.Proofs.YtkbalngddlhlpaaGreatDoor
