/-
  The plain mathematics of words.
-/
import Derived.WalkKit
import Derived.Test.YthkaohkondkhgaaDoorRows
import Derived.WalkSpells
import Derived.WalkLawsBesides
import Derived.Deep.QuietTactic
import Derived.BigQuiet
namespace Go.Proofs.YthkaohkondkhgaaDoor.Sh
open Go.RowKit

/-- x turned right by s places. -/
def rotr (x s : Int) : Int := x / 2 ^ s.toNat + x * 2 ^ (32 - s.toNat) % 4294967296

theorem rot_parts (x : Int) (s : Nat) (hx0 : 0 ≤ x) (hx1 : x < 4294967296) (hs1 : s ≤ 31) (hs0 : 1 ≤ s) :
    x * 2 ^ (32 - s) % 4294967296 = (x % 2 ^ s) * 2 ^ (32 - s) ∧ 0 ≤ x / 2 ^ s ∧ x / 2 ^ s < 2 ^ (32 - s) ∧ 0 ≤ x % 2 ^ s ∧ (x % 2 ^ s) * 2 ^ (32 - s) + 2 ^ (32 - s) ≤ 4294967296 := by
  have e : (4294967296 : Int) = 2 ^ s * 2 ^ (32 - s) := by
    rw [← Int.pow_add, show s + (32 - s) = 32 from by omega]
    rfl
  have hp : (0 : Int) < 2 ^ s := Int.pow_pos (by omega)
  have hq : (0 : Int) < 2 ^ (32 - s) := Int.pow_pos (by omega)
  refine ⟨?_, Int.ediv_nonneg hx0 (by omega), ?_, Int.emod_nonneg _ (by omega), ?_⟩
  · rw [e, Int.mul_comm x, Int.mul_comm (2 ^ s), Int.mul_emod_mul_of_pos _ _ hq, Int.mul_comm]
  · apply Int.ediv_lt_of_lt_mul hp
    rw [Int.mul_comm, ← e]
    exact hx1
  · have h := Int.emod_lt_of_pos x hp
    have h2 : (x % 2 ^ s + 1) * 2 ^ (32 - s) ≤ 2 ^ s * 2 ^ (32 - s) := Int.mul_le_mul_of_nonneg_right (by omega) (by omega)
    rw [Int.add_mul, Int.one_mul, ← e] at h2
    exact h2

theorem rotr_range (x s : Int) (hx0 : 0 ≤ x) (hx1 : x < 4294967296) (hs0 : 1 ≤ s) (hs1 : s ≤ 31) : 0 ≤ rotr x s ∧ rotr x s < 4294967296 := by
  obtain ⟨e, h1, h2, h3, h4⟩ := rot_parts x s.toNat hx0 hx1 (by omega) (by omega)
  have hq : (0 : Int) < 2 ^ (32 - s.toNat) := Int.pow_pos (by omega)
  have h5 := Int.mul_nonneg h3 (Int.le_of_lt hq)
  unfold rotr
  rw [e]
  omega

theorem rot_or (x : Int) (s : Nat) (hx0 : 0 ≤ x) (hx1 : x < 4294967296) (hs1 : s ≤ 31) (hs0 : 1 ≤ s) : bits .or .u32 (x * 2 ^ (32 - s) % 4294967296) (x / 2 ^ s) = rotr x s := by
  obtain ⟨e, h1, h2, h3, h4⟩ := rot_parts x s hx0 hx1 hs1 hs0
  have hq : (0 : Int) < 2 ^ (32 - s) := Int.pow_pos (by omega)
  have h5 := Int.mul_nonneg h3 (Int.le_of_lt hq)
  have hpow : ((2 : Int) ^ (32 - s)) = ((2 ^ (32 - s) : Nat) : Int) := by simp
  unfold rotr
  rw [Int.toNat_natCast, e, u32_or _ _ h5 (by omega) h1 (by omega), nat_join (32 - s) _ _ ?_ ?_]
  · omega
  · obtain ⟨n, hn⟩ := Int.eq_ofNat_of_zero_le h3
    rw [hn, hpow, ← Int.natCast_mul, Int.toNat_natCast]
    exact Nat.mul_mod_left _ _
  · have : x / 2 ^ s < ((2 ^ (32 - s) : Nat) : Int) := by rw [← hpow]; exact h2
    omega

theorem and31 (s : Int) (hs0 : 1 ≤ s) (hs1 : s ≤ 31) : bits .and .u64 (IntKind.u64.wrap (-s)) 31 = 32 - s := by
  rw [IntKind.wrap_u64, u64_and _ 31 (by omega) (by omega) (by omega) (by omega), show (31 : Int).toNat = 31 from rfl, nat_mask5]
  omega

/-- The word that four bytes write. -/
def be4 (a b c d : Int) : Int := a * 16777216 + b * 65536 + c * 256 + d
theorem be4_range (a b c d : Int) (ha : 0 ≤ a ∧ a < 256) (hb : 0 ≤ b ∧ b < 256) (hc : 0 ≤ c ∧ c < 256) (hd : 0 ≤ d ∧ d < 256) : 0 ≤ be4 a b c d ∧ be4 a b c d < 4294967296 := by
  unfold be4
  omega
theorem or_add (i : Nat) (x y : Int) (hx0 : 0 ≤ x) (hx1 : x < 4294967296) (hm : x.toNat % 2 ^ i = 0) (hy0 : 0 ≤ y) (hy : y.toNat < 2 ^ i) (hy1 : y < 4294967296) : bits .or .u32 x y = x + y := by
  rw [u32_or x y hx0 hx1 hy0 hy1, nat_join i x.toNat y.toNat hm hy]
  omega
theorem word4 (a b c d : Int) (ha : 0 ≤ a ∧ a < 256) (hb : 0 ≤ b ∧ b < 256) (hc : 0 ≤ c ∧ c < 256) (hd : 0 ≤ d ∧ d < 256) :
    bits .or .u32 (bits .or .u32 (bits .or .u32 (IntKind.u32.wrap (a * 16777216)) (IntKind.u32.wrap (b * 65536))) (IntKind.u32.wrap (c * 256))) d = be4 a b c d := by
  have w1 : IntKind.u32.wrap (a * 16777216) = a * 16777216 := by rw [IntKind.wrap_u32']; omega
  have w2 : IntKind.u32.wrap (b * 65536) = b * 65536 := by rw [IntKind.wrap_u32']; omega
  have w3 : IntKind.u32.wrap (c * 256) = c * 256 := by rw [IntKind.wrap_u32']; omega
  have o1 := or_add 24 (a * 16777216) (b * 65536) (by omega) (by omega) (by omega) (by omega) (by omega) (by omega)
  have o2 := or_add 16 (a * 16777216 + b * 65536) (c * 256) (by omega) (by omega) (by omega) (by omega) (by omega) (by omega)
  have o3 := or_add 8 (a * 16777216 + b * 65536 + c * 256) d (by omega) (by omega) (by omega) (by omega) (by omega) (by omega)
  rw [w1, w2, w3, o1, o2, o3]
  rfl

theorem bits_w (op : BinOp) (a b : Int) : 0 ≤ bits op .u32 a b ∧ bits op .u32 a b < 4294967296 := by
  have := bits_within op .u32 a b
  have e1 : IntKind.u32.min = 0 := by decide
  have e2 : IntKind.u32.max = 4294967295 := by decide
  omega
def sig0 (x : Int) : Int := bits .xor .u32 (bits .xor .u32 (rotr x 7) (rotr x 18)) (x / 8)
def sig1 (x : Int) : Int := bits .xor .u32 (bits .xor .u32 (rotr x 17) (rotr x 19)) (x / 1024)
theorem sig0_range (x : Int) : 0 ≤ sig0 x ∧ sig0 x < 4294967296 := bits_w _ _ _
theorem sig1_range (x : Int) : 0 ≤ sig1 x ∧ sig1 x < 4294967296 := bits_w _ _ _
/-- The word that follows. -/
def nextW (l : List Int) (t : Nat) : Int := (l.getD (t - 16) 0 + l.getD (t - 7) 0 + sig0 (l.getD (t - 15) 0) + sig1 (l.getD (t - 2) 0)) % 4294967296
/-- The first t words of a block. -/
def schF (bs : List Int) : Nat → List Int
  | 0 => []
  | t + 1 => schF bs t ++ [if t < 16 then be4 (bs.getD (4 * t) 0) (bs.getD (4 * t + 1) 0) (bs.getD (4 * t + 2) 0) (bs.getD (4 * t + 3) 0) else nextW (schF bs t) t]
theorem schF_length (bs : List Int) (t : Nat) : (schF bs t).length = t := by
  induction t with
  | zero => rfl
  | succ t ih => simp [schF, ih]
theorem take_set (ws : List Int) (k : Nat) (y : Int) (h : k < ws.length) : (ws.set k y).take (k + 1) = ws.take k ++ [y] := by
  rw [List.take_succ_eq_append_getElem (by simpa using h), List.take_set_of_le (Nat.le_refl _)]
  simp
theorem getD_take (ws : List Int) (k i : Nat) (h : i < k) : (ws.take k).getD i 0 = ws.getD i 0 := by
  simp [List.getD, h]


def bS1 (e : Int) : Int := bits .xor .u32 (bits .xor .u32 (rotr e 6) (rotr e 11)) (rotr e 25)
def bS0 (a : Int) : Int := bits .xor .u32 (bits .xor .u32 (rotr a 2) (rotr a 13)) (rotr a 22)
def chF (e f g : Int) : Int := bits .xor .u32 (bits .and .u32 e f) (bits .and .u32 (bits .xor .u32 IntKind.u32.max e) g)
def majF (a b c : Int) : Int := bits .xor .u32 (bits .xor .u32 (bits .and .u32 a b) (bits .and .u32 a c)) (bits .and .u32 b c)

/-- Eight words. -/
structure St where
  a : Int
  b : Int
  c : Int
  d : Int
  e : Int
  f : Int
  g : Int
  h : Int
def St.list (s : St) : List Int := [s.a, s.b, s.c, s.d, s.e, s.f, s.g, s.h]
def stepU (s : St) (K V : Int) : Int := (s.h + bS1 s.e + chF s.e s.f s.g + K + V) % 4294967296
def stepV (s : St) : Int := (bS0 s.a + majF s.a s.b s.c) % 4294967296
def stepF (s : St) (K V : Int) : St := ⟨(stepU s K V + stepV s) % 4294967296, s.a, s.b, s.c, (s.d + stepU s K V) % 4294967296, s.e, s.f, s.g⟩
/-- The eight words behind k rounds. -/
def rdF (s : St) (ks ws : List Int) : Nat → St
  | 0 => s
  | k + 1 => stepF (rdF s ks ws k) (ks.getD k 0) (ws.getD k 0)
def St.ok (s : St) : Prop := (0 ≤ s.a ∧ s.a < 4294967296) ∧ (0 ≤ s.b ∧ s.b < 4294967296) ∧ (0 ≤ s.c ∧ s.c < 4294967296) ∧ (0 ≤ s.d ∧ s.d < 4294967296) ∧ (0 ≤ s.e ∧ s.e < 4294967296) ∧ (0 ≤ s.f ∧ s.f < 4294967296) ∧ (0 ≤ s.g ∧ s.g < 4294967296) ∧ (0 ≤ s.h ∧ s.h < 4294967296)
theorem stepF_ok {s : St} (h : s.ok) (K V : Int) : (stepF s K V).ok := by
  obtain ⟨h1, h2, h3, h4, h5, h6, h7, h8⟩ := h
  exact ⟨⟨by simp only [stepF]; omega, by simp only [stepF]; omega⟩, h1, h2, h3, ⟨by simp only [stepF]; omega, by simp only [stepF]; omega⟩, h5, h6, h7⟩
theorem rdF_ok {s : St} (h : s.ok) (ks ws : List Int) (k : Nat) : (rdF s ks ws k).ok := by
  induction k with
  | zero => exact h
  | succ k ih => exact stepF_ok ih _ _


set_option maxHeartbeats 400000 in
set_option maxRecDepth 100000 in
theorem turn_any (x s : Int) (w : World) (hx0 : 0 ≤ x) (hx1 : x < 4294967296) (hs0 : 1 ≤ s) (hs1 : s ≤ 31) :
    Calls Tryd.prog 104 #[.int .u32 x, .int .i64 s] w fun e w' => e = .returned (.int .u32 (rotr x s)) ∧ w' = w := by
  obtain ⟨n, rfl⟩ := Int.eq_ofNat_of_zero_le (show 0 ≤ s by omega)
  have ha := and31 (n : Int) hs0 hs1
  have hcast : (32 : Int) - (n : Int) = ((32 - n : Nat) : Int) := by omega
  rw [hcast] at ha
  have ho := rot_or x n hx0 hx1 (by omega) (by omega)
  have hc2 : (32 : Int) - ((32 - n : Nat) : Int) = (n : Int) := by omega
  clear hcast
  go_enter Tryd.func104, Tryd.ntmps104
  go_wp2
  go_ret
  exact ⟨rfl, rfl⟩

set_option maxHeartbeats 400000 in
set_option maxRecDepth 100000 in
theorem right_any (x s : Int) (w : World) (hx0 : 0 ≤ x) (hx1 : x < 4294967296) (hs0 : 1 ≤ s) (hs1 : s ≤ 31) :
    Calls Tryd.prog 92 #[.int .u32 x, .int .i64 s] w fun e w' => e = .returned (.int .u32 (rotr x s)) ∧ ∃ n, w' = w.drewN n := by
  obtain ⟨n, rfl⟩ := Int.eq_ofNat_of_zero_le (show 0 ≤ s by omega)
  have h2 : (0 : Int) ≤ 32 - n := by omega
  have hr := rotr_range x n hx0 hx1 hs0 hs1
  have HR : Hid ((x / 2 ^ n + x * 2 ^ (32 - n) % 4294967296) % 4294967296 = rotr x n) := (by
    show _ = rotr x n
    unfold rotr at hr ⊢
    rw [Int.toNat_natCast] at hr ⊢
    omega)
  go_enter Tryd.func92, Tryd.ntmps92
  go_wp2
  go_quiet (fail)
  go_wp2
  go_ret
  exact ⟨by rw [← HR.out]; rfl, _, rfl⟩
end Go.Proofs.YthkaohkondkhgaaDoor.Sh
