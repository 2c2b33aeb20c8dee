/-
  The plain mathematics of both sums.
-/
import Derived.Test.YtfabfhmgnhddoaaK
namespace Go.Proofs.Ytfabfhmgnhddoaa
open Go.RowKit

/-- Both parts of Adler's sum behind a list. -/
def adlP : List Int → Int → Int → Int × Int
  | [], a, b => (a, b)
  | x :: l, a, b => adlP l ((a + x) % 65521) ((b + (a + x) % 65521) % 65521)
def adlF (p : List Int) : Int := 65536 * (adlP p 1 0).2 + (adlP p 1 0).1

/-- One turn of the CRC. -/
def crcS (c : Int) : Int := if c % 2 = 1 then bits .xor .u32 (c / 2) 3988292384 else c / 2
def crcN : Nat → Int → Int
  | 0, c => c
  | n + 1, c => crcN n (crcS c)
def crcP : List Int → Int → Int
  | [], c => c
  | x :: l, c => crcP l (crcN 8 (bits .xor .u32 c x))
def crcF (p : List Int) : Int := bits .xor .u32 IntKind.u32.max (crcP p 4294967295)

theorem bits_w (op : BinOp) (a b : Int) : 0 ≤ bits op .u32 a b ∧ bits op .u32 a b < 4294967296 := by
  have := bits_within op .u32 a b
  have e1 : IntKind.u32.min = 0 := by decide
  have e2 : IntKind.u32.max = 4294967295 := by decide
  omega
theorem crcS_range (c : Int) (h0 : 0 ≤ c) (h1 : c < 4294967296) : 0 ≤ crcS c ∧ crcS c < 4294967296 := by
  unfold crcS
  split
  · exact bits_w _ _ _
  · omega
theorem and_one (c : Int) (h0 : 0 ≤ c) (h1 : c < 4294967296) : bits .and .u32 c 1 = c % 2 := by
  rw [u32_and c 1 h0 h1 (by omega) (by omega), show (1 : Int).toNat = 1 from rfl, Nat.and_one_is_mod]
  omega
theorem or_add (i : Nat) (x y : Int) (hx0 : 0 ≤ x) (hx1 : x < 4294967296) (hm : x.toNat % 2 ^ i = 0) (hy0 : 0 ≤ y) (hy : y.toNat < 2 ^ i) (hy1 : y < 4294967296) : bits .or .u32 x y = x + y := by
  rw [u32_or x y hx0 hx1 hy0 hy1, nat_join i x.toNat y.toNat hm hy]
  omega
theorem adl_or (a b : Int) (h0 : 0 ≤ a) (h1 : a < 65521) (h2 : 0 ≤ b) (h3 : b < 65521) : bits .or .u32 (b * 65536) a = 65536 * b + a := by
  rw [or_add 16 (b * 65536) a (by omega) (by omega) (by omega) (by omega) (by omega) (by omega)]
  omega
end Go.Proofs.Ytfabfhmgnhddoaa
