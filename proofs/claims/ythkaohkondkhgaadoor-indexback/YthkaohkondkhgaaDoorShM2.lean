/-
  The plain mathematics of a block's rounds.
-/
import Derived.Test.YthkaohkondkhgaaDoorShM
namespace Go.Proofs.YthkaohkondkhgaaDoor.Sh

def bS1 (e : Int) : Int := bits .xor .u32 (bits .xor .u32 (rotr e 6) (rotr e 11)) (rotr e 25)
def bS0 (a : Int) : Int := bits .xor .u32 (bits .xor .u32 (rotr a 2) (rotr a 13)) (rotr a 22)
def chF (e f g : Int) : Int := bits .xor .u32 (bits .and .u32 e f) (bits .and .u32 (bits .xor .u32 IntKind.u32.max e) g)
def majF (a b c : Int) : Int := bits .xor .u32 (bits .xor .u32 (bits .and .u32 a b) (bits .and .u32 a c)) (bits .and .u32 b c)

/-- Eight words. -/
structure St where
  a : Int
  b : Int
  c : Int
  d : Int
  e : Int
  f : Int
  g : Int
  h : Int
def St.list (s : St) : List Int := [s.a, s.b, s.c, s.d, s.e, s.f, s.g, s.h]
def stepU (s : St) (K V : Int) : Int := (s.h + bS1 s.e + chF s.e s.f s.g + K + V) % 4294967296
def stepV (s : St) : Int := (bS0 s.a + majF s.a s.b s.c) % 4294967296
def stepF (s : St) (K V : Int) : St := ⟨(stepU s K V + stepV s) % 4294967296, s.a, s.b, s.c, (s.d + stepU s K V) % 4294967296, s.e, s.f, s.g⟩
/-- The eight words behind k rounds. -/
def rdF (s : St) (ks ws : List Int) : Nat → St
  | 0 => s
  | k + 1 => stepF (rdF s ks ws k) (ks.getD k 0) (ws.getD k 0)
def St.ok (s : St) : Prop := (0 ≤ s.a ∧ s.a < 4294967296) ∧ (0 ≤ s.b ∧ s.b < 4294967296) ∧ (0 ≤ s.c ∧ s.c < 4294967296) ∧ (0 ≤ s.d ∧ s.d < 4294967296) ∧ (0 ≤ s.e ∧ s.e < 4294967296) ∧ (0 ≤ s.f ∧ s.f < 4294967296) ∧ (0 ≤ s.g ∧ s.g < 4294967296) ∧ (0 ≤ s.h ∧ s.h < 4294967296)
theorem stepF_ok {s : St} (h : s.ok) (K V : Int) : (stepF s K V).ok := by
  obtain ⟨h1, h2, h3, h4, h5, h6, h7, h8⟩ := h
  exact ⟨⟨by simp only [stepF]; omega, by simp only [stepF]; omega⟩, h1, h2, h3, ⟨by simp only [stepF]; omega, by simp only [stepF]; omega⟩, h5, h6, h7⟩
theorem rdF_ok {s : St} (h : s.ok) (ks ws : List Int) (k : Nat) : (rdF s ks ws k).ok := by
  induction k with
  | zero => exact h
  | succ k ih => exact stepF_ok ih _ _
end Go.Proofs.YthkaohkondkhgaaDoor.Sh
