/-
  The plain mathematics of deltas: numbers of which only some bytes stand there, instructions, what a delta makes.
-/
import Derived.Test.YtkidoknklgoffaaNuW12
import Derived.Test.YtkidoknklgoffaaK
import Derived.Test.YtkidoknklgoffaaQ2
import Derived.Deep.Cut
namespace Go.Proofs.Ytkidoknklgoffaa
open Go.RowKit

/-- A number of n bytes from the i-th on, of which only those stand there whose bit is 1. -/
def spF (d : List Int) (c : Int) : Nat → Nat → Int → Nat → Option (Int × Nat)
  | 0, _, x, at_ => some (x, at_)
  | n + 1, i, x, at_ =>
    if c / 2 ^ i % 2 = 0 then spF d c n (i + 1) x at_
    else if at_ < d.length then spF d c n (i + 1) (x + d.getD at_ 0 * 256 ^ i) (at_ + 1)
    else none
theorem spF_le (d : List Int) (c : Int) : ∀ (n i : Nat) (x : Int) (at_ : Nat) (y : Int) (b : Nat), at_ ≤ d.length → spF d c n i x at_ = some (y, b) → at_ ≤ b ∧ b ≤ d.length
  | 0, i, x, at_, y, b, h, e => by
    simp [spF] at e
    omega
  | n + 1, i, x, at_, y, b, h, e => by
    rw [spF] at e
    split at e
    · exact spF_le d c n _ _ _ _ _ h e
    · split at e
      · have := spF_le d c n _ _ _ _ _ (by omega) e
        omega
      · simp at e
theorem spF_lt (d : List Int) (c : Int) (hd : AllB d) : ∀ (n i : Nat) (x : Int) (at_ : Nat) (y : Int) (b : Nat), 0 ≤ x → x < 256 ^ i → spF d c n i x at_ = some (y, b) → 0 ≤ y ∧ y < 256 ^ (i + n)
  | 0, i, x, at_, y, b, h0, h1, e => by
    simp [spF] at e
    obtain ⟨rfl, rfl⟩ := e
    exact ⟨h0, h1⟩
  | n + 1, i, x, at_, y, b, h0, h1, e => by
    have hp : (0 : Int) < 256 ^ i := Int.pow_pos (by omega)
    rw [spF] at e
    rw [show i + (n + 1) = i + 1 + n from by omega]
    split at e
    · exact spF_lt d c hd n _ _ _ _ _ h0 (by rw [Int.pow_succ]; omega) e
    · split at e
      · have hg := hd.getD (by omega) at_
        have h3 : d.getD at_ 0 * 256 ^ i ≤ 255 * 256 ^ i := Int.mul_le_mul_of_nonneg_right (by omega) (by omega)
        have h4 : 0 ≤ d.getD at_ 0 * 256 ^ i := Int.mul_nonneg hg.1 (by omega)
        exact spF_lt d c hd n _ _ _ _ _ (by omega) (by rw [Int.pow_succ]; omega) e
      · simp at e

/-- What an instruction puts out, and the place behind it; or what is wrong. -/
inductive An (α : Type)
  | ok (a : α)
  | bad (e : Int)

/-- A count 0 is 65536. -/
def cntF (n : Int) : Int := if n = 0 then 65536 else n
def cpF (base d : List Int) (c : Int) (at_ : Nat) : An (List Int × Nat) :=
  match spF d c 4 0 0 at_ with
  | none => .bad 5
  | some (p, a1) => match spF d (c / 16) 3 0 0 a1 with
    | none => .bad 5
    | some (n, a2) => if (base.length : Int) < p + cntF n then .bad 4 else .ok ((base.drop p.toNat).take (cntF n).toNat, a2)
def insF (base d : List Int) (at_ : Nat) : An (List Int × Nat) :=
  if d.getD at_ 0 = 0 then .bad 4
  else if d.getD at_ 0 < 128 then
    if (d.length : Int) < at_ + 1 + d.getD at_ 0 then .bad 5 else .ok ((d.drop (at_ + 1)).take (d.getD at_ 0).toNat, at_ + 1 + (d.getD at_ 0).toNat)
  else cpF base d (d.getD at_ 0) (at_ + 1)
def goF (base d : List Int) (size : Nat) : Nat → List Int → Nat → An (List Int)
  | 0, _, _ => .bad 5
  | f + 1, out, at_ =>
    if at_ < d.length then
      match insF base d at_ with
      | .bad e => .bad e
      | .ok (part, b) => if size < out.length + part.length then .bad 4 else goF base d size f (out ++ part) b
    else if out.length < size then .bad 4 else .ok out
/-- Both sizes: the count of the result's bytes, and the place behind. -/
def hdF (n : Nat) (d : List Int) (most : Nat) : An (Nat × Nat) :=
  match Nu.sizeS d 0 with
  | (a, at_, e) => if e ≠ 0 then .bad e else if a ≠ n then .bad 4 else
    match Nu.sizeS d at_ with
    | (b, at2, e2) => if e2 ≠ 0 then .bad e2 else if (most : Int) < b then .bad 10 else .ok (b.toNat, at2.toNat)
def applF (base d : List Int) (most : Nat) : An (List Int) :=
  match hdF base.length d most with
  | .bad e => .bad e
  | .ok (size, at_) => goF base d size (d.length + 1) [] at_
end Go.Proofs.Ytkidoknklgoffaa
