/-
  Walks: the document's Pad.
-/
import Derived.Test.YtldnjgkpdlchaaaGreatDoorShP
namespace Go.Proofs.YtldnjgkpdlchaaaGreatDoor.Sh
open Go.RowKit

def zerP (j : Nat) : List Int := 128 :: List.replicate j 0
theorem zerP_length (j : Nat) : (zerP j).length = j + 1 := by simp [zerP]
theorem zerP_step (j : Nat) : zerP j ++ [0] = zerP (j + 1) := by
  simp [zerP, List.replicate_succ']
theorem padP_zero (N : Nat) : zerP (zcF N) = padP N 0 := by simp [zerP, padP]
theorem padP_step (N k : Nat) : padP N k ++ [lenB N k] = padP N (k + 1) := by simp [padP, List.range_succ]
theorem zc_last (N j : Nat) (h : j ≤ zcF N) : (((N : Int) % 64 + ((j : Int) + 1) + 8) % 64 = 0) ↔ j = zcF N := by
  unfold zcF at *
  omega

def vLen : Value → Nat
  | .slice _ n _ => n
  | _ => 0

end Go.Proofs.YtldnjgkpdlchaaaGreatDoor.Sh
