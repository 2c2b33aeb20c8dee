/-
  The plain mathematics of chains of blocks.
-/
import Derived.Test.YtldnjgkpdlchaaaGreatDoorShS
namespace Go.Proofs.YtldnjgkpdlchaaaGreatDoor.Sh

theorem thruF_append (ks xs ys : List Int) (s : St) : ∀ (k : Nat), 64 * k ≤ xs.length → thruF ks (xs ++ ys) s k = thruF ks xs s k
  | 0, _ => rfl
  | k + 1, h => by
    rw [thruF, thruF, thruF_append ks xs ys s k (by omega)]
    congr 1
    rw [List.drop_append_of_le_length (by omega), List.take_append_of_le_length (by rw [List.length_drop]; omega)]
theorem thruF_add (ks zs : List Int) (s : St) (a : Nat) : ∀ (b : Nat), thruF ks zs s (a + b) = thruF ks (zs.drop (64 * a)) (thruF ks zs s a) b
  | 0 => rfl
  | b + 1 => by
    rw [← Nat.add_assoc, thruF, thruF, thruF_add ks zs s a b, List.drop_drop]
    rw [show 64 * a + 64 * b = 64 * (a + b) from by omega]
theorem pad_whole (N : Nat) : (N + (1 + zcF N + 8)) % 64 = 0 := by
  unfold zcF
  omega
/-- The eight words of a sum are those behind the blocks of the whole padded text. -/
theorem sumS_whole (ks xs : List Int) : thruF ks (xs ++ padF xs.length) St.first ((xs ++ padF xs.length).length / 64) = sumS ks xs := by
  have hw := pad_whole xs.length
  have e1 : (xs ++ padF xs.length).length = xs.length + (1 + zcF xs.length + 8) := by
    rw [List.length_append, padF, padP_length]
  have e2 : (xs ++ padF xs.length).length / 64 = xs.length / 64 + (lastF xs).length / 64 := by
    rw [e1, lastF_length]
    omega
  rw [e2, thruF_add, thruF_append _ _ _ _ _ (by omega), List.drop_append_of_le_length (by omega)]
  rfl
end Go.Proofs.YtldnjgkpdlchaaaGreatDoor.Sh
