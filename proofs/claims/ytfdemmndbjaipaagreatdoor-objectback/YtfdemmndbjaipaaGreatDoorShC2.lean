/-
  The plain mathematics of chains of blocks.
-/
import Derived.Test.YtfdemmndbjaipaaGreatDoorShA
namespace Go.Proofs.YtfdemmndbjaipaaGreatDoor.Sh

theorem thruF_append (ks xs ys : List Int) (s : St) : ∀ (k : Nat), 64 * k ≤ xs.length → thruF ks (xs ++ ys) s k = thruF ks xs s k
  | 0, _ => rfl
  | k + 1, h => by
    rw [thruF, thruF, thruF_append ks xs ys s k (by omega)]
    congr 1
    rw [List.drop_append_of_le_length (by omega), List.take_append_of_le_length (by rw [List.length_drop]; omega)]
theorem thruF_add (ks zs : List Int) (s : St) (a : Nat) : ∀ (b : Nat), thruF ks zs s (a + b) = thruF ks (zs.drop (64 * a)) (thruF ks zs s a) b
  | 0 => rfl
  | b + 1 => by
    rw [← Nat.add_assoc, thruF, thruF, thruF_add ks zs s a b, List.drop_drop]
    rw [show 64 * a + 64 * b = 64 * (a + b) from by omega]
theorem pad_whole (N : Nat) : (N + (1 + zcF N + 8)) % 64 = 0 := by
  unfold zcF
  omega
/-- The eight words of a sum are those behind the blocks of the whole padded text. -/
theorem sumS_whole (ks xs : List Int) : thruF ks (xs ++ padF xs.length) St.first ((xs ++ padF xs.length).length / 64) = sumS ks xs := by
  have hw := pad_whole xs.length
  have e1 : (xs ++ padF xs.length).length = xs.length + (1 + zcF xs.length + 8) := by
    rw [List.length_append, padF, padP_length]
  have e2 : (xs ++ padF xs.length).length / 64 = xs.length / 64 + (lastF xs).length / 64 := by
    rw [e1, lastF_length]
    omega
  rw [e2, thruF_add, thruF_append _ _ _ _ _ (by omega), List.drop_append_of_le_length (by omega)]
  rfl


theorem St.add_comm (r s : St) : r.add s = s.add r := by
  simp only [St.add, addW, Int.add_comm]

theorem Blk.far8 {w : World} {b g : Nat} {t : TypeId} {xs : List Int} (h : Blk w b t xs) (hne : b ≠ g) (s : St) : Blk (set8 w g s) b t xs :=
  (((((((h.other hne _).other hne _).other hne _).other hne _).other hne _).other hne _).other hne _).other hne _
theorem Blk.over8' {w : World} {g : Nat} {r : St} (h : Blk w g 81 r.list) (s : St) : Blk (set8 w g s) g 81 s.list :=
  (((((((h.set 0 s.a).set 1 s.b).set 2 s.c).set 3 s.d).set 4 s.e).set 5 s.f).set 6 s.g).set 7 s.h
theorem quiet_add {P : Program} {f : FuncId} {args : Array Value} {w : World} {k n : Nat} {v : Value}
    (h : Calls P f args (w.drewN (k + n)) fun e w' => e = .returned v ∧ ∃ m, w' = (w.drewN (k + n)).drewN m) : Calls P f args (w.drewN (k + n)) fun e w'' => e = .returned v ∧ ∃ m, w'' = w.drewN (k + m) :=
  h.mono fun _ _ ⟨he, m, hm⟩ => ⟨he, n + m, by rw [hm, World.drewN_drewN, Nat.add_assoc]⟩

end Go.Proofs.YtfdemmndbjaipaaGreatDoor.Sh
