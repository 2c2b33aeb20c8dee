/-
  Walks: the document's compress.
-/
import Derived.Test.YtldnjgkpdlchaaaGreatDoorShC
namespace Go.Proofs.YtldnjgkpdlchaaaGreatDoor.Sh
open Go.RowKit

theorem St.add_comm (r s : St) : r.add s = s.add r := by
  simp only [St.add, addW, Int.add_comm]

theorem Blk.far8 {w : World} {b g : Nat} {t : TypeId} {xs : List Int} (h : Blk w b t xs) (hne : b ≠ g) (s : St) : Blk (set8 w g s) b t xs :=
  (((((((h.other hne _).other hne _).other hne _).other hne _).other hne _).other hne _).other hne _).other hne _
theorem Blk.over8' {w : World} {g : Nat} {r : St} (h : Blk w g 54 r.list) (s : St) : Blk (set8 w g s) g 54 s.list :=
  (((((((h.set 0 s.a).set 1 s.b).set 2 s.c).set 3 s.d).set 4 s.e).set 5 s.f).set 6 s.g).set 7 s.h
theorem quiet_add {P : Program} {f : FuncId} {args : Array Value} {w : World} {k n : Nat} {v : Value}
    (h : Calls P f args (w.drewN (k + n)) fun e w' => e = .returned v ∧ ∃ m, w' = (w.drewN (k + n)).drewN m) : Calls P f args (w.drewN (k + n)) fun e w'' => e = .returned v ∧ ∃ m, w'' = w.drewN (k + m) :=
  h.mono fun _ _ ⟨he, m, hm⟩ => ⟨he, n + m, by rw [hm, World.drewN_drewN, Nat.add_assoc]⟩

end Go.Proofs.YtldnjgkpdlchaaaGreatDoor.Sh
