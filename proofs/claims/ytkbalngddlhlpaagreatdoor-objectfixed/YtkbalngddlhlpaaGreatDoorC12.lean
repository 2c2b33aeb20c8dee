/-
  What the document's reader of commits guesses. (Pure.)
-/
import Derived.Test.YtkbalngddlhlpaaGreatDoorC6
import Derived.Test.YtkbalngddlhlpaaGreatDoorC8
import Derived.Test.YtkbalngddlhlpaaGreatDoorShD3
import Derived.Test.YtkbalngddlhlpaaGreatDoorC2
import Derived.Test.YtkbalngddlhlpaaGreatDoorO10C
import Derived.Test.YtkbalngddlhlpaaGreatDoorO14
namespace Go.Proofs.YtkbalngddlhlpaaGreatDoor
open Go.RowKit

def PlS : List UInt8 → List (List Int) → List UInt8 → Prop
  | t, [], t' => t' = t
  | t, p :: ps, t' => ∃ a b, LnAt t wP a b ∧ p = Sh.parF ⟨a.toArray⟩ ∧ PlS b ps t'
theorem PlS.snoc : ∀ {ps : List (List Int)} {t t' a b : List UInt8}, PlS t ps t' → LnAt t' wP a b → PlS t (ps ++ [Sh.parF ⟨a.toArray⟩]) b
  | [], t, t', a, b, h, hp => by
    have h : t' = t := h
    subst h
    exact ⟨a, b, hp, rfl, rfl⟩
  | p :: ps, t, t', a, b, h, hp => by
    obtain ⟨x, y, h1, h2, h3⟩ := h
    exact ⟨x, y, h1, h2, PlS.snoc h3 hp⟩






structure CmS (w1 wa w2 : World) (R : CmC) (pv : Value) : Prop where
  al : w1.alloc (.cells (cm0.l pv0).toArray 40) = wa
  st : wa.setCells w1.heap.size 0 (R.l pv) = w2
  th : wa.there w1.heap.size 0 (R.l pv).toArray.size
  bl : CmB w2 w1.heap.size R pv
  be : Below w1.heap.size w1 w2
theorem cm_store (w1 : World) {R : CmC} (pv : Value) (hok : R.ok) : ∃ wa w2, CmS w1 wa w2 R pv := by
  obtain ⟨wa, hwa, hBa, hLa⟩ := CmC.box w1 cm0 pv0
  exact ⟨wa, _, hwa, rfl, hLa.thereAt cm0_ok 0 _ (by rw [List.size_toArray, CmC.len hok]; omega), hLa.over cm0_ok hok, Sh.below_cells (Nat.le_refl _) _ _ _ _ hBa⟩
end Go.Proofs.YtkbalngddlhlpaaGreatDoor
