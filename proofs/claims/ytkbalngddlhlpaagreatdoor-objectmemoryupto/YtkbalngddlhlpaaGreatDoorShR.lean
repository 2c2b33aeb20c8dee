/-
  Walks: one round of the document's Sum, as laws.
-/
import Derived.Test.YtkbalngddlhlpaaGreatDoorShC2
import Derived.Test.YtkbalngddlhlpaaGreatDoorShP2
import Derived.Test.YtkbalngddlhlpaaGreatDoorShQ2
namespace Go.Proofs.YtkbalngddlhlpaaGreatDoor.Sh
open Go.RowKit

theorem quiet_load_mid {P : Program} {C : World → Prop} {K : Act → Prop} {o : Oper} {a : Act} (ty : TypeId) (x : Operand) (ho : o.op = .load ty x)
    (b off : Nat) (hx : a.eval x = .pointer (some ⟨b, off, none⟩)) (cs : List Value) (d : TypeDesc) (hS : ∀ w, C w → w.rangeAt b off cs)
    (hu : P.underlying ty = some d) (hd : d.isRow = true) (hi : (P.info? ty).map (·.size) = some cs.length) (hk : K (a.put o.dst (.agg cs.toArray))) : o.quiet P a C K :=
  ⟨_, fun w hw => by
    unfold Oper.quietAt execOp
    simp only [ho, hx, Instr.loadAt, Instr.sureAddr, Sem.run_bind, Sem.run_pure, Result.andThen_ok, run_loadVar_mid w b off ty cs d (hS w hw) hu hd hi]
    exact ⟨rfl, rfl⟩, hk⟩
theorem Own.cells_far {e : TypeId} {w : World} {base g o : Nat} {v : Value} {xs : List Int} (h : Own e w base v xs) (hg : g < base) (vs : List Value) : Own e (w.setCells g o vs) base v xs := by
  rcases h with ⟨h1, h2⟩
  refine ⟨h1, ?_⟩
  rcases h2 with h2 | ⟨g', cap, cur, hv, hg', hh, r⟩
  · exact Or.inl h2
  · exact Or.inr ⟨g', cap, cur, hv, hg', by rw [heap_setCells_far g g' (by omega)]; exact hh, r⟩
theorem Rd.part {w : World} {b off n c : Nat} {xs : List Int} (h : Rd w (.slice (some ⟨b, off, Option.none⟩) n c) xs) (k : Nat) (hk : k + 64 ≤ xs.length) : Rd w (.slice (some ⟨b, off + k, Option.none⟩) 64 (c - k)) ((xs.drop k).take 64) := by
  have h' := h
  obtain ⟨a', c', hv, h1, h2, h3, h4, h5⟩ := h
  injection hv with e1 e2 e3
  subst e1 e2 e3
  have hl : ((xs.drop k).take 64).length = 64 := by simp; omega
  obtain ⟨b', off', e, hlt, hc⟩ := h5 (by omega)
  injection e with e
  injection e with e4 e5
  subst e4 e5
  refine ⟨_, c - k, by rw [hl], by omega, by omega, (h3.drop k).take 64, (fun h => by cases h), fun _ => ⟨b, off + k, rfl, hlt, fun i hi => ?_⟩⟩
  have := hc (k + i) (by omega)
  rw [Nat.add_assoc, this, getD_part _ _ _ (by omega)]

end Go.Proofs.YtkbalngddlhlpaaGreatDoor.Sh
