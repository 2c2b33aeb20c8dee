/-
  The document's Least, Header, DocHeader.
-/
import Derived.Test.YtkbalngddlhlpaaGreatDoorO9
import Derived.Test.YtkbalngddlhlpaaGreatDoorQ3
namespace Go.Proofs.YtkbalngddlhlpaaGreatDoor
open Go.RowKit



theorem quiet_load_mid {P : Program} {C : World → Prop} {K : Act → Prop} {o : Oper} {a : Act} (ty : TypeId) (x : Operand) (ho : o.op = .load ty x)
    (b off : Nat) (hx : a.eval x = .pointer (some ⟨b, off, none⟩)) (cs : List Value) (d : TypeDesc) (hc : ∀ w, C w → w.rangeAt b off cs)
    (hu : P.underlying ty = some d) (hd : d.isRow = true) (hi : (P.info? ty).map (·.size) = some cs.length) (hk : K (a.put o.dst (.agg cs.toArray))) : o.quiet P a C K :=
  quiet_run (fun w hw => by
    unfold execOp
    simp only [ho, hx, Instr.loadAt, Instr.sureAddr, Sem.run_bind, Sem.run_pure, Result.andThen_ok, run_loadVar_mid w b off ty cs d (hc w hw) hu hd hi]) hk

theorem fold_setE (off : Nat) : ∀ (L : List Value) (k : Nat) (C : Array Value), (L.zipIdx k).foldl (fun cs (x : Value × Nat) => cs.setIfInBounds (off + x.2) x.1) C = Sh.setL C (off + k) L
  | [], _, _ => rfl
  | v :: L, k, C => by
    rw [List.zipIdx_cons, List.foldl_cons, fold_setE off L (k + 1)]
    rfl
theorem setE_mid : ∀ (vs pre mid suf : List Value), mid.length = vs.length → Sh.setL (pre ++ mid ++ suf).toArray pre.length vs = (pre ++ vs ++ suf).toArray
  | [], pre, mid, suf, h => by
    have : mid = [] := List.eq_nil_of_length_eq_zero (by simpa using h)
    subst this
    rfl
  | v :: vs, pre, mid, suf, h => by
    cases mid with
    | nil => simp at h
    | cons s mid =>
      have e : (pre ++ s :: mid ++ suf).toArray.setIfInBounds pre.length v = ((pre ++ [v]) ++ mid ++ suf).toArray := by simp
      have ih := setE_mid vs (pre ++ [v]) mid suf (by simpa using h)
      rw [Sh.setL, e]
      simp only [List.length_append, List.length_singleton] at ih
      rw [ih]
      simp
theorem fillE_cons (place : Nat → Option (Nat × Nat)) (i : Nat) (v : Value) (rest : List (Nat × Value)) (pre mid suf cs : List Value) (hp : place i = some (pre.length, mid.length)) (hc : v.cells = cs.toArray) (hl : cs.length = mid.length) :
    Instr.fill place (pre ++ mid ++ suf).toArray ((i, v) :: rest) = Instr.fill place (pre ++ cs ++ suf).toArray rest := by
  have h1 : v.cells.size = mid.length := by rw [hc, List.size_toArray, hl]
  have h2 : ¬ (v.cells.size ≠ mid.length || pre.length + v.cells.size > (pre ++ mid ++ suf).toArray.size) = true := by
    rw [h1]
    simp
  have h3 : v.cells.zipIdx.foldl (fun cs (x : Value × Nat) => cs.setIfInBounds (pre.length + x.2) x.1) (pre ++ mid ++ suf).toArray = (pre ++ cs ++ suf).toArray := by
    have := fold_setE pre.length cs 0 (pre ++ mid ++ suf).toArray
    rw [Nat.add_zero, setE_mid cs pre mid suf hl.symm] at this
    rw [← this, hc, ← Array.foldl_toList]
    simp
  rw [← h3]
  conv => lhs; rw [Instr.fill]
  rw [hp]
  simp only
  rw [if_neg h2]
namespace An
open Go
section
variable {P : Program} {md : Region.Mode} {ops : Array Oper} {Q : Exit → Act → World → Prop} {fuel : Nat} {listed : Array Bool} {a : Act} {w : World} {i j : Nat} {o o' : Oper}
end
end An


end Go.Proofs.YtkbalngddlhlpaaGreatDoor
