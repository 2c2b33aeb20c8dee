/-
  A range over a function that keeps its state in a cell of its own: the statement, by the places that are yielded.
-/
import Derived.Test.YtjhcpmhjdhmjpaaV2
import Derived.RangeFuncFrom
import Derived.RangeFuncNested
import Derived.RangeFuncBound
import Derived.RangeFuncCalls
import Derived.RangeFuncLeaves
import Derived.Shelf.Abstract
import Derived.Shelf.RegionOpen
import Derived.WalkKit
import Derived.OwnWalkIn
import Derived.TacticsInMore
import Derived.LoopNIn
import Derived.LoopIn
namespace Go.Proofs.Ytjhcpmhjdhmjpaa
open Go.RowKit Go.Shelf

/-- What the walk of a round's body owes: only the box B and blocks from E on have turned, and the caller's word holds at the next place. -/
def lnPost (I : Nat → World → Prop) (B E k : Nat) (W : World) : Exit → Act → World → Prop
  | .normal, _, W' => Fx (fun b => b = B ∨ E ≤ b) W W' ∧ I k W'
  | _, _, _ => False
/-- What the function that is ranged over owes: from place 0 on, a call of yield at each place, and its own box Bs alone turned. -/
def LnSeq (F : Fence) (n : Nat) (P : Program) (g : Nat) (lb : Array Value) (Bs n0 N : Nat) (enc : Nat → Value) (nxt : Nat → Nat) (w : World) : Prop :=
  ∀ (l : Nat) (J : Nat → World → Prop) (W : World), Below w.heap.size w W → (∀ k W1 W2, J k W1 → Fx (fun b => b = Bs) W1 W2 → J k W2) →
    (∀ k W1, k < N → J k W1 → YieldAt F (n - 1) P l #[enc k] W1 fun e W' => e = .returned (.bool true) ∧ J (nxt k) W' ∧ W'.heap[Bs]? = W1.heap[Bs]? ∧ Below n0 W1 W') →
    J 0 W → CallsIn F n P g (#[.func (.yield l) #[] #[]] ++ lb) W fun e W' => (∃ v, e = .returned v) ∧ J N W'

theorem fx_putObj (W : World) (l : Nat) (o : Obj) : Fx (fun b => b = l) W (W.putObj l o) :=
  ⟨rfl, rfl, rfl, by simp, fun k _ hk => World.putObj_heap_other hk⟩

theorem wpIn_range_ln {F : Fence} {n : Nat} {P : Program} {g : Operand} {ps : Array Tmp} {assign body : Code} {Q : Exit → Act → World → Prop} {a : Act} {w : World}
    (hro : F.round = none) (h1 : 1 ≤ n) {gf : Nat} {lb : Array Value} (hg : a.eval g = .func (.func gf) #[] lb) (hFg : F.fn gf) (eg : ∀ args w, (callFunc gf args).run P w = .ok (.enter gf args) w)
    {Bs B n0 N : Nat} {enc : Nat → Value} {nxt : Nat → Nat} (hseq : LnSeq F (n - 1) P gf lb Bs n0 N enc nxt w) (hps : ps.size = 1) (hBs : Bs < w.heap.size) (hB : B < w.heap.size) (hBB : B ≠ Bs) (hn0 : n0 ≤ B) (hn0s : n0 ≤ Bs)
    (I : Nat → World → Prop) (hI : ∀ k W W', I k W → Fx (fun b => b = Bs ∨ b = w.heap.size ∨ b = w.heap.size + 1) W W' → I k W')
    (h0 : ∀ W, Below w.heap.size w W → w.heap.size + 2 ≤ W.heap.size → I 0 W) (a1 : Nat → Act)
    (hassign : ∀ (l k : Nat) (W : World) (K : Act → World → Prop), K (a1 k) W → assign.wpIn (F.inRound l) (n - 1 - 1) P (Exit.then K (fun _ _ _ => False)) { tmps := (ps.zip #[enc k]).foldl (fun t (p, v) => t.setIfInBounds p v) a.tmps, defers := [] } W)
    (hbody : ∀ (l k : Nat) (W : World), k < N → w.heap.size + 2 ≤ W.heap.size → I k W → body.wpIn (F.inRound l) (n - 1 - 1) P (lnPost I B (w.heap.size + 2) (nxt k) W) (a1 k) W)
    (hdone : ∀ (W : World), I N W → W.heap[w.heap.size]? = some (.deferred (some [])) → Q .normal { a with defers := { target := .collected w.heap.size, args := #[] } :: a.defers } W) :
    (Code.rangeFunc g ps assign body).wpIn F n P Q a w := by
  refine wpIn_rangeFunc (fun fn hfn => ?_)
  rw [hro]
  let rec0 : LoopState → Option Code → Loop := fun st pe => { state := st, pending := pe, fn := fn, tmps := a.tmps, params := ps, assign := assign, body := body, defers := w.heap.size }
  obtain ⟨rec, hrec⟩ : ∃ rec, rec0 = rec := ⟨_, rfl⟩
  obtain ⟨W1, hW1⟩ : ∃ W1, (w.alloc (.deferred (some []))).alloc (.loop (rec .ready none)) = W1 := ⟨_, rfl⟩
  have hs1 : W1.heap.size = w.heap.size + 2 := by rw [← hW1]; simp
  have hL1 : W1.heap[w.heap.size + 1]? = some (.loop (rec .ready none)) := by
    have h := World.alloc_heap_new (w.alloc (.deferred (some []))) (.loop (rec .ready none))
    rw [World.size_alloc, hW1] at h
    exact h
  have hD1 : W1.heap[w.heap.size]? = some (.deferred (some [])) := by
    rw [← hW1, Below.heap_alloc _ _ _ (by simp)]
    exact World.alloc_heap_new w _
  have hb1 : Below w.heap.size w W1 := by rw [← hW1]; exact ((Below.refl _ w).alloc (Nat.le_refl _) _).alloc (by simp) _
  refine ⟨w.heap.size + 1, [{ target := .collected w.heap.size, args := #[] }], W1, { target := .fn (.func gf) lb, args := #[.func (.yield (w.heap.size + 1)) #[] #[]] }, W1, gf, #[.func (.yield (w.heap.size + 1)) #[] #[]] ++ lb, W1, ?_, ?_, ?_, ?_, fun _ => h1, ?_⟩
  · rw [← hW1, ← hrec]
    exact run_enterLoop_outer _ _ _ _ _
  · simp only [resolve, hg]
    simp [go_sem]
  · intro f' hf'
    simp [Target.leads] at hf'
    rw [← hf']
    exact hFg
  · simp [invoke, go_sem, eg]
  · refine (hseq (w.heap.size + 1) (fun k W => I k W ∧ w.heap.size + 2 ≤ W.heap.size ∧ W.heap[w.heap.size + 1]? = some (.loop (rec .ready none)) ∧ W.heap[w.heap.size]? = some (.deferred (some []))) W1 hb1 ?_ ?_ ⟨h0 W1 hb1 (by omega), by omega, hL1, hD1⟩).mono ?_
    · rintro k A C ⟨q1, q2, q3, q4⟩ hx
      refine ⟨hI k A C q1 (hx.weak fun i _ h => .inl h), Nat.le_trans q2 hx.size, ?_, ?_⟩
      · rw [hx.block _ (by omega) (by omega)]; exact q3
      · rw [hx.block _ (by omega) (by omega)]; exact q4
    · rintro k W hk ⟨q1, q2, q3, q4⟩
      have hy := run_yield (P := P) (args := #[enc k]) q3 (by rw [← hrec]; simp [rec0, hps])
      rw [← hrec] at hy
      refine ⟨fn, _, assign, body, hy, roundIn_of_wpIn hfn (hassign _ k W _ ⟨_, run_beginRound q3 (by rw [← hrec]), ?_⟩)⟩
      obtain ⟨W2, hW2⟩ : ∃ W2, W.putObj (w.heap.size + 1) (.loop { rec .ready none with state := .busy }) = W2 := ⟨_, rfl⟩
      have hx2 : Fx (fun b => b = w.heap.size + 1) W W2 := by rw [← hW2]; exact fx_putObj _ _ _
      have hl2 : W2.heap[w.heap.size + 1]? = some (.loop { rec .ready none with state := .busy }) := by rw [← hW2]; exact World.putObj_heap_same (by omega)
      have hd2 : W2.heap[w.heap.size]? = some (.deferred (some [])) := by rw [hx2.block _ (by omega) (by omega)]; exact q4
      have hz2 := hx2.size
      rw [hW2]
      refine wpIn_mono (hbody _ k W2 hk (by omega) (hI k W W2 q1 (hx2.weak fun i _ h => .inr (.inr h)))) ?_
      rintro e a3 W3 hp
      cases e with
      | normal =>
        obtain ⟨hx3, hi3⟩ := hp
        have hz3 := hx3.size
        have hl3 : W3.heap[w.heap.size + 1]? = some (.loop { rec .ready none with state := .busy }) := by rw [hx3.block _ (by omega) (by omega)]; exact hl2
        have hd3 : W3.heap[w.heap.size]? = some (.deferred (some [])) := by rw [hx3.block _ (by omega) (by omega)]; exact hd2
        have hr := run_endRound (P := P) none hl3
        have hx4 : Fx (fun b => b = w.heap.size + 1) W3 (W3.putObj (w.heap.size + 1) (.loop (rec .ready none))) := fx_putObj _ _ _
        refine ⟨_, _, (by rw [← hrec] at hr ⊢; exact hr), rfl, ⟨hI _ W3 _ hi3 (hx4.weak fun i _ h => .inr (.inr h)), by simp; omega, World.putObj_heap_same (by omega), ?_⟩, ?_, ?_⟩
        · rw [hx4.block _ (by omega) (by omega)]; exact hd3
        · rw [hx4.block _ (by omega) (by omega), hx3.block _ (by omega) (by omega), hx2.block _ (by omega) (by omega)]
        · exact ((hx2.below (by omega) (by omega)).trans (hx3.below (by omega) (by omega))).trans (hx4.below (by omega) (by omega))
      | ret => exact hp.elim
      | exit id => exact hp.elim
      | goto t => exact hp.elim
      | panic ch => exact hp.elim
      | outgrown => exact hp.elim
    · rintro e W2 ⟨⟨v, rfl⟩, q1, q2, q3, q4⟩
      have hpe : (rec .ready none).pending = none := by rw [← hrec]
      have hrun := run_endLoop (P := P) q3 (by rw [← hrec]; simp [rec0])
      rw [hpe] at hrun
      refine ⟨none, _, hrun, ?_⟩
      refine hdone _ (hI _ W2 _ q1 (Fx.weak (fx_putObj _ _ _) fun i _ h => .inr (.inr h))) ?_
      rw [World.putObj_heap_other (by omega)]
      exact q4
end Go.Proofs.Ytjhcpmhjdhmjpaa
