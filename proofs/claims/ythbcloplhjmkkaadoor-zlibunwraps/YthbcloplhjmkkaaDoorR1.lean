/-
  The reader of streams in memory; number.
-/
import Derived.Test.YthbcloplhjmkkaaDoorK
import Derived.Test.YthbcloplhjmkkaaDoorQ
import Derived.Test.YthbcloplhjmkkaaDoorM
namespace Go.Proofs.YthbcloplhjmkkaaDoor
open Go.RowKit

/-- The reader's block. -/
def RB (w : World) (rb : Nat) (inV : Value) (at_ b held : Int) (outV : Value) (most : Int) : Prop :=
  w.heap[rb]? = some (.cells #[inV, .int .i64 at_, .int .u32 b, .int .i64 held, outV, .int .i64 most] 36)
section
variable {w : World} {rb : Nat} {inV outV : Value} {at_ b held most : Int}
theorem RB.lt (h : RB w rb inV at_ b held outV most) : rb < w.heap.size := by
  rcases Nat.lt_or_ge rb w.heap.size with h' | h'
  · exact h'
  · unfold RB at h
    rw [Array.getElem?_eq_none h'] at h
    cases h
theorem RB.c0 (h : RB w rb inV at_ b held outV most) : w.cell? ⟨rb, 0, none⟩ = some inV := by unfold RB at h; simp [World.cell?, h]
theorem RB.c1 (h : RB w rb inV at_ b held outV most) : w.cell? ⟨rb, 1, none⟩ = some (.int .i64 at_) := by unfold RB at h; simp [World.cell?, h]
theorem RB.c2 (h : RB w rb inV at_ b held outV most) : w.cell? ⟨rb, 2, none⟩ = some (.int .u32 b) := by unfold RB at h; simp [World.cell?, h]
theorem RB.c3 (h : RB w rb inV at_ b held outV most) : w.cell? ⟨rb, 3, none⟩ = some (.int .i64 held) := by unfold RB at h; simp [World.cell?, h]
theorem RB.c4 (h : RB w rb inV at_ b held outV most) : w.cell? ⟨rb, 4, none⟩ = some outV := by unfold RB at h; simp [World.cell?, h]
theorem RB.c5 (h : RB w rb inV at_ b held outV most) : w.cell? ⟨rb, 5, none⟩ = some (.int .i64 most) := by unfold RB at h; simp [World.cell?, h]
theorem RB.fz (h : RB w rb inV at_ b held outV most) (i : Nat) : w.frozen? ⟨rb, i, none⟩ = false := by unfold RB at h; simp [World.frozen?, h]
theorem RB.s1 (h : RB w rb inV at_ b held outV most) (n : Int) : RB (w.setCell ⟨rb, 1, none⟩ (.int .i64 n)) rb inV n b held outV most := by
  unfold RB at h ⊢
  simp only [World.setCell, Array.getElem?_modify, h]
  simp
theorem RB.s2 (h : RB w rb inV at_ b held outV most) (n : Int) : RB (w.setCell ⟨rb, 2, none⟩ (.int .u32 n)) rb inV at_ n held outV most := by
  unfold RB at h ⊢
  simp only [World.setCell, Array.getElem?_modify, h]
  simp
theorem RB.s3 (h : RB w rb inV at_ b held outV most) (n : Int) : RB (w.setCell ⟨rb, 3, none⟩ (.int .i64 n)) rb inV at_ b n outV most := by
  unfold RB at h ⊢
  simp only [World.setCell, Array.getElem?_modify, h]
  simp
theorem RB.s4 (h : RB w rb inV at_ b held outV most) (n : Value) : RB (w.setCell ⟨rb, 4, none⟩ n) rb inV at_ b held n most := by
  unfold RB at h ⊢
  simp only [World.setCell, Array.getElem?_modify, h]
  simp
theorem RB.far {w' : World} (h : RB w rb inV at_ b held outV most) (hb : w'.heap[rb]? = w.heap[rb]?) : RB w' rb inV at_ b held outV most := by
  unfold RB at h ⊢
  rw [hb]
  exact h
end

/-- No block but these two has turned. -/
structure Fr (rb : Nat) (ob : Option Nat) (w w' : World) : Prop where
  os : w'.os = w.os
  tape : w'.tape = w.tape
  output : w'.output = w.output
  size : w.heap.size ≤ w'.heap.size
  block : ∀ k, k < w.heap.size → k ≠ rb → some k ≠ ob → w'.heap[k]? = w.heap[k]?
section
variable {rb : Nat} {ob : Option Nat} {w w1 w2 : World}
theorem Fr.refl (rb : Nat) (ob : Option Nat) (w : World) : Fr rb ob w w := ⟨rfl, rfl, rfl, Nat.le_refl _, fun _ _ _ _ => rfl⟩
theorem Fr.trans (h : Fr rb ob w w1) (k : Fr rb ob w1 w2) : Fr rb ob w w2 :=
  ⟨k.os.trans h.os, k.tape.trans h.tape, k.output.trans h.output, Nat.le_trans h.size k.size, fun i hi h1 h2 => (k.block i (Nat.lt_of_lt_of_le hi h.size) h1 h2).trans (h.block i hi h1 h2)⟩
theorem Fr.wide (h : Fr rb none w w1) : Fr rb ob w w1 := ⟨h.os, h.tape, h.output, h.size, fun k hk h1 _ => h.block k hk h1 (by simp)⟩
theorem Fr.set (h : Fr rb ob w w1) (i : Nat) (u : Value) : Fr rb ob w (w1.setCell ⟨rb, i, none⟩ u) :=
  h.trans ⟨rfl, rfl, rfl, by simp [World.setCell], fun k _ hk _ => Below.heap_setCell _ _ _ _ hk⟩
theorem Fr.drewN (h : Fr rb ob w w1) (n : Nat) : Fr rb ob w (w1.drewN n) := ⟨h.os, h.tape, h.output, h.size, h.block⟩
theorem Fr.alloc (h : Fr rb ob w w1) (o : Obj) : Fr rb ob w (w1.alloc o) :=
  h.trans ⟨rfl, rfl, rfl, by simp, fun k hk _ _ => Below.heap_alloc _ _ _ hk⟩
theorem Fr.below {W0 : World} {B : Nat} (h : Fr rb ob w w1) (hb : Below B W0 w) (hr : B ≤ rb) (ho : ∀ k, ob = some k → B ≤ k) (hB : B ≤ w.heap.size) : Below B W0 w1 :=
  hb.trans ⟨h.os, h.tape, h.output, h.size, fun k hk => h.block k (by omega) (by omega) (fun e => by have := ho k e.symm; omega)⟩
end

/-- The reader: t bits of p have been taken, out has been put out. -/
structure Rdr (W0 w : World) (rb : Nat) (ob : Option Nat) (inV : Value) (p : List Int) (most : Nat) (out : List Int) (t : Nat) : Prop where
  blk : ∃ (at_ held : Nat) (outV : Value), RB w rb inV at_ (valF p t held) held outV most ∧ 8 * at_ = t + held ∧ held < 8 ∧ at_ ≤ p.length ∧ Own .u8 5 w W0.heap.size outV out ∧ outV.ownBlock = ob
  bel : Below W0.heap.size W0 w
  hb : W0.heap.size ≤ rb
  ho : ob ≠ some rb
  rd : Rd .u8 anyB W0 inV p
  ap : AllB p
  ao : AllB out
  lp : p.length ≤ 70368744177664
  hm : most ≤ 1048576
  lo : out.length ≤ most
section
variable {W0 w : World} {rb : Nat} {ob : Option Nat} {inV : Value} {p out : List Int} {most t : Nat}
theorem Rdr.ob_ge (h : Rdr W0 w rb ob inV p most out t) : ∀ k, ob = some k → W0.heap.size ≤ k ∧ k < w.heap.size := by
  intro k hk
  obtain ⟨_, _, outV, _, _, _, _, own, hob⟩ := h.blk
  exact own.lt k (by rw [hob]; exact hk)
theorem Rdr.far {w' : World} (h : Rdr W0 w rb ob inV p most out t) (hf : Below w.heap.size w w') : Rdr W0 w' rb ob inV p most out t := by
  obtain ⟨at_, held, outV, hB, h1, h2, h3, own, hob⟩ := h.blk
  exact ⟨⟨at_, held, outV, hB.far (hf.block _ hB.lt), h1, h2, h3, own.later hf (Nat.le_refl _), hob⟩, h.bel.trans (hf.mono h.bel.size), h.hb, h.ho, h.rd, h.ap, h.ao, h.lp, h.hm, h.lo⟩
end

/-- What a call of the reader leaves: the value and the reader behind, or what is wrong. -/
def After {α : Type} (W0 w w' : World) (rb : Nat) (ob : Option Nat) (inV : Value) (p : List Int) (most : Nat) (out : List Int) (r : Rs α) (e : Ending) (enc : α → Int → Value) (zero : Int → Value) : Prop :=
  match r with
  | .ok a t' => e = .returned (enc a 0) ∧ Rdr W0 w' rb ob inV p most out t' ∧ Fr rb ob w w'
  | .bad er => e = .returned (zero er.v) ∧ Below W0.heap.size W0 w' ∧ Fr rb ob w w'
def encI (a e : Int) : Value := .tuple #[.int .i64 a, .int .i64 e]
def zeroI (e : Int) : Value := .tuple #[.int .i64 0, .int .i64 e]
end Go.Proofs.YthbcloplhjmkkaaDoor
