/-
  The plain mathematics of writing deltas: the instruction that copies.
-/
import Derived.Test.YtkidoknklgoffaaDW5
import Derived.Laws.OwnMore
namespace Go.Proofs.Ytkidoknklgoffaa
open Go.RowKit

/-- The i-th byte of a copy's place and count. -/
def byF (at_ n : Int) (i : Nat) : Int := if i < 4 then at_ / 256 ^ i % 256 else n / 256 ^ (i - 4) % 256
def cpA (at_ n : Int) : Nat → Int × List Int
  | 0 => (128, [])
  | i + 1 => if byF at_ n i = 0 then cpA at_ n i else ((cpA at_ n i).1 + 2 ^ i, (cpA at_ n i).2 ++ [byF at_ n i])
/-- The instruction that copies n bytes from a place on. -/
def cpL (at_ n : Int) : List Int := (cpA at_ (if n = 65536 then 0 else n) 7).1 :: (cpA at_ (if n = 65536 then 0 else n) 7).2
theorem byF_range (at_ n : Int) (i : Nat) : 0 ≤ byF at_ n i ∧ byF at_ n i < 256 := by
  unfold byF
  split <;> omega
theorem cpA_range (at_ n : Int) : ∀ i, 128 ≤ (cpA at_ n i).1 ∧ (cpA at_ n i).1 < 128 + 2 ^ i
  | 0 => by simp [cpA]
  | i + 1 => by
    have h := cpA_range at_ n i
    have hp : (0 : Int) < 2 ^ i := Int.pow_pos (by omega)
    rw [cpA]
    split
    · rw [Int.pow_succ]; omega
    · simp only []; rw [Int.pow_succ]; omega
theorem cpA_len (at_ n : Int) : ∀ i, (cpA at_ n i).2.length ≤ i
  | 0 => by simp [cpA]
  | i + 1 => by
    have h := cpA_len at_ n i
    rw [cpA]
    split
    · omega
    · simp; omega
theorem cpA_all (at_ n : Int) : ∀ i, AllB (cpA at_ n i).2
  | 0 => AllIn.nil
  | i + 1 => by
    have h := cpA_all at_ n i
    rw [cpA]
    split
    · exact h
    · exact h.append (AllIn.one (byF_range _ _ _).1 (byF_range _ _ _).2)
theorem or_bit (c : Int) (i : Nat) (hi : i < 7) (h0 : 128 ≤ c) (h1 : c < 128 + 2 ^ i) : bits .or .u8 c (2 ^ i) = c + 2 ^ i := by
  have key : ∀ i : Fin 7, ∀ c : Fin 256, 128 ≤ c.val → c.val < 128 + 2 ^ i.val → c.val ||| 2 ^ i.val = c.val + 2 ^ i.val := by decide +kernel
  have hp : (2 : Int) ^ i ≤ 2 ^ 6 := by
    have : (2 : Nat) ^ i ≤ 2 ^ 6 := Nat.pow_le_pow_right (by omega) (by omega)
    exact_mod_cast this
  obtain ⟨C, rfl⟩ := Int.eq_ofNat_of_zero_le (show 0 ≤ c by omega)
  have e : ((2 : Int) ^ i) = ((2 ^ i : Nat) : Int) := by simp
  rw [e] at hp h1 ⊢
  rw [u8_or_nat C (2 ^ i) (by omega) (by omega), key ⟨i, hi⟩ ⟨C, by omega⟩ (by show 128 ≤ C; omega) (by show C < 128 + 2 ^ i; omega)]
  simp

/-- A store into what is owned. -/
theorem Own.set {k : IntKind} {e : TypeId} {w : World} {base g n c : Nat} {xs : List Int} (h : Own k e w base (.slice (some ⟨g, 0, none⟩) n c) xs) (j : Nat) (x : Int) : Own k e (w.setCell ⟨g, j, none⟩ (.int k x)) base (.slice (some ⟨g, 0, none⟩) n c) (xs.set j x) := by
  have hn : n = xs.length := by
    obtain ⟨a', c', hv, -⟩ := h.rd.form
    injection hv
  subst hn
  have := World.ownsRow.stored h j (.int k x)
  unfold Own
  rw [List.length_set]
  have e2 : cellsK k (xs.set j x) = (cellsK k xs).set j (.int k x) := by simp [cellsK, List.map_set]
  rw [e2]
  exact this.1

/-- Where what is owned lies. -/
theorem Own.addr {k : IntKind} {e : TypeId} {w : World} {base n c : Nat} {a : Option Addr} {xs : List Int} (h : Own k e w base (.slice a n c) xs) (h0 : 0 < xs.length) :
    ∃ g, a = some ⟨g, 0, none⟩ ∧ n = xs.length ∧ base ≤ g ∧ g < w.heap.size ∧ (∀ i, i < xs.length → w.cell? ⟨g, i, none⟩ = some (.int k (xs.getD i 0))) ∧ ∀ i, w.frozen? ⟨g, i, none⟩ = false := by
  have hlen : n = xs.length := by
    obtain ⟨a', c', hv, -⟩ := h.rd.form
    injection hv
  rcases h.2 with ⟨hv, hn⟩ | ⟨g, cap, cur, hv, hbg, hg, hnc, hcm, hcs, htake⟩
  · omega
  · injection hv with h1 h2 h3
    subst h1
    refine ⟨g, rfl, hlen, hbg, (h.lt g rfl).2, fun i hi => ?_, fun i => by simp [World.frozen?, hg]⟩
    have hk := World.ownsRow.cells h (g := g) rfl i (.int k (xs.getD i 0)) (by simp [cellsK, List.getElem?_eq_getElem hi, List.getD])
    rw [add_plain, Nat.zero_add] at hk
    exact hk
theorem getD_mid (xs L : List Int) (C : Int) : (xs ++ C :: L).getD xs.length 0 = C := by simp [List.getD]
theorem set_mid (xs L : List Int) (C D : Int) : (xs ++ C :: L).set xs.length D = xs ++ D :: L := by simp

/-- Only one block may have turned, and what is owned lies there or in a new one. -/
structure Gb (ob : Option Nat) (w w' : World) (v' : Value) : Prop where
  os : w'.os = w.os
  tape : w'.tape = w.tape
  output : w'.output = w.output
  size : w.heap.size ≤ w'.heap.size
  block : ∀ k, k < w.heap.size → some k ≠ ob → w'.heap[k]? = w.heap[k]?
  at_ : v'.ownBlock = ob ∨ ∃ k, v'.ownBlock = some k ∧ w.heap.size ≤ k
section
variable {ob : Option Nat} {w w1 w2 : World} {v1 v2 : Value}
theorem Gb.refl (v : Value) (w : World) : Gb v.ownBlock w w v := ⟨rfl, rfl, rfl, Nat.le_refl _, fun _ _ _ => rfl, Or.inl rfl⟩
theorem Gb.alloc (h : Gb ob w w1 v1) (o : Obj) : Gb ob w (w1.alloc o) v1 :=
  ⟨h.os, h.tape, h.output, by have := h.size; simp; omega, fun k hk hne => (Below.heap_alloc w1 o k (by have := h.size; omega)).trans (h.block k hk hne), h.at_⟩
theorem Gb.drewN (h : Gb ob w w1 v1) (n : Nat) : Gb ob w (w1.drewN n) v1 := ⟨h.os, h.tape, h.output, h.size, h.block, h.at_⟩
theorem Gb.set (h : Gb ob w w1 v1) {g : Nat} (hg : v1.ownBlock = some g) (i : Nat) (u : Value) : Gb ob w (w1.setCell ⟨g, i, none⟩ u) v1 := by
  refine ⟨h.os, h.tape, h.output, by simpa using h.size, fun k hk hne => ?_, h.at_⟩
  rw [Below.heap_setCell _ _ _ _ ?_]
  · exact h.block k hk hne
  · intro e
    simp only [] at e
    subst e
    rcases h.at_ with e | ⟨q, e, hq⟩
    · exact hne (by rw [← hg, e])
    · rw [hg] at e
      injection e with e
      omega
theorem Gb.grow (h : Gb ob w w1 v1) (hg : w1.grownBy w2 v1.ownBlock) (ha : v2.ownBlock = v1.ownBlock ∨ v2.ownBlock = some w1.heap.size) : Gb ob w w2 v2 := by
  have hs := h.size
  refine ⟨hg.os.trans h.os, hg.tape.trans h.tape, hg.output.trans h.output, Nat.le_trans h.size hg.size, fun k hk hne => ?_, ?_⟩
  · rw [hg.block k (by omega) ?_]
    · exact h.block k hk hne
    · intro e
      rcases h.at_ with e2 | ⟨q, e2, hq⟩
      · exact hne (by rw [e, e2])
      · rw [e2] at e
        injection e with e
        omega
  · rcases ha with e | e
    · rw [e]
      exact h.at_
    · exact Or.inr ⟨_, e, hs⟩
theorem Gb.below {B : Nat} (h : Gb ob w w1 v1) (hB : B ≤ w.heap.size) (ho : ∀ k, ob = some k → B ≤ k) : Below B w w1 :=
  ⟨h.os, h.tape, h.output, h.size, fun k hk => h.block k (by omega) (fun e => by have := ho k e.symm; omega)⟩
theorem Gb.trans (h : Gb ob w w1 v1) (k : Gb v1.ownBlock w1 w2 v2) : Gb ob w w2 v2 := by
  have hs := h.size
  refine ⟨k.os.trans h.os, k.tape.trans h.tape, k.output.trans h.output, Nat.le_trans h.size k.size, fun i hi hne => ?_, ?_⟩
  · rw [k.block i (by omega) ?_]
    · exact h.block i hi hne
    · intro e
      rcases h.at_ with e2 | ⟨q, e2, hq⟩
      · exact hne (by rw [e, e2])
      · rw [e2] at e
        injection e with e
        omega
  · rcases k.at_ with e | ⟨q, e, hq⟩
    · rw [e]; exact h.at_
    · exact Or.inr ⟨q, e, by omega⟩
end
end Go.Proofs.Ytkidoknklgoffaa
