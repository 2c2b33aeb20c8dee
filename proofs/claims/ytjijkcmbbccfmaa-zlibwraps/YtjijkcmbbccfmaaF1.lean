/-
  The writer of streams in memory; number.
-/
import Derived.Test.YtjijkcmbbccfmaaK
import Derived.Test.YtjijkcmbbccfmaaQ
import Derived.Test.YtjijkcmbbccfmaaFM
import Derived.Laws.BitsAllLaws
namespace Go.Proofs.Ytjijkcmbbccfmaa
open Go.RowKit

/-- No block but these two has turned. -/
structure Fq (rb : Nat) (ob : Option Nat) (w w' : World) : Prop where
  os : w'.os = w.os
  tape : w'.tape = w.tape
  output : w'.output = w.output
  size : w.heap.size ≤ w'.heap.size
  block : ∀ k, k < w.heap.size → k ≠ rb → some k ≠ ob → w'.heap[k]? = w.heap[k]?
section
variable {rb : Nat} {ob : Option Nat} {w w1 w2 : World}
theorem Fq.refl (rb : Nat) (ob : Option Nat) (w : World) : Fq rb ob w w := ⟨rfl, rfl, rfl, Nat.le_refl _, fun _ _ _ _ => rfl⟩
theorem Fq.trans (h : Fq rb ob w w1) (k : Fq rb ob w1 w2) : Fq rb ob w w2 :=
  ⟨k.os.trans h.os, k.tape.trans h.tape, k.output.trans h.output, Nat.le_trans h.size k.size, fun i hi h1 h2 => (k.block i (Nat.lt_of_lt_of_le hi h.size) h1 h2).trans (h.block i hi h1 h2)⟩
theorem Fq.set (h : Fq rb ob w w1) (i : Nat) (u : Value) : Fq rb ob w (w1.setCell ⟨rb, i, none⟩ u) :=
  h.trans ⟨rfl, rfl, rfl, by simp [World.setCell], fun k _ hk _ => Below.heap_setCell _ _ _ _ hk⟩
theorem Fq.drewN (h : Fq rb ob w w1) (n : Nat) : Fq rb ob w (w1.drewN n) := ⟨h.os, h.tape, h.output, h.size, h.block⟩
theorem Fq.alloc (h : Fq rb ob w w1) (o : Obj) : Fq rb ob w (w1.alloc o) :=
  h.trans ⟨rfl, rfl, rfl, by simp, fun k hk _ _ => Below.heap_alloc _ _ _ hk⟩
theorem Fq.below {W0 : World} {B : Nat} (h : Fq rb ob w w1) (hb : Below B W0 w) (hr : B ≤ rb) (ho : ∀ k, ob = some k → B ≤ k) (hB : B ≤ w.heap.size) : Below B W0 w1 :=
  hb.trans ⟨h.os, h.tape, h.output, h.size, fun k hk => h.block k (by omega) (by omega) (fun e => by have := ho k e.symm; omega)⟩
end
/-- The same, where what is put out may lie in a new block. -/
structure Mq (rb : Nat) (ob ob' : Option Nat) (w w' : World) : Prop where
  fr : Fq rb ob w w'
  at_ : ob' = ob ∨ ∃ k, ob' = some k ∧ w.heap.size ≤ k
theorem Mq.refl (rb : Nat) (ob : Option Nat) (w : World) : Mq rb ob ob w w := ⟨Fq.refl _ _ _, Or.inl rfl⟩
theorem Fq.mv {rb : Nat} {ob : Option Nat} {w w' : World} (h : Fq rb ob w w') : Mq rb ob ob w w' := ⟨h, Or.inl rfl⟩
theorem Mq.trans {rb : Nat} {ob ob1 ob2 : Option Nat} {w w1 w2 : World} (h : Mq rb ob ob1 w w1) (k : Mq rb ob1 ob2 w1 w2) : Mq rb ob ob2 w w2 := by
  have hz := h.fr.size
  refine ⟨⟨k.fr.os.trans h.fr.os, k.fr.tape.trans h.fr.tape, k.fr.output.trans h.fr.output, Nat.le_trans h.fr.size k.fr.size, fun i hi h1 h2 => ?_⟩, ?_⟩
  · refine (k.fr.block i (by omega) h1 ?_).trans (h.fr.block i hi h1 h2)
    rcases h.at_ with e | ⟨g, e, hg⟩
    · rw [e]; exact h2
    · rw [e]; intro e'; simp at e'; omega
  · rcases k.at_ with e | ⟨g, e, hg⟩
    · rw [e]; exact h.at_
    · exact Or.inr ⟨g, e, by omega⟩
theorem Mq.drewN {rb : Nat} {ob ob1 : Option Nat} {w w1 : World} (h : Mq rb ob ob1 w w1) (n : Nat) : Mq rb ob ob1 w (w1.drewN n) := ⟨h.fr.drewN n, h.at_⟩
theorem Mq.set {rb : Nat} {ob ob1 : Option Nat} {w w1 : World} (h : Mq rb ob ob1 w w1) (i : Nat) (u : Value) : Mq rb ob ob1 w (w1.setCell ⟨rb, i, none⟩ u) := h.trans ((Fq.refl rb ob1 w1).set i u).mv
/-- A block that was there ahead and is neither of the two. -/
theorem Mq.keep {rb : Nat} {ob ob1 : Option Nat} {w w1 : World} (h : Mq rb ob ob1 w w1) (k : Nat) (hk : k < w.heap.size) (h1 : k ≠ rb) (h2 : some k ≠ ob) : w1.heap[k]? = w.heap[k]? := h.fr.block k hk h1 h2

/-- The writer's block. -/
def WB (w : World) (rb : Nat) (outV : Value) (b held : Int) : Prop :=
  w.heap[rb]? = some (.cells #[outV, .int .u32 b, .int .i64 held] 36)
section
variable {w : World} {rb : Nat} {outV : Value} {b held : Int}
theorem WB.lt (h : WB w rb outV b held) : rb < w.heap.size := by
  rcases Nat.lt_or_ge rb w.heap.size with h' | h'
  · exact h'
  · unfold WB at h
    rw [Array.getElem?_eq_none h'] at h
    cases h
theorem WB.c0 (h : WB w rb outV b held) : w.cell? ⟨rb, 0, none⟩ = some outV := by unfold WB at h; simp [World.cell?, h]
theorem WB.c1 (h : WB w rb outV b held) : w.cell? ⟨rb, 1, none⟩ = some (.int .u32 b) := by unfold WB at h; simp [World.cell?, h]
theorem WB.c2 (h : WB w rb outV b held) : w.cell? ⟨rb, 2, none⟩ = some (.int .i64 held) := by unfold WB at h; simp [World.cell?, h]
theorem WB.fz (h : WB w rb outV b held) (i : Nat) : w.frozen? ⟨rb, i, none⟩ = false := by unfold WB at h; simp [World.frozen?, h]
theorem WB.s0 (h : WB w rb outV b held) (n : Value) : WB (w.setCell ⟨rb, 0, none⟩ n) rb n b held := by
  unfold WB at h ⊢
  simp only [World.setCell, Array.getElem?_modify, h]
  simp
theorem WB.s1 (h : WB w rb outV b held) (n : Int) : WB (w.setCell ⟨rb, 1, none⟩ (.int .u32 n)) rb outV n held := by
  unfold WB at h ⊢
  simp only [World.setCell, Array.getElem?_modify, h]
  simp
theorem WB.s2 (h : WB w rb outV b held) (n : Int) : WB (w.setCell ⟨rb, 2, none⟩ (.int .i64 n)) rb outV b n := by
  unfold WB at h ⊢
  simp only [World.setCell, Array.getElem?_modify, h]
  simp
theorem WB.far {w' : World} (h : WB w rb outV b held) (hb : w'.heap[rb]? = w.heap[rb]?) : WB w' rb outV b held := by
  unfold WB at h ⊢
  rw [hb]
  exact h
end

/-- The writer: of the bits L the first 8 j are put out. -/
structure Wt (W0 w : World) (rb : Nat) (ob : Option Nat) (L : List Int) (j : Nat) : Prop where
  blk : ∃ outV, WB w rb outV (valL (L.drop (8 * j))) ((L.length - 8 * j : Nat) : Int) ∧ Own .u8 5 w W0.heap.size outV (packF (L.take (8 * j))) ∧ outV.ownBlock = ob
  le : 8 * j ≤ L.length
  ib : IsBits L
  bel : Below W0.heap.size W0 w
  hb : W0.heap.size ≤ rb
  ho : ob ≠ some rb
  lb : L.length ≤ 1073741824
section
variable {W0 w : World} {rb : Nat} {ob : Option Nat} {L : List Int} {j : Nat}
theorem Wt.ob_ge (h : Wt W0 w rb ob L j) : ∀ k, ob = some k → W0.heap.size ≤ k ∧ k < w.heap.size := by
  intro k hk
  obtain ⟨outV, _, own, hob⟩ := h.blk
  exact own.lt k (by rw [hob]; exact hk)
theorem Wt.rb_lt (h : Wt W0 w rb ob L j) : rb < w.heap.size := by
  obtain ⟨_, hB, -⟩ := h.blk
  exact hB.lt
theorem Wt.far {w' : World} (h : Wt W0 w rb ob L j) (hf : Below w.heap.size w w') : Wt W0 w' rb ob L j := by
  obtain ⟨outV, hB, own, hob⟩ := h.blk
  exact ⟨⟨outV, hB.far (hf.block _ hB.lt), own.later hf (Nat.le_refl _), hob⟩, h.le, h.ib, h.bel.trans (hf.mono h.bel.size), h.hb, h.ho, h.lb⟩
theorem Wt.drewN (h : Wt W0 w rb ob L j) (m : Nat) : Wt W0 (w.drewN m) rb ob L j := h.far ⟨rfl, rfl, rfl, Nat.le_refl _, fun _ _ => rfl⟩
end

/-- Bits laid behind those that are held. -/
theorem or_lay (V y : Int) (held n : Nat) (h0 : 0 ≤ V) (h1 : V < 2 ^ held) (hh : held < 8) (hn : n ≤ 16) (hy0 : 0 ≤ y) (hy1 : y < 2 ^ n) : bits .or .u32 V (y * 2 ^ held % 4294967296) = V + 2 ^ held * y ∧ 0 ≤ V + 2 ^ held * y ∧ V + 2 ^ held * y < 16777216 := by
  have hp : (2 : Int) ^ held ≤ 2 ^ 7 := by
    have : (2 : Nat) ^ held ≤ 2 ^ 7 := Nat.pow_le_pow_right (by omega) (by omega)
    exact_mod_cast this
  have hpn : (2 : Int) ^ n ≤ 2 ^ 16 := by
    have : (2 : Nat) ^ n ≤ 2 ^ 16 := Nat.pow_le_pow_right (by omega) (by omega)
    exact_mod_cast this
  have hp0 : (0 : Int) < 2 ^ held := Int.pow_pos (by omega)
  simp only [Int.reducePow] at hp hpn
  have hm : y * 2 ^ held ≤ 65535 * 128 := Int.mul_le_mul (by omega) hp (by omega) (by omega)
  have hm0 : 0 ≤ y * 2 ^ held := Int.mul_nonneg hy0 (by omega)
  have hq : ((2 : Int) ^ held) = ((2 ^ held : Nat) : Int) := by simp
  have hz : (y * 2 ^ held).toNat % 2 ^ held = 0 := by
    obtain ⟨z, rfl⟩ := Int.eq_ofNat_of_zero_le hy0
    rw [hq, ← Int.natCast_mul, Int.toNat_natCast]
    exact Nat.mul_mod_left _ _
  have hl : V.toNat < 2 ^ held := by
    have : V < ((2 ^ held : Nat) : Int) := by rw [← hq]; exact h1
    omega
  rw [Int.mul_comm (2 ^ held) y]
  refine ⟨?_, by omega, by omega⟩
  rw [Int.emod_eq_of_lt hm0 (by omega), u32_or V _ h0 (by omega) hm0 (by omega), Nat.or_comm, nat_join held _ _ hz hl]
  omega
theorem pow_split (B : List Int) : valL B = valL (B.take 8) + 2 ^ (B.take 8).length * valL (B.drop 8) := by
  rw [← valL_append, List.take_append_drop]
/-- A byte of bits goes. -/
theorem val_byte {B : List Int} (h : IsBits B) (h8 : 8 ≤ B.length) : valL B % 256 = valL (B.take 8) ∧ valL B / 256 = valL (B.drop 8) := by
  have h1 := pow_split B
  have h2 := valL_range (h.take 8)
  rw [show (B.take 8).length = 8 from by simp; omega] at h1 h2
  simp only [Int.reducePow] at h1 h2
  omega
theorem pack_byte (L : List Int) (j : Nat) (h : 8 * j + 8 ≤ L.length) : packF (L.take (8 * (j + 1))) = packF (L.take (8 * j)) ++ [valL ((L.drop (8 * j)).take 8)] := by
  have e : L.take (8 * (j + 1)) = L.take (8 * j) ++ (L.drop (8 * j)).take 8 := by
    rw [show 8 * (j + 1) = 8 * j + 8 from by omega, List.take_add]
  rw [e, packF_append j _ _ (by simp; omega), packF_one (l := (L.drop (8 * j)).take 8) (by simp; omega) (by simp; omega)]
theorem drop_add8 (L : List Int) (j : Nat) : (L.drop (8 * j)).drop 8 = L.drop (8 * (j + 1)) := by
  rw [List.drop_drop]
  congr 1
theorem val_laid (L : List Int) (j n : Nat) (v : Int) (hle : 8 * j ≤ L.length) (h0 : 0 ≤ v) (h1 : v < 2 ^ n) : valL ((L ++ bitsL v n).drop (8 * j)) = valL (L.drop (8 * j)) + 2 ^ (L.length - 8 * j) * v := by
  rw [List.drop_append_of_le_length hle, valL_append, valL_bitsL v h0 n, Int.emod_eq_of_lt h0 h1, List.length_drop]
end Go.Proofs.Ytjijkcmbbccfmaa
