/-
  The document's bits in memory; bit.
-/
import Derived.Test.YtjijkcmbbccfmaaF7
namespace Go.Proofs.Ytjijkcmbbccfmaa
open Go.RowKit

/-- The document's block of bits. -/
def DQ (w : World) (rb : Nat) (outV : Value) (n : Int) : Prop :=
  w.heap[rb]? = some (.cells #[outV, .int .i64 n] 56)
section
variable {w : World} {rb : Nat} {outV : Value} {n : Int}
theorem DQ.lt (h : DQ w rb outV n) : rb < w.heap.size := by
  rcases Nat.lt_or_ge rb w.heap.size with h' | h'
  · exact h'
  · unfold DQ at h
    rw [Array.getElem?_eq_none h'] at h
    cases h
theorem DQ.c0 (h : DQ w rb outV n) : w.cell? ⟨rb, 0, none⟩ = some outV := by unfold DQ at h; simp [World.cell?, h]
theorem DQ.c1 (h : DQ w rb outV n) : w.cell? ⟨rb, 1, none⟩ = some (.int .i64 n) := by unfold DQ at h; simp [World.cell?, h]
theorem DQ.fz (h : DQ w rb outV n) (i : Nat) : w.frozen? ⟨rb, i, none⟩ = false := by unfold DQ at h; simp [World.frozen?, h]
theorem DQ.s0 (h : DQ w rb outV n) (u : Value) : DQ (w.setCell ⟨rb, 0, none⟩ u) rb u n := by
  unfold DQ at h ⊢
  simp only [World.setCell, Array.getElem?_modify, h]
  simp
theorem DQ.s1 (h : DQ w rb outV n) (m : Int) : DQ (w.setCell ⟨rb, 1, none⟩ (.int .i64 m)) rb outV m := by
  unfold DQ at h ⊢
  simp only [World.setCell, Array.getElem?_modify, h]
  simp
theorem DQ.far {w' : World} (h : DQ w rb outV n) (hb : w'.heap[rb]? = w.heap[rb]?) : DQ w' rb outV n := by
  unfold DQ at h ⊢
  rw [hb]
  exact h
end

/-- The document's writer: the bits L are put out. -/
structure Bt (W0 w : World) (rb : Nat) (ob : Option Nat) (L : List Int) : Prop where
  blk : ∃ outV, DQ w rb outV L.length ∧ Own .u8 5 w W0.heap.size outV (packF L) ∧ outV.ownBlock = ob
  ib : IsBits L
  bel : Below W0.heap.size W0 w
  hb : W0.heap.size ≤ rb
  ho : ob ≠ some rb
  lb : L.length ≤ 1073741824
section
variable {W0 w : World} {rb : Nat} {ob : Option Nat} {L : List Int}
theorem Bt.ob_ge (h : Bt W0 w rb ob L) : ∀ k, ob = some k → W0.heap.size ≤ k ∧ k < w.heap.size := by
  intro k hk
  obtain ⟨outV, _, own, hob⟩ := h.blk
  exact own.lt k (by rw [hob]; exact hk)
theorem Bt.rb_lt (h : Bt W0 w rb ob L) : rb < w.heap.size := by
  obtain ⟨_, hB, -⟩ := h.blk
  exact hB.lt
theorem Bt.far {w' : World} (h : Bt W0 w rb ob L) (hf : Below w.heap.size w w') : Bt W0 w' rb ob L := by
  obtain ⟨outV, hB, own, hob⟩ := h.blk
  exact ⟨⟨outV, hB.far (hf.block _ hB.lt), own.later hf (Nat.le_refl _), hob⟩, h.ib, h.bel.trans (hf.mono h.bel.size), h.hb, h.ho, h.lb⟩
end
def AfterB (W0 w w' : World) (rb : Nat) (ob : Option Nat) (L : List Int) (e : Ending) : Prop :=
  e = .returned (.tuple #[]) ∧ ∃ ob', Bt W0 w' rb ob' L ∧ Mq rb ob ob' w w'
theorem AfterB.next {W0 w w1 w2 : World} {rb : Nat} {ob ob1 : Option Nat} {L : List Int} {e : Ending} (h : Mq rb ob ob1 w w1) (k : AfterB W0 w1 w2 rb ob1 L e) : AfterB W0 w w2 rb ob L e := by
  obtain ⟨rfl, ob', h1, h3⟩ := k
  exact ⟨rfl, ob', h1, h.trans h3⟩

theorem or_bit8 (V v : Int) (r : Nat) (h0 : 0 ≤ V) (h1 : V < 2 ^ r) (hr : r < 8) (hv : v = 0 ∨ v = 1) : bits .or .u8 V (v * 2 ^ r % 256) = V + 2 ^ r * v ∧ 0 ≤ V + 2 ^ r * v ∧ V + 2 ^ r * v < 256 := by
  have hp : (2 : Int) ^ r ≤ 2 ^ 7 := by
    have : (2 : Nat) ^ r ≤ 2 ^ 7 := Nat.pow_le_pow_right (by omega) (by omega)
    exact_mod_cast this
  have hp0 : (0 : Int) < 2 ^ r := Int.pow_pos (by omega)
  simp only [Int.reducePow] at hp
  have hq : ((2 : Int) ^ r) = ((2 ^ r : Nat) : Int) := by simp
  have hl : V.toNat < 2 ^ r := by
    have : V < ((2 ^ r : Nat) : Int) := by rw [← hq]; exact h1
    omega
  rcases hv with rfl | rfl
  · refine ⟨?_, by omega, by omega⟩
    rw [Int.zero_mul, Int.mul_zero, Int.add_zero, show (0 : Int) % 256 = 0 from rfl, u8_or V 0 h0 (by omega) (by omega) (by omega)]
    simp
    omega
  · refine ⟨?_, by omega, by omega⟩
    rw [Int.one_mul, Int.mul_one, Int.emod_eq_of_lt (by omega) (by omega), u8_or V _ h0 (by omega) (by omega) (by omega), Nat.or_comm]
    have hz : ((2 : Int) ^ r).toNat % 2 ^ r = 0 := by rw [hq, Int.toNat_natCast]; exact Nat.mod_self _
    rw [nat_join r _ _ hz hl]
    omega
/-- A bit more, in bytes. -/
theorem pack_bit (L : List Int) (v : Int) (k r : Nat) (hk : L.length = 8 * k + r) (hr : r < 8) :
    packF (L ++ [v]) = packF (L.take (8 * k)) ++ [valL (L.drop (8 * k)) + 2 ^ r * v] ∧ packF L = packF (L.take (8 * k)) ++ (if r = 0 then [] else [valL (L.drop (8 * k))]) := by
  have e : L ++ [v] = L.take (8 * k) ++ (L.drop (8 * k) ++ [v]) := by rw [← List.append_assoc, List.take_append_drop]
  constructor
  · rw [e, packF_append k _ _ (by simp; omega), packF_one (l := L.drop (8 * k) ++ [v]) (by simp) (by simp; omega), valL_append, List.length_drop, show L.length - 8 * k = r from by omega]
    simp [valL]
  · have h2 := packF_append k (L.take (8 * k)) (L.drop (8 * k)) (by simp; omega)
    rw [List.take_append_drop] at h2
    rw [h2]
    by_cases h0 : r = 0
    · rw [if_pos h0, List.drop_of_length_le (by omega), packF_nil]
    · rw [if_neg h0, packF_one (l := L.drop (8 * k)) (by simp; omega) (by simp; omega)]
end Go.Proofs.Ytjijkcmbbccfmaa
