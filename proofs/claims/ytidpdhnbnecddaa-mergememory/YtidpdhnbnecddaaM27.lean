/-
  Walks: Spare, Kept; blocks of the call's own that are written.
-/
import Derived.Test.YtidpdhnbnecddaaM23
import Derived.OwnWalk
namespace Go.Proofs.Ytidpdhnbnecddaa
open Go.RowKit

theorem allB_lit {xs : List Int} (h : xs.all (fun x => decide (0 ≤ x ∧ x < 256)) = true) : AllB xs := by
  intro x hx
  have := List.all_eq_true.1 h x hx
  simpa using this
theorem Rd.lit (k : IntKind) (w : World) (xs : List Int) (t : TypeId) (h : xs.length ≤ 1000) : Rd k (fun g => g = w.heap.size) (w.alloc (.cells (cellsK k xs).toArray t)) (.slice (some ⟨w.heap.size, 0, none⟩) xs.length xs.length) xs := by
  refine ⟨some ⟨w.heap.size, 0, none⟩, xs.length, rfl, Nat.le_refl _, by unfold maxLen; omega, (fun h => by cases h), fun _ => ⟨w.heap.size, 0, rfl, by simp, rfl, fun i hi => ?_⟩⟩
  have hh := heap_alloc_new w (.cells (cellsK k xs).toArray t)
  simp only [Nat.zero_add, World.cell?, hh]
  simp [cellsK, List.getD, List.getElem?_eq_getElem hi]
/-- A piece of what is read, where it has an address. -/
theorem Rd.piece2 {k : IntKind} {S : Nat → Prop} {w : World} {b off n c i j : Nat} {xs : List Int} (h : Rd k S w (.slice (some ⟨b, off, none⟩) n c) xs) (hij : i ≤ j) (hj : j ≤ xs.length) :
    Rd k S w (.slice (some ⟨b, off + i, none⟩) (j - i) (c - i)) ((xs.drop i).take (j - i)) := by
  obtain ⟨a0, c0, hv, h1, h2, h3, h4⟩ := h
  cases hv
  have hlen : ((xs.drop i).take (j - i)).length = j - i := by simp; omega
  refine ⟨some ⟨b, off + i, none⟩, c - i, by rw [hlen], by rw [hlen]; omega, by omega, (fun e => by cases e), fun h0 => ?_⟩
  rw [hlen] at h0
  obtain ⟨b', off', ha, hlt, hs, hc⟩ := h4 (by omega)
  cases ha
  refine ⟨b, off + i, rfl, hlt, hs, fun q hq => ?_⟩
  rw [hlen] at hq
  have := hc (i + q) (by omega)
  rw [show off + i + q = off + (i + q) from by omega, this]
  congr 2
  simp only [List.getD, List.getElem?_drop, List.getElem?_take]
  rw [if_pos (by omega)]

def spareL (xs : List Int) : List Int := xs ++ [41, 42, 43, 44]
theorem spareL_length (xs : List Int) : (spareL xs).length = xs.length + 4 := by simp [spareL]
theorem allB4 : AllB [41, 42, 43, 44] := allB_lit rfl

theorem spare_open {w4 : World} {base : Nat} {v4 : Value} {xs : List Int} (h : Own .u8 5 w4 base v4 (xs ++ [41, 42, 43, 44])) : ∃ g cap, v4 = .slice (some ⟨g, 0, none⟩) (xs.length + 4) cap ∧ (xs.length : Int) + 4 ≤ cap ∧ (cap : Int) ≤ 9223372036854775807 ∧ base ≤ g ∧ g < w4.heap.size := by
  have hl : (xs ++ [(41 : Int), 42, 43, 44]).length = xs.length + 4 := by simp
  have hlt := h.lt
  rcases h.2 with ⟨-, hn⟩ | ⟨g, cap, cur, rfl, hbg, hg, hnc, hcm, hcs, htake⟩
  · rw [hl] at hn
    omega
  · rw [hl] at hnc
    unfold maxLen at hcm
    exact ⟨g, cap, by rw [hl], by omega, by omega, hbg, (hlt g rfl).2⟩

set_option maxHeartbeats 1000000 in
set_option maxRecDepth 100000 in
theorem spare_any {S : Nat → Prop} (v : Value) (xs : List Int) (w : World) (h : Rd .u8 S w v xs) (hl : xs.length ≤ 200000) :
    Calls Try.prog 18 #[v] w fun e w' => ∃ g cap, e = .returned (.tuple #[.slice (some ⟨g, 0, none⟩) xs.length cap, .slice (some ⟨g, 0, none⟩) (xs.length + 4) cap]) ∧ (xs.length : Int) + 4 ≤ cap ∧ Own .u8 5 w' w.heap.size (.slice (some ⟨g, 0, none⟩) (xs.length + 4) cap) (spareL xs) ∧ Below w.heap.size w w' := by
  obtain ⟨i0, z0, hi, hz, hs, hb0, hc⟩ := info8
  obtain ⟨a, c, rfl, -, -, -⟩ := h.form
  have hb1 : i0.bytes * (xs.length + 4) ≤ 281474976710656 := by rw [hb0]; omega
  have hb2 : xs.length + 4 ≤ maxLen := by unfold maxLen; omega
  have KH := Kept.mk h
  clear h
  go_enter Try.func18, Try.ntmps18
  go_wp2_with (first | (at_make; refine wpList_make_own _ rfl _ _ 22 rfl w.heap.size 5 i0 z0 1 Try.underlying22 hi hz hs .i64 .i64 ((xs.length : Int) + 4) (xs.length + 4) rfl rfl (by simp) hb1 hb2 (Nat.le_refl _) ?_; intro w1 o1 g1; have KB3 := Kept.mk ((Below.refl w.heap.size w).grown g1 (Nat.le_refl _) (by intro k hk; cases hk)); have KO1 : Kept (Own .u8 5 w1 w.heap.size (.slice (some ⟨w.heap.size, 0, none⟩) 0 (xs.length + 4)) []) := ⟨o1⟩; have KR1 := Kept.mk (KH.out.later KB3.out (Nat.le_refl _)); clear o1 g1) | (at_builtin; refine wpList_append_rd _ rfl _ _ 22 rfl .u8 S 1 w.heap.size 5 i0 z0 Try.underlying22 hi hz hs hb0 hc (by omega) _ [] rfl KO1.out _ xs rfl KR1.out (by simp; omega) KB3.out.size ?_; intro v2 w2 o2 g2 hat2; have KB4 := Kept.mk (KB3.out.grown g2 KB3.out.size (own_ge KO1.out)); have KO2 := Kept.mk (Own.alloc o2 (.cells (cellsK .u8 [41, 42, 43, 44]).toArray 5)); have KR3 := Kept.mk (Rd.lit .u8 w2 [41, 42, 43, 44] 5 (by decide)); have KB5 := Kept.mk (KB4.out.alloc KB4.out.size (.cells (cellsK .u8 [41, 42, 43, 44]).toArray 5)); clear o2 g2 hat2 KO1 KR1) | (at_builtin; refine wpList_append_rd _ rfl _ _ 22 rfl .u8 (fun g => g = w2.heap.size) 1 w.heap.size 5 i0 z0 Try.underlying22 hi hz hs hb0 hc (by omega) _ xs rfl KO2.out _ [41, 42, 43, 44] rfl KR3.out (by simp; omega) KB5.out.size ?_; intro v4 w4 o4 g4 hat4; have KB6 := Kept.mk (KB5.out.grown g4 KB5.out.size (own_ge KO2.out)); obtain ⟨g, cap, hv4, hcp1, hcp2, hg1, hg2⟩ := spare_open o4; subst hv4; have KO4 := Kept.mk o4; clear o4 g4 hat4 KO2 KR3))
  go_ret2
  exact ⟨g, cap, rfl, hcp1, KO4.out, KB6.out⟩

set_option maxHeartbeats 1000000 in
set_option maxRecDepth 100000 in
theorem kept_any {S S' : Nat → Prop} (v : Value) (xs : List Int) (g cap : Nat) (w : World) (h : Rd .u8 S w v xs) (hx : AllB xs) (hcap : (xs.length : Int) + 4 ≤ cap) (hf : Rd .u8 S' w (.slice (some ⟨g, 0, none⟩) (xs.length + 4) cap) (spareL xs)) (hl : xs.length ≤ 200000) :
    Calls Try.prog 19 #[v, .slice (some ⟨g, 0, none⟩) (xs.length + 4) cap] w fun e w' => e = .returned (.bool true) ∧ Below w.heap.size w w' := by
  have r1 : Rd .u8 S' w (.slice (some ⟨g, 0, none⟩) xs.length cap) xs := by
    have := hf.piece2 (i := 0) (j := xs.length) (by omega) (by rw [spareL_length]; omega)
    simpa [spareL] using this
  have r2 : Rd .u8 S' w (.slice (some ⟨g, xs.length, none⟩) 4 (cap - xs.length)) [41, 42, 43, 44] := by
    have := hf.piece2 (i := xs.length) (j := xs.length + 4) (by omega) (by rw [spareL_length]; omega)
    simpa [spareL] using this
  obtain ⟨a, c, rfl, -, -, -⟩ := h.form
  have g1 : (xs.length : Int) ≤ cap := by omega
  have g2 : ¬ cap = xs.length := by omega
  have g3 : (xs.length : Int) ≤ (xs.length + 4 : Nat) := by omega
  have K1 := Kept.mk (same_any _ _ xs xs w r1 h hx hx)
  have hd : decide (xs = xs) = true := by simp
  rw [hd] at K1
  have K2 := Kept.mk (same_any _ _ [41, 42, 43, 44] [41, 42, 43, 44] (w.alloc (.cells (cellsK .u8 [41, 42, 43, 44]).toArray 5)) (r2.later ((Below.refl w.heap.size w).alloc (Nat.le_refl _) (.cells (cellsK .u8 [41, 42, 43, 44]).toArray 5)) (Nat.le_refl _)) (Rd.lit .u8 w [41, 42, 43, 44] 5 (by decide)) allB4 allB4)
  have hd2 : decide (([41, 42, 43, 44] : List Int) = [41, 42, 43, 44]) = true := by simp
  rw [hd2] at K2
  clear hf h r1 r2 hd hd2 hx
  go_enter Try.func19, Try.ntmps19
  go_wp2_with fail
  refine Calls.mono K1.out (fun e w1 hp => ?_)
  obtain ⟨rfl, rfl⟩ := hp
  go_wp2_with fail
  refine Calls.mono K2.out (fun e w2 hp => ?_)
  obtain ⟨rfl, rfl⟩ := hp
  go_wp2
  go_ret
  exact ⟨rfl, (Below.refl _ _).alloc (Nat.le_refl _) _⟩


/-- A slice of the call's own may be written. -/
theorem Own.wr {k : IntKind} {e : TypeId} {w W : World} {base : Nat} {a : Option Addr} {n c : Nat} {xs : List Int} (h : Own k e w base (.slice a n c) xs) (h0 : 0 < n) (hb : ∀ g, (Value.slice a n c).ownBlock = some g → W.heap[g]? = w.heap[g]?) :
    ∃ g, a = some ⟨g, 0, none⟩ ∧ base ≤ g ∧ g < w.heap.size ∧ ∀ i, i < n → (W.cell? ⟨g, i, none⟩).isSome = true ∧ W.frozen? ⟨g, i, none⟩ = false := by
  have hF := h.far hb
  have hlen : n = xs.length := by
    obtain ⟨a', c', hv, -⟩ := h.rd.form
    injection hv
  rcases hF.2 with ⟨hv, hn⟩ | ⟨g, cap, cur, hv, hbg, hg, hnc, hcm, hcs, htake⟩
  · omega
  · injection hv with h1 h2 h3
    subst h1
    refine ⟨g, rfl, hbg, (h.lt g rfl).2, fun i hi => ⟨?_, ?_⟩⟩
    · have hk := World.ownsRow.cells hF (g := g) rfl i (.int k (xs.getD i 0)) (by simp [cellsK, List.getElem?_eq_getElem (show i < xs.length by omega), List.getD])
      rw [add_plain, Nat.zero_add] at hk
      rw [hk]
      rfl
    · simp [World.frozen?, hg]

/-- Two worlds that are alike but for what the cells of some blocks hold. -/
structure OnlyS (G : Nat → Prop) (W wr : World) : Prop where
  os : wr.os = W.os
  tape : wr.tape = W.tape
  output : wr.output = W.output
  size : wr.heap.size = W.heap.size
  block : ∀ k, ¬ G k → wr.heap[k]? = W.heap[k]?
  some : ∀ a, (W.cell? a).isSome = true → (wr.cell? a).isSome = true
  froz : ∀ a, wr.frozen? a = W.frozen? a
theorem OnlyS.refl (G : Nat → Prop) (W : World) : OnlyS G W W := ⟨rfl, rfl, rfl, rfl, fun _ _ => rfl, fun _ h => h, fun _ => rfl⟩
theorem OnlyS.set {G : Nat → Prop} {W wr : World} (h : OnlyS G W wr) {g : Nat} (hg : G g) (i : Nat) (u : Value) : OnlyS G W (wr.setCell ⟨g, i, none⟩ u) := by
  refine ⟨h.os, h.tape, h.output, by simpa [World.setCell] using h.size, fun k hk => ?_, fun p hp => ?_, fun p => by rw [World.frozen?_setCell]; exact h.froz p⟩
  · rw [Below.heap_setCell _ _ _ _ (fun e => hk (by rw [e]; exact hg))]
    exact h.block k hk
  · obtain ⟨x, hx⟩ := Option.isSome_iff_exists.1 (h.some p hp)
    obtain ⟨y, hy⟩ := cell?_setCell_some (w := wr) (p := ⟨g, i, none⟩) (x := u) (q := p) (v := x) hx
    rw [hy]
    rfl
theorem OnlyS.below {G : Nat → Prop} {b : Nat} {W wr : World} (h : OnlyS G W wr) (hb : ∀ k, k < b → ¬ G k) : Below b W wr := ⟨h.os, h.tape, h.output, by rw [h.size]; exact Nat.le_refl _, fun k hk => h.block k (hb k hk)⟩
/-- Such a slice may be written. -/
def Wb (G : Nat → Prop) (W : World) (v : Value) : Prop := ∃ a n c, v = .slice a n c ∧ n ≤ 1048576 ∧ (0 < n → ∃ g, a = some ⟨g, 0, none⟩ ∧ G g ∧ ∀ i, i < n → (W.cell? ⟨g, i, none⟩).isSome = true ∧ W.frozen? ⟨g, i, none⟩ = false)
theorem Own.wb {e : TypeId} {w W : World} {base : Nat} {v : Value} {xs : List Int} {G : Nat → Prop} (h : Own .u8 e w base v xs) (hl : xs.length ≤ 1048576) (hb : ∀ g, v.ownBlock = some g → W.heap[g]? = w.heap[g]? ∧ G g) : Wb G W v := by
  obtain ⟨a, c, rfl, -, -, -⟩ := h.rd.form
  refine ⟨a, xs.length, c, rfl, hl, fun h0 => ?_⟩
  obtain ⟨g, hg, -, -, hc⟩ := h.wr (W := W) h0 (fun g hg => (hb g hg).1)
  subst hg
  exact ⟨g, rfl, (hb g rfl).2, hc⟩
end Go.Proofs.Ytidpdhnbnecddaa
