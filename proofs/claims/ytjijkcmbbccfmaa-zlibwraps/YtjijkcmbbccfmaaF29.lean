/-
  Walks: the finder's three.
-/
import Derived.Test.YtjijkcmbbccfmaaFQ2
namespace Go.Proofs.Ytjijkcmbbccfmaa
open Go.RowKit Go.WideMaps

set_option maxHeartbeats 1000000 in
set_option maxRecDepth 100000 in
theorem three_any (fb : Nat) (pv : Value) (p : List Int) (i : Nat) (w : World) (hp : Rd .u8 anyB w pv p) (c0 : w.cell? ⟨fb, 0, none⟩ = some pv) (hfb : fb < w.heap.size) (hi : i + 3 ≤ p.length) (hl : p.length ≤ 1073741824) :
    Calls Try.prog 33 #[.pointer (some ⟨fb, 0, none⟩), .int .i64 i] w fun e w' => e = .returned (aggF (thL p i)) ∧ Below w.heap.size w w' := by
  obtain ⟨b, off, pc, rfl, hb, -, -, -, hcells⟩ := hp.open (by omega)
  clear hp
  have ca := hcells i (by omega)
  have cb := hcells (i + 1) (by omega)
  have cc := hcells (i + 2) (by omega)
  have hw1 : IntKind.i64.wrap ((i : Int) + 1) = (i : Int) + 1 := by rw [IntKind.wrap_i64]; omega
  have hw2 : IntKind.i64.wrap ((i : Int) + 2) = (i : Int) + 2 := by rw [IntKind.wrap_i64]; omega
  have hy0 : (0 : Int) ≤ (i : Int) + 1 := by omega
  have hz0 : (0 : Int) ≤ (i : Int) + 2 := by omega
  have hx1 : (i : Int) < (p.length : Int) := by omega
  have hy1 : (i : Int) + 1 < (p.length : Int) := by omega
  have hz1 : (i : Int) + 2 < (p.length : Int) := by omega
  have ht1 : ((i : Int) + 1).toNat = i + 1 := by omega
  have ht2 : ((i : Int) + 2).toNat = i + 2 := by omega
  have KR : Kept (aggF (thL p i) = .agg #[.int .u8 (p.getD i 0), .int .u8 (p.getD (i + 1) 0), .int .u8 (p.getD (i + 2) 0)]) := ⟨rfl⟩
  have KB := Kept.mk ((Below.refl w.heap.size w).alloc (Nat.le_refl _) (.cells #[.int .u8 0, .int .u8 0, .int .u8 0] 52))
  have hn : w.heap[w.heap.size]? = none := by simp
  clear hcells
  generalize p.getD i 0 = x at *
  generalize p.getD (i + 1) 0 = y at *
  generalize p.getD (i + 2) 0 = z at *
  go_enter Try.func33, Try.ntmps33
  go_upto_region 1 with fail
  obtain ⟨w1, hw1e, d0, da, db, dc, hw1h, hB1⟩ : ∃ w1, w.alloc (.cells #[.int .u8 0, .int .u8 0, .int .u8 0] 52) = w1 ∧ w1.cell? ⟨fb, 0, none⟩ = some (.slice (some ⟨b, off, none⟩) p.length pc) ∧ w1.cell? ⟨b, off + i, none⟩ = some (.int .u8 x) ∧ w1.cell? ⟨b, off + (i + 1), none⟩ = some (.int .u8 y) ∧ w1.cell? ⟨b, off + (i + 2), none⟩ = some (.int .u8 z) ∧ w1.heap[w.heap.size]? = some (.cells #[.int .u8 0, .int .u8 0, .int .u8 0] 52) ∧ Below w.heap.size w w1 :=
    ⟨_, rfl, by rw [KB.out.cell (p := ⟨fb, 0, none⟩) hfb]; exact c0, by rw [KB.out.cell (p := ⟨b, off + i, none⟩) hb]; exact ca, by rw [KB.out.cell (p := ⟨b, off + (i + 1), none⟩) hb]; exact cb, by rw [KB.out.cell (p := ⟨b, off + (i + 2), none⟩) hb]; exact cc, by unfold World.alloc; exact Array.getElem?_push_size, KB.out⟩
  rw [hw1e]
  have KB1 := Kept.mk hB1
  have e0 : w1.cell? ⟨w.heap.size, 0, none⟩ = some (.int .u8 0) := by simp [World.cell?, hw1h]
  have e1 : w1.cell? ⟨w.heap.size, 1, none⟩ = some (.int .u8 0) := by simp [World.cell?, hw1h]
  have e2 : w1.cell? ⟨w.heap.size, 2, none⟩ = some (.int .u8 0) := by simp [World.cell?, hw1h]
  have f0 : w1.frozen? ⟨w.heap.size, 0, none⟩ = false := by simp [World.frozen?, hw1h]
  have f1 : w1.frozen? ⟨w.heap.size, 1, none⟩ = false := by simp [World.frozen?, hw1h]
  have f2 : w1.frozen? ⟨w.heap.size, 2, none⟩ = false := by simp [World.frozen?, hw1h]
  clear hw1h
  clear hw1e KB ca cb cc c0 hB1 hn
  refine wp_region_last _ 24 (by kernel_rfl) (by kernel_rfl) rfl rfl ?_
  simp only [List.take_succ_cons, List.take_zero]
  repeat (go_big_quiet_step (fail))
  refine wpQuiet_nil ?_
  intro m
  go_wp2
  obtain ⟨w3, hw3, g0, g1, g2, hB3⟩ : ∃ w3, (((w1.drewN m).setCell ⟨w.heap.size, 0, none⟩ (.int .u8 x)).setCell ⟨w.heap.size, 1, none⟩ (.int .u8 y)).setCell ⟨w.heap.size, 2, none⟩ (.int .u8 z) = w3 ∧ w3.cell? ⟨w.heap.size, 0, none⟩ = some (.int .u8 x) ∧ w3.cell? ⟨w.heap.size, 1, none⟩ = some (.int .u8 y) ∧ w3.cell? ⟨w.heap.size, 2, none⟩ = some (.int .u8 z) ∧ Below w.heap.size w w3 :=
    ⟨_, rfl, by go_simp, by go_simp, by go_simp, (((below_drewN KB1.out m).setCell (Nat.le_refl _) _).setCell (Nat.le_refl _) _).setCell (Nat.le_refl _) _⟩
  rw [hw3]
  have KB3 := Kept.mk hB3
  clear hw3 hB3 KB1 e0 e1 e2 f0 f1 f2 d0 da db dc
  refine bodyPost_ret (v := .agg #[.int .u8 x, .int .u8 y, .int .u8 z]) (by simp [results, Try.results33, go_sem, g0, g1, g2]) rfl ?_
  rw [KR.out]
  exact ⟨rfl, KB3.out⟩
end Go.Proofs.Ytjijkcmbbccfmaa
