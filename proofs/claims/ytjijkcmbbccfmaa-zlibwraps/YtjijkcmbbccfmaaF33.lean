/-
  Walks: newFinder.
-/
import Derived.Test.YtjijkcmbbccfmaaF32
namespace Go.Proofs.Ytjijkcmbbccfmaa
open Go.RowKit Go.WideMaps

theorem info64F : ∃ i, Try.prog.info? 3 = some i ∧ i.zero = some (.int .i64 0) ∧ i.size = 1 ∧ i.bytes = 8 := by
  have h : (Try.prog.info? 3).map (fun i => (i.zero, i.size, i.bytes)) = some (some (.int .i64 0), 1, 8) := by kernel_rfl
  cases h' : Try.prog.info? 3 with
  | none => rw [h'] at h; cases h
  | some i =>
    rw [h'] at h
    simp only [Option.map_some, Option.some.injEq, Prod.mk.injEq] at h
    exact ⟨i, rfl, h.1, h.2.1, h.2.2⟩
theorem made_ints (n : Nat) : (madeCells (Value.int .i64 0).cells (n * 1)).toList = cellsK .i64 (List.replicate n 0) := by
  have ec : (Value.int .i64 0).cells = #[.int .i64 0] := rfl
  rw [ec, Nat.mul_one]
  unfold madeCells cellsK
  rw [Array.toList_map, Array.toList_range, List.map_replicate]
  apply List.ext_getElem
  · simp
  · intro j h1 h2
    simp [Nat.mod_one]
theorem run_makeMapF (w : World) : (Instr.makeMap 45 none).run Try.prog w = .ok (.map (some w.heap.size)) (w.alloc (.map #[] 0)) := by
  simp [Instr.makeMap, newObj]
  rfl

set_option maxHeartbeats 1000000 in
set_option maxRecDepth 100000 in
theorem newFinder_any {W0 : World} (pv : Value) (p : List Int) (w : World) (hp : Rd .u8 anyB w pv p) (hl : p.length ≤ 16777216) (hbel : Below W0.heap.size W0 w) :
    Calls Try.prog 20 #[pv] w fun e w' => ∃ (fb mb : Nat) (bb : Option Nat), e = .returned (.pointer (some ⟨fb, 0, none⟩)) ∧ Fd W0 w' fb mb bb pv p 0 ∧ Below w.heap.size w w' ∧ w.heap.size ≤ fb ∧ w.heap.size ≤ mb ∧ ∀ k, bb = some k → w.heap.size ≤ k := by
  obtain ⟨pa, pc, rfl, -, -, -⟩ := hp.form
  obtain ⟨i0, hi, hz, hs, hb⟩ := info64F
  have hmm := run_makeMapF w
  have hown0 := Kept.mk (World.ownsMap_made (H := Unit) w Try.prog 52 (plainElem Try.prog 3))
  have hb1 : i0.bytes * p.length ≤ 281474976710656 := by rw [hb]; omega
  have hb2 : p.length ≤ maxLen := by unfold maxLen; omega
  have hwz := hbel.size
  have KW := Kept.mk hbel
  have hz1 : W0.heap.size ≤ (w.alloc (.map #[] 0)).heap.size := by simp; omega
  clear hp hbel
  go_enter Try.func20, Try.ntmps20
  go_wp2_with (at_make; refine wpList_make_full _ rfl _ _ 46 rfl W0.heap.size 3 i0 (.int .i64 0) 1 Try.underlying46 hi hz hs .i64 .i64 (p.length : Int) (p.length : Int) p.length rfl rfl rfl rfl hb1 hb2 hz1 ?_; intro w2 hown hgrow; have KO := Kept.mk hown; have KG := Kept.mk hgrow; clear hown hgrow)
  have ho : Own .i64 3 w2 W0.heap.size (.slice (some ⟨w.heap.size + 1, 0, none⟩) p.length p.length) (List.replicate p.length 0) := by
    have h1 := KO.out
    rw [made_ints] at h1
    unfold Own
    rw [List.length_replicate]
    have e : (w.alloc (.map #[] 0)).heap.size = w.heap.size + 1 := by simp
    rw [e] at h1
    exact h1
  have hlt2 : w.heap.size + 1 < w2.heap.size := (ho.lt _ rfl).2
  have hBa := (Below.refl w.heap.size w).alloc (Nat.le_refl _) (.map #[] 0)
  have hB2 : Below w.heap.size w w2 := hBa.grown KG.out (by simp) (by intro k hk; cases hk)
  have hm2 := KG.out.block w.heap.size (by simp) (by simp)
  have KZ : Kept (∀ o : Obj, o = .cells #[.slice pa p.length pc, .map (some w.heap.size), .slice (some ⟨w.heap.size + 1, 0, none⟩) p.length p.length] 48 → Fd W0 (w2.alloc o) w2.heap.size w.heap.size (some (w.heap.size + 1)) (.slice pa p.length pc) p 0 ∧ Below w.heap.size w (w2.alloc o)) := ⟨fun o hoo => by
    subst hoo
    refine ⟨⟨⟨_, List.replicate p.length 0, 0, .map [], heap_alloc_new _ _, (ownsMap_far hown0.out hm2).alloc _, Nat.le_refl _, mapT_empty p, ho.alloc _, rfl, by simp, fun c hc => absurd hc (by omega)⟩, by omega, by omega, by omega, by simp; omega, by simp, ?_⟩, hB2.alloc (by omega) _⟩
    exact (KW.out.trans (hB2.mono hwz)).alloc (by omega) _⟩
  clear hown0 KO KG ho hBa hB2 hm2
  go_ret
  exact ⟨_, _, _, rfl, (KZ.out _ rfl).1, (KZ.out _ rfl).2, by omega, by omega, fun k hk => by injection hk; omega⟩
end Go.Proofs.Ytjijkcmbbccfmaa
