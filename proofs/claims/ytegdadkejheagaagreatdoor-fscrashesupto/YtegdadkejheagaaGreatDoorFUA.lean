/-
  A store into a map in two steps: the entry, then its value.
-/
import Derived.Test.YtegdadkejheagaaGreatDoorFT
import Derived.WideKeyEntry
namespace Go.Proofs.YtegdadkejheagaaGreatDoor
open Go.RowKit Go.WideMaps Go.Maps Go.ChangeMaps


set_option maxRecDepth 100000 in
theorem zero_ptr' (u : World) : (zeroValue 70).run Tryz.prog u = .ok (.pointer none) u := zero_ptr u
set_option maxRecDepth 100000 in
theorem MapAt.entry {w : World} {b n : Nat} {f : ByteArray → Option Value} (h : MapAt w (some b) n f) (hn : n < maxLen) {s : ByteArray} (hs : s.size ≤ maxLen) :
    ∃ (v0 : Value) (st : Nat) (w1 : World), (Instr.mapEntry 53 (.map (some b)) (.string s)).run Tryz.prog w = .ok (.tuple #[v0, .int .i64 st]) w1 ∧ Fx (fun i => i = b) w w1 ∧ w1.heap.size = w.heap.size ∧
      ∀ (w2 : World) (u : Value), w2.heap[b]? = w1.heap[b]? → ∃ w3, (Instr.entryStore 53 (.map (some b)) (.int .i64 st) u).run Tryz.prog w2 = .ok () w3 ∧ MapAt w3 (some b) (n + 1) (upd f s (some u)) ∧ Fx (fun i => i = b) w2 w3 ∧ w3.heap.size = w2.heap.size := by
  obtain ⟨D, h1, h2⟩ := h
  obtain ⟨es, clock, hb, F, hsz, hD⟩ := h1
  have hblt := (Array.getElem?_eq_some_iff.1 hb).1
  obtain ⟨v0, st, es1, clock1, hrun, -, hst⟩ := Go.WideElems.entry_then_store (string_law Tryz.underlying9) Tryz.underlying53 zero_ptr' hb F (key_str hs)
  have hset : ∀ (W : World) (es' : Array MapEntry) (k : Nat), b < W.heap.size → (setBlock W b (.map es' k)).heap[b]? = some (.map es' k) := fun W es' k hW => by
    unfold setBlock
    simp [hW]
  have hfx : ∀ (W : World) (es' : Array MapEntry) (k : Nat), Fx (fun i => i = b) W (setBlock W b (.map es' k)) := fun W es' k => ⟨rfl, rfl, rfl, by simp [setBlock], fun i hi hne => by
    unfold setBlock
    simp only
    rw [Array.getElem?_setIfInBounds]
    split
    · rename_i e; exact absurd e.symm hne
    · rfl⟩
  refine ⟨v0, st, _, hrun, hfx _ _ _, by simp [setBlock], fun w2 u hw2 => ?_⟩
  rw [hset w es1 clock1 hblt] at hw2
  obtain ⟨es', clock', hr2, hup⟩ := hst w2 u hw2
  have hw2lt := (Array.getElem?_eq_some_iff.1 hw2).1
  have hown : w.ownsMap Tryz.prog 9 heldR b n D := ⟨es, clock, hb, F, hsz, hD⟩
  obtain ⟨w', hrun', hown', -⟩ := hown.store keyed_str Tryz.underlying53 hn (key_str hs) (val := u) (d := .held u) (ps := []) rfl
  rw [hup] at hrun'
  injection hrun' with _ hw'
  subst hw'
  obtain ⟨es2, k2, hb2, r2⟩ := hown'
  rw [hset w es' clock' hblt] at hb2
  injection hb2 with hb2
  injection hb2 with e1 e2
  subst e1 e2
  exact ⟨_, hr2, ⟨_, ⟨es', clock', hset w2 es' clock' hw2lt, r2⟩, h2.put hs u⟩, hfx _ _ _, by simp [setBlock]⟩
end Go.Proofs.YtegdadkejheagaaGreatDoor
