/-
  Walks: the law DiffMemory.
-/
import Derived.Test.YtidpdhnbnecddaaWT
import Derived.Test.YtidpdhnbnecddaaWR
import Derived.Laws.CopyOwn
namespace Go.Proofs.Ytidpdhnbnecddaa
open Go.RowKit

/-- make with a length and more room. -/
theorem wpList_make_lc {P : Program} (w : World) {ops : Array Oper} {rest : List Oper} {o : Oper} {a : Act} {Q : Exit → Act → World → Prop}
    (hg : o.guard = none) (l c : Operand) (t : TypeId) (hop : o.op = Op.makeSlice t l c)
    (e : TypeId) (i : TypeInfo) (z : Value) (h1 : P.underlying t = some (.slice e)) (h2 : P.info? e = some i) (h3 : i.zero = some z) (h4 : i.size = 1)
    (kl kc : IntKind) (L C : Int) (n m : Nat) (hl : a.eval l = .int kl L) (hc : a.eval c = .int kc C) (hL : L = (n : Int)) (hC : C = (m : Int)) (hnm : n ≤ m) (b2 : i.bytes * m ≤ 281474976710656) (b3 : m ≤ maxLen)
    (hK : ∀ w' cs, cs.length = m → Bk w' w.heap.size e cs → Below w.heap.size w w' → wpList P ops Q rest (a.put o.dst (.slice (some ⟨w.heap.size, 0, none⟩) n m)) w') :
    wpList P ops Q (o :: rest) a w := by
  refine wpList_plain hg fun K hK' => ?_
  subst hL hC
  have h63' : (m : Int) ≤ 9223372036854775807 := by
    have h := b3
    simp [maxLen] at h
    omega
  have hb' : (i.bytes : Int) * (m : Int) ≤ 281474976710656 := by
    have h : ((i.bytes * m : Nat) : Int) ≤ 281474976710656 := by omega
    rwa [Int.natCast_mul] at h
  have hr := run_make (P := P) w t e i z h1 h2 h3 kl kc n m (by omega) (by omega) hb' h63'
  simp only [Int.toNat_natCast] at hr
  unfold Oper.wp
  simp [execOp, hop, hl, hc, hr, Result.andThen]
  refine hK' _ _ (hK _ (madeCells z.cells (m * i.size)).toList ?_ ?_ ?_)
  · rw [Array.length_toList, size_madeCells, h4, Nat.mul_one]
  · exact heap_alloc_new w _
  · exact (Below.refl _ _).alloc (Nat.le_refl _) _

/-- A slice of the call's own, as a row that may be written. -/
theorem row_open {w : World} {base n : Nat} {T : TypeId} {v : Value} {xs : List Value} (h : w.ownsRow base T 1 v n xs) : ∃ p c, v = .slice p n c ∧ (0 < n → ∃ g, p = some ⟨g, 0, none⟩ ∧ base ≤ g ∧ g < w.heap.size ∧ ∃ cs, Bk w g T cs ∧ n ≤ cs.length) := by
  have hlt := h.lt
  rcases h.2 with ⟨rfl, hn⟩ | ⟨g, cap, cur, rfl, hbg, hg, hnc, hcm, hcs, htake⟩
  · exact ⟨none, 0, by rw [hn], fun h0 => by omega⟩
  · refine ⟨_, _, rfl, fun _ => ⟨g, rfl, hbg, (hlt g rfl).2, cur.toList, ?_, ?_⟩⟩
    · unfold Bk; rw [hg]
    · rw [Array.length_toList, hcs]; omega
theorem Fx.own {S : Nat → Prop} {w w' : World} {base n size : Nat} {T : TypeId} {v : Value} {xs : List Value} (h : w.ownsRow base T size v n xs) (hx : Fx S w w') (hS : ∀ g, base ≤ g → ¬ S g) : w'.ownsRow base T size v n xs := by
  have hlt := h.lt
  refine ⟨h.1, ?_⟩
  rcases h.2 with h2 | ⟨g, cap, cur, rfl, hg, hh, r⟩
  · exact Or.inl h2
  · exact Or.inr ⟨g, cap, cur, rfl, hg, by rw [hx.block g (hlt g rfl).2 (hS g hg)]; exact hh, r⟩
theorem RdS.fx {S : Nat → Prop} {w w0 w' : World} {v : Value} {L : List ByteArray} (h : RdS w0 v L) (hb : Below w0.heap.size w0 w) (hx : Fx S w w') (hS : ∀ g, g < w0.heap.size → ¬ S g) : RdS w' v L := by
  obtain ⟨a, c, rfl, h1, h2⟩ := h
  refine ⟨a, c, rfl, h1, fun h0 => ?_⟩
  obtain ⟨b, off, rfl, hlt, hr⟩ := h2 h0
  have hs := hb.size
  refine ⟨b, off, rfl, Nat.lt_of_lt_of_le hlt (by have := hx.size; omega), fun j u hu => ?_⟩
  have e : w'.heap[b]? = w0.heap[b]? := (hx.block b (by omega) (hS b hlt)).trans (hb.block b hlt)
  rw [World.cell?_of_block (w := w0) (a := ⟨b, off + j, none⟩) e]
  exact hr j u hu
/-- A row that may be written, in blocks of S. -/
def WrR (S : Nat → Prop) (w : World) (p : Option Addr) (n : Nat) (T : TypeId) : Prop := 0 < n → ∃ g, p = some ⟨g, 0, none⟩ ∧ S g ∧ ∃ cs, Bk w g T cs ∧ n ≤ cs.length
theorem WrR.setCell {S : Nat → Prop} {w : World} {p : Option Addr} {n : Nat} {T : TypeId} (h : WrR S w p n T) (k j : Nat) (u : Value) : WrR S (w.setCell ⟨k, j, none⟩ u) p n T := by
  intro h0
  obtain ⟨g, hp, hS, cs, hb, hl⟩ := h h0
  by_cases e : g = k
  · subst e
    exact ⟨g, hp, hS, _, hb.set j u, by rw [List.length_set]; exact hl⟩
  · exact ⟨g, hp, hS, cs, hb.other e u, hl⟩
theorem WrR.far {S : Nat → Prop} {w w' : World} {p : Option Addr} {n : Nat} {T : TypeId} (h : WrR S w p n T) (hb : Below w.heap.size w w') : WrR S w' p n T := by
  intro h0
  obtain ⟨g, hp, hS, cs, hk, hl⟩ := h h0
  exact ⟨g, hp, hS, cs, hk.far (hb.block g hk.lt), hl⟩
/-- Where the law stands while it writes. -/
structure St3 (S : Nat → Prop) (w0 wr : World) (p1 p2 p3 : Option Addr) (n1 n2 n3 : Nat) (T1 T2 T3 : TypeId) : Prop where
  fx : Fx S w0 wr
  r1 : WrR S wr p1 n1 T1
  r2 : WrR S wr p2 n2 T2
  r3 : WrR S wr p3 n3 T3
theorem St3.step {S : Nat → Prop} {w0 wr : World} {p1 p2 p3 : Option Addr} {n1 n2 n3 : Nat} {T1 T2 T3 : TypeId} (h : St3 S w0 wr p1 p2 p3 n1 n2 n3 T1 T2 T3) {k : Nat} (hk : S k) (j : Nat) (u : Value) : St3 S w0 (wr.setCell ⟨k, j, none⟩ u) p1 p2 p3 n1 n2 n3 T1 T2 T3 :=
  ⟨h.fx.trans (Fx.setCell wr k j u) (fun i _ e => by rw [e]; exact hk), h.r1.setCell k j u, h.r2.setCell k j u, h.r3.setCell k j u⟩
end Go.Proofs.Ytidpdhnbnecddaa
