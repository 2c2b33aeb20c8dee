/-
  What lies in the package variables: the longest text that is searched by instructions, and the table of the rounds.
-/
import Derived.Test.YtegdadkejheagaaDoorN2
import Derived.Lib.LaidTab
import Derived.Sort.Grow
namespace Go.Proofs.YtegdadkejheagaaDoor
open Go.RowKit

/-- The worlds in which all that lay in W lies as it lay. -/
def CC (W w' : World) : Prop := Below W.heap.size W w'
theorem CC.refl (W : World) : CC W W := Below.refl _ _
theorem CC.on {W w' w'' : World} (h : CC W w') (hb : Below w'.heap.size w' w'') : CC W w'' := Below.trans h (hb.mono (Below.size h))
theorem CC.cell {W w' : World} (h : CC W w') {p : Addr} (hp : p.block < W.heap.size) : w'.cell? p = W.cell? p := Below.cell h hp
theorem quiet_run {P : Program} {C : World → Prop} {K : Act → Prop} {o : Oper} {a : Act} {v : Value} (h : ∀ w, C w → (execOp a.eval o).run P w = .ok (.value v) w) (hk : K (a.put o.dst v)) : o.quiet P a C K :=
  ⟨v, fun w hw => by
    unfold Oper.quietAt
    rw [h w hw]
    exact ⟨rfl, rfl⟩, hk⟩
theorem wp_region_quietC {P : Program} {C : World → Prop} {id : Nat} {Q : Exit → Act → World → Prop} {a : Act} {w : World} {l : List Oper} (hm : P.follows .mixedOrders = true) (hB : Region.lexB .any l.toArray = true) (hC : C { w with drawn := w.drawn + 1 })
    (h : wpQuiet P l.toArray C (fun a' => ∀ w', C w' → Q .normal a' w') l a) : (Code.region id l.toArray true).wp P Q a w :=
  wp_region_quiet hm hB hC (by simpa using h)

/-- What the package variables hold. -/
structure Gl (w : World) : Prop where
  mx : ∃ m, w.cell? ⟨0, 0, none⟩ = some (.int .i64 m)
  lo : 3 ≤ w.heap.size
theorem Gl.later {w w' : World} (h : Gl w) (hb : Below w.heap.size w w') : Gl w' := by
  have hl := h.lo
  obtain ⟨m, hm⟩ := h.mx
  exact ⟨⟨m, by rw [hb.cell (p := ⟨0, 0, none⟩) (by simp only; omega)]; exact hm⟩, by have := hb.size; omega⟩

theorem below_grow (w : World) (k : Nat) (os : Array Obj) : Below w.heap.size w (Sort.grow (w.drewN k) os) :=
  ⟨rfl, rfl, rfl, by simp, fun q hq => by
    show (w.heap ++ os)[q]? = w.heap[q]?
    rw [Array.getElem?_append_left hq]⟩
theorem alloc_cell (w : World) (cs : Array Value) (t : TypeId) (k : Nat) (v : Value) (h : cs[k]? = some v) : (w.alloc (.cells cs t)).cell? ⟨w.heap.size, k, none⟩ = some v := by
  have hh := heap_alloc_new w (.cells cs t)
  unfold World.cell?
  simp only [hh]
  exact h
def whoF (s : ByteArray) : Bool := decide (s.size ≤ 100) && !Lib.containsAny s.data.toList [0, 10, 60, 62]
structure Idt where
  nm : ByteArray
  em : ByteArray
  tm : Int
  zn : Int
def Idt.v (i : Idt) : Value := .agg #[.string i.nm, .string i.em, .int .i64 i.tm, .int .i64 i.zn]
def idF (i : Idt) : Bool := whoF i.nm && whoF i.em && decide (0 ≤ i.tm) && decide (i.tm ≤ 1099511627776) && decide (-1439 ≤ i.zn) && decide (i.zn ≤ 1439)
theorem wr64 {x : Int} (h0 : -9223372036854775808 ≤ x) (h1 : x ≤ 9223372036854775807) : IntKind.i64.wrap x = x := by
  rw [IntKind.wrap_i64]; omega
end Go.Proofs.YtegdadkejheagaaDoor
