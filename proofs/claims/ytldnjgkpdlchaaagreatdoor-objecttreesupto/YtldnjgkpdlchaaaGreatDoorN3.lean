/-
  What lies in the package variables; idents that may be.
-/
import Derived.Test.YtldnjgkpdlchaaaGreatDoorN2
import Derived.Lib.LaidTab
namespace Go.Proofs.YtldnjgkpdlchaaaGreatDoor
open Go.RowKit

/-- The worlds in which all that lay in W lies as it lay. -/
def CC (W w' : World) : Prop := Below W.heap.size W w'
theorem CC.refl (W : World) : CC W W := Below.refl _ _
theorem CC.on {W w' w'' : World} (h : CC W w') (hb : Below w'.heap.size w' w'') : CC W w'' := Below.trans h (hb.mono (Below.size h))
theorem CC.cell {W w' : World} (h : CC W w') {p : Addr} (hp : p.block < W.heap.size) : w'.cell? p = W.cell? p := Below.cell h hp
theorem quiet_run {P : Program} {C : World → Prop} {K : Act → Prop} {o : Oper} {a : Act} {v : Value} (h : ∀ w, C w → (execOp a.eval o).run P w = .ok (.value v) w) (hk : K (a.put o.dst v)) : o.quiet P a C K :=
  ⟨v, fun w hw => by
    unfold Oper.quietAt
    rw [h w hw]
    exact ⟨rfl, rfl⟩, hk⟩
theorem wp_region_quietC {P : Program} {C : World → Prop} {id : Nat} {Q : Exit → Act → World → Prop} {a : Act} {w : World} {l : List Oper} (hm : P.follows .mixedOrders = true) (hB : Region.lexB .any l.toArray = true) (hC : C { w with drawn := w.drawn + 1 })
    (h : wpQuiet P l.toArray C (fun a' => ∀ w', C w' → Q .normal a' w') l a) : (Code.region id l.toArray true).wp P Q a w :=
  wp_region_quiet hm hB hC (by simpa using h)

/-- What the package variables hold. -/
structure Gl (w : World) : Prop where
  mx : ∃ m, w.cell? ⟨2, 0, none⟩ = some (.int .i64 m)
  pow : Lib.TabIs Tryz.prog w "internal/strconv.uint64pow10" .u64 Lib.pow10Tab
  sy : ∃ te pe, w.cell? ⟨3, 0, none⟩ = some (.iface te pe)
  rg : ∃ te pe, w.cell? ⟨4, 0, none⟩ = some (.iface te pe)
  lo : 6 ≤ w.heap.size
theorem gl_pow : Tryz.prog.globalNamed "internal/strconv.uint64pow10" = some 1 := by kernel_rfl
theorem var_far {P : Program} {g : Nat} {W W' : World} {n : String} {cs : Array Value} (hg : P.globalNamed n = some g) (hb : W'.heap[g]? = W.heap[g]?) (hv : W.var? P n = some cs) : W'.var? P n = some cs := by
  unfold World.var? at hv ⊢
  simp only [hg, Option.bind_some] at hv ⊢
  rw [hb]
  exact hv
theorem Gl.later {w w' : World} (h : Gl w) (hb : Below w.heap.size w w') : Gl w' := by
  have hl := h.lo
  obtain ⟨m, hm⟩ := h.mx
  obtain ⟨t4, p4, h4⟩ := h.sy
  obtain ⟨t5, p5, h5⟩ := h.rg
  exact ⟨⟨m, by rw [hb.cell (p := ⟨2, 0, none⟩) (by simp only; omega)]; exact hm⟩, var_far gl_pow (hb.block 1 (by omega)) h.pow, ⟨t4, p4, by rw [hb.cell (p := ⟨3, 0, none⟩) (by simp only; omega)]; exact h4⟩, ⟨t5, p5, by rw [hb.cell (p := ⟨4, 0, none⟩) (by simp only; omega)]; exact h5⟩, by have := hb.size; omega⟩

theorem below_grow (w : World) (k : Nat) (os : Array Obj) : Below w.heap.size w (Sort.grow (w.drewN k) os) :=
  ⟨rfl, rfl, rfl, by simp, fun q hq => by
    show (w.heap ++ os)[q]? = w.heap[q]?
    rw [Array.getElem?_append_left hq]⟩
theorem itoa_any (n : Int) (w : World) (hg : Gl w) (h0 : -9223372036854775808 ≤ n) (h1 : n ≤ 9223372036854775807) :
    Calls Tryz.prog 46 #[.int .i64 n] w fun e w' => e = .returned (.string ⟨(Lib.itoa n).toArray⟩) ∧ Below w.heap.size w w' :=
  (Tryz.strconv_Itoa n h0 h1 w hg.pow).mono fun e w' hp => by
    obtain ⟨h1, k, os, rfl⟩ := hp
    exact ⟨h1, below_grow w k os⟩

/-- May it be an ident's name or email? -/
def whoF (s : ByteArray) : Bool := decide (s.size ≤ 100) && !Lib.containsAny s.data.toList [0, 10, 60, 62]
theorem ascii4 : AsciiB ⟨#[0, 10, 60, 62]⟩ := by
  intro j b h
  have hm : b ∈ ([0, 10, 60, 62] : List UInt8) := List.mem_of_getElem? h
  have key : ∀ b ∈ ([0, 10, 60, 62] : List UInt8), b.toNat < 128 := by decide
  exact key b hm
/-- An ident. -/
structure Idt where
  nm : ByteArray
  em : ByteArray
  tm : Int
  zn : Int
def Idt.v (i : Idt) : Value := .agg #[.string i.nm, .string i.em, .int .i64 i.tm, .int .i64 i.zn]
def idF (i : Idt) : Bool := whoF i.nm && whoF i.em && decide (0 ≤ i.tm) && decide (i.tm ≤ 1099511627776) && decide (-1439 ≤ i.zn) && decide (i.zn ≤ 1439)

theorem alloc_cell (w : World) (cs : Array Value) (t : TypeId) (k : Nat) (v : Value) (h : cs[k]? = some v) : (w.alloc (.cells cs t)).cell? ⟨w.heap.size, k, none⟩ = some v := by
  have hh := heap_alloc_new w (.cells cs t)
  unfold World.cell?
  simp only [hh]
  exact h
end Go.Proofs.YtldnjgkpdlchaaaGreatDoor
