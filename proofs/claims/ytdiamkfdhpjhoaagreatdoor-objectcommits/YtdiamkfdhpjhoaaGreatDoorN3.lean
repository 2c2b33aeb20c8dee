/-
  What lies in the package variables; idents that may be.
-/
import Derived.Test.YtdiamkfdhpjhoaaGreatDoorN2
import Derived.Lib.LaidTab
namespace Go.Proofs.YtdiamkfdhpjhoaaGreatDoor
open Go.RowKit

/-- The worlds in which all that lay in W lies as it lay. -/
def CC (W w' : World) : Prop := Below W.heap.size W w'
theorem CC.refl (W : World) : CC W W := Below.refl _ _
theorem CC.on {W w' w'' : World} (h : CC W w') (hb : Below w'.heap.size w' w'') : CC W w'' := Below.trans h (hb.mono (Below.size h))
theorem CC.cell {W w' : World} (h : CC W w') {p : Addr} (hp : p.block < W.heap.size) : w'.cell? p = W.cell? p := Below.cell h hp
theorem quiet_run {P : Program} {C : World → Prop} {K : Act → Prop} {o : Oper} {a : Act} {v : Value} (h : ∀ w, C w → (execOp a.eval o).run P w = .ok (.value v) w) (hk : K (a.put o.dst v)) : o.quiet P a C K :=
  ⟨v, fun w hw => by
    unfold Oper.quietAt
    rw [h w hw]
    exact ⟨rfl, rfl⟩, hk⟩
theorem wp_region_quietC {P : Program} {C : World → Prop} {id : Nat} {Q : Exit → Act → World → Prop} {a : Act} {w : World} {l : List Oper} (hm : P.follows .mixedOrders = true) (hB : Region.lexB .any l.toArray = true) (hC : C { w with drawn := w.drawn + 1 })
    (h : wpQuiet P l.toArray C (fun a' => ∀ w', C w' → Q .normal a' w') l a) : (Code.region id l.toArray true).wp P Q a w :=
  wp_region_quiet hm hB hC (by simpa using h)

/-- What the package variables hold. -/
structure Gl (w : World) : Prop where
  mx : ∃ m, w.cell? ⟨2, 0, none⟩ = some (.int .i64 m)
  pow : Lib.TabIs Tryz.prog w "internal/strconv.uint64pow10" .u64 Lib.pow10Tab
  sy : ∃ te pe, w.cell? ⟨5, 0, none⟩ = some (.iface te pe)
  rg : ∃ te pe, w.cell? ⟨6, 0, none⟩ = some (.iface te pe)
  lo : 7 ≤ w.heap.size
theorem gl_pow : Tryz.prog.globalNamed "internal/strconv.uint64pow10" = some 1 := by kernel_rfl
theorem var_far {P : Program} {g : Nat} {W W' : World} {n : String} {cs : Array Value} (hg : P.globalNamed n = some g) (hb : W'.heap[g]? = W.heap[g]?) (hv : W.var? P n = some cs) : W'.var? P n = some cs := by
  unfold World.var? at hv ⊢
  simp only [hg, Option.bind_some] at hv ⊢
  rw [hb]
  exact hv
theorem Gl.later {w w' : World} (h : Gl w) (hb : Below w.heap.size w w') : Gl w' := by
  have hl := h.lo
  obtain ⟨m, hm⟩ := h.mx
  obtain ⟨t4, p4, h4⟩ := h.sy
  obtain ⟨t5, p5, h5⟩ := h.rg
  exact ⟨⟨m, by rw [hb.cell (p := ⟨2, 0, none⟩) (by simp only; omega)]; exact hm⟩, var_far gl_pow (hb.block 1 (by omega)) h.pow, ⟨t4, p4, by rw [hb.cell (p := ⟨5, 0, none⟩) (by simp only; omega)]; exact h4⟩, ⟨t5, p5, by rw [hb.cell (p := ⟨6, 0, none⟩) (by simp only; omega)]; exact h5⟩, by have := hb.size; omega⟩

theorem below_grow (w : World) (k : Nat) (os : Array Obj) : Below w.heap.size w (Sort.grow (w.drewN k) os) :=
  ⟨rfl, rfl, rfl, by simp, fun q hq => by
    show (w.heap ++ os)[q]? = w.heap[q]?
    rw [Array.getElem?_append_left hq]⟩
theorem itoa_any (n : Int) (w : World) (hg : Gl w) (h0 : -9223372036854775808 ≤ n) (h1 : n ≤ 9223372036854775807) :
    Calls Tryz.prog 37 #[.int .i64 n] w fun e w' => e = .returned (.string ⟨(Lib.itoa n).toArray⟩) ∧ Below w.heap.size w w' :=
  (Tryz.strconv_Itoa n h0 h1 w hg.pow).mono fun e w' hp => by
    obtain ⟨h1, k, os, rfl⟩ := hp
    exact ⟨h1, below_grow w k os⟩

/-- May it be an ident's name or email? -/
def whoF (s : ByteArray) : Bool := decide (s.size ≤ 100) && !Lib.containsAny s.data.toList [0, 10, 60, 62]
theorem ascii4 : AsciiB ⟨#[0, 10, 60, 62]⟩ := by
  intro j b h
  have hm : b ∈ ([0, 10, 60, 62] : List UInt8) := List.mem_of_getElem? h
  have key : ∀ b ∈ ([0, 10, 60, 62] : List UInt8), b.toNat < 128 := by decide
  exact key b hm
set_option maxHeartbeats 1000000 in
set_option maxRecDepth 100000 in
theorem who_any (s : ByteArray) (w : World) : Calls Tryz.prog 63 #[.string s] w fun e w' => e = .returned (.bool (whoF s)) ∧ Below w.heap.size w w' := by
  by_cases h : s.size ≤ 100
  · have hd : decide ((s.size : Int) ≤ 100) = true := by simp; omega
    have KC := containsAny_any s ⟨#[0, 10, 60, 62]⟩ w (by omega) (by decide) (by decide) ascii4
    have KE : Kept (whoF s = !Lib.containsAny s.data.toList [0, 10, 60, 62]) := ⟨by unfold whoF; rw [decide_eq_true h]; rfl⟩
    have KC : Kept (Calls Tryz.prog 77 #[.string s, .string ⟨#[0, 10, 60, 62]⟩] w fun e w' => e = .returned (.bool (Lib.containsAny s.data.toList [0, 10, 60, 62])) ∧ Below w.heap.size w w') := ⟨KC⟩
    generalize Lib.containsAny s.data.toList [0, 10, 60, 62] = q at *
    go_enter Tryz.func63, Tryz.ntmps63
    go_wp2_with fail
    refine Calls.mono KC.out (fun e w1 hp => ?_)
    obtain ⟨rfl, hb⟩ := hp
    have KB := Kept.mk hb
    clear hb
    go_wp2
    go_ret
    exact ⟨by rw [KE.out]; rfl, KB.out⟩
  · have hd : decide ((s.size : Int) ≤ 100) = false := by simp; omega
    have KE : Kept (whoF s = false) := ⟨by unfold whoF; rw [decide_eq_false h]; rfl⟩
    go_enter Tryz.func63, Tryz.ntmps63
    go_wp2
    go_ret
    exact ⟨by rw [KE.out]; rfl, Below.refl _ _⟩

/-- An ident. -/
structure Idt where
  nm : ByteArray
  em : ByteArray
  tm : Int
  zn : Int
def Idt.v (i : Idt) : Value := .agg #[.string i.nm, .string i.em, .int .i64 i.tm, .int .i64 i.zn]
def idF (i : Idt) : Bool := whoF i.nm && whoF i.em && decide (0 ≤ i.tm) && decide (i.tm ≤ 1099511627776) && decide (-1439 ≤ i.zn) && decide (i.zn ≤ 1439)

theorem alloc_cell (w : World) (cs : Array Value) (t : TypeId) (k : Nat) (v : Value) (h : cs[k]? = some v) : (w.alloc (.cells cs t)).cell? ⟨w.heap.size, k, none⟩ = some v := by
  have hh := heap_alloc_new w (.cells cs t)
  unfold World.cell?
  simp only [hh]
  exact h
/-- The block of an ident that was handed in. -/
theorem box_ident (w : World) (i : Idt) : ∃ w1, w.alloc (.cells #[.string i.nm, .string i.em, .int .i64 i.tm, .int .i64 i.zn] 26) = w1 ∧ Below w.heap.size w w1 ∧ w.heap.size < w1.heap.size ∧ (∀ w', Below w1.heap.size w1 w' → w'.cell? ⟨w.heap.size, 0, none⟩ = some (.string i.nm) ∧ w'.cell? ⟨w.heap.size, 1, none⟩ = some (.string i.em) ∧ w'.cell? ⟨w.heap.size, 2, none⟩ = some (.int .i64 i.tm) ∧ w'.cell? ⟨w.heap.size, 3, none⟩ = some (.int .i64 i.zn)) := by
  refine ⟨_, rfl, (Below.refl _ _).alloc (Nat.le_refl _) _, by simp, fun w' hb => ?_⟩
  refine ⟨?_, ?_, ?_, ?_⟩
  all_goals
    rw [hb.cell (by simp)]
    exact alloc_cell _ _ _ _ _ rfl

set_option maxHeartbeats 1000000 in
set_option maxRecDepth 100000 in
theorem ident_any (i : Idt) (w : World) : Calls Tryz.prog 35 #[i.v] w fun e w' => e = .returned (.bool (idF i)) ∧ Below w.heap.size w w' := by
  obtain ⟨nm, em, tm, zn⟩ := i
  unfold Idt.v idF
  simp only
  have KW1 := who_any nm
  have KW2 := who_any em
  obtain ⟨w1, hw1, hB1, -, hc⟩ := box_ident w ⟨nm, em, tm, zn⟩
  simp only at hw1 hc
  have KC := Kept.mk hc
  have KB1 := Kept.mk hB1
  have d0 := (hc w1 (Below.refl _ _)).1
  clear hc hB1
  generalize whoF nm = q1 at *
  generalize whoF em = q2 at *
  have K1 := Kept.mk (KW1 w1)
  have K2 := Kept.mk KW2
  clear KW1 KW2
  cases q1
  · go_enter Tryz.func35, Tryz.ntmps35
    go_wp2_with fail
    refine Calls.mono K1.out (fun e w2 hp => ?_)
    obtain ⟨rfl, hb2⟩ := hp
    have KB2 := Kept.mk (KB1.out.trans (hb2.mono KB1.out.size))
    clear hb2
    go_wp2
    go_ret
    exact ⟨rfl, KB2.out⟩
  · go_enter Tryz.func35, Tryz.ntmps35
    go_wp2_with fail
    refine Calls.mono K1.out (fun e w2 hp => ?_)
    obtain ⟨rfl, hb2⟩ := hp
    have d1 := (KC.out w2 hb2).2.1
    have K2 := Kept.mk (K2.out w2)
    have KB2 := Kept.mk (KB1.out.trans (hb2.mono KB1.out.size))
    have KB12 := Kept.mk hb2
    clear hb2 d0
    go_wp2_with fail
    refine Calls.mono K2.out (fun e w3 hp => ?_)
    obtain ⟨rfl, hb3⟩ := hp
    obtain ⟨-, -, d2, d3⟩ := KC.out w3 (KB12.out.trans (hb3.mono KB12.out.size))
    have KB3 := Kept.mk (KB2.out.trans (hb3.mono KB2.out.size))
    clear hb3 d1
    cases q2
    · go_wp2
      go_ret
      exact ⟨rfl, KB3.out⟩
    · by_cases h1 : 0 ≤ tm
      · by_cases h2 : tm ≤ 1099511627776
        · by_cases h3 : -1439 ≤ zn
          · go_wp2
            go_ret
            exact ⟨by simp [h1, h2, h3], KB3.out⟩
          · go_wp2
            go_ret
            exact ⟨by simp; omega, KB3.out⟩
        · go_wp2
          go_ret
          exact ⟨by simp; omega, KB3.out⟩
      · go_wp2
        go_ret
        exact ⟨by simp; omega, KB3.out⟩
end Go.Proofs.YtdiamkfdhpjhoaaGreatDoor
