/-
  The document's slot.
-/
import Derived.Test.YthkaohkondkhgaaDoorIQ
import Derived.Test.YthkaohkondkhgaaDoorIW
namespace Go.Proofs.YthkaohkondkhgaaDoor
open Go.RowKit

theorem wpAnyH_takeD {P : Program} {md : Region.Mode} {ops : Array Oper} {Q : Exit → Act → World → Prop} {S : World → Prop} {i : Nat} {oi : Oper} {d : Option Tmp} {v : Value} {fuel : Nat} {listed : Array Bool} {a : Act} {w : World} (hi : ops[i]? = some oi) (hd : oi.dst = d)
    (hs : Region.noSelect ops = true) (hf : Region.free md ops listed i = true) (hr : (Region.ready md ops listed).contains i = true)
    (hQ : ∀ c a w, Q (.panic c) (a.put oi.dst v) w → Q (.panic c) a w) (hy : YieldsIf P ops S oi v a) (hS : S w)
    (h : wpAnyH P md ops Q S fuel (listed.setIfInBounds i true) (a.put d v) w) : wpAnyH P md ops Q S (fuel + 1) listed a w := by
  subst hd
  exact wpAnyH_take hi hs hf hr hQ hy hS h
theorem results_rtt {P : Program} {fn : Func} {p t u : Tmp} {ty : TypeId} (h : fn.results = #[.cell p ty, .tmp t, .tmp u]) (tmps : Array Value) (w : World) (g : Nat) (t' : TypeId) (cs : Array Value) (fr : Nat × Nat) (d : TypeDesc)
    (hp : tmps.getD p undef = .pointer (some ⟨g, 0, none⟩)) (hg : w.heap[g]? = some (.cells cs t' fr))
    (hu : P.underlying ty = some d) (hd : (match d with | .struct _ | .array _ _ => true | _ => false) = true) (hi : (P.info? ty).map (·.size) = some cs.size) :
    (results fn tmps).run P w = .ok (.tuple #[.agg cs, tmps.getD t undef, tmps.getD u undef]) w := by
  have hp' : tmps[p]?.getD undef = .pointer (some ⟨g, 0, none⟩) := by simpa using hp
  simp [results, h, hp', asAddr, run_loadVar_row w g t' ty cs fr d hg hu hd hi]
theorem rbig_any {S : Nat → Prop} (v : Value) (xs : List Int) (t n : Nat) (w : World) (h : Rd .u8 S w v xs) (hA : AllB xs) (hn : 1 ≤ n) (hn8 : n ≤ 8) (ht : t + n ≤ xs.length) :
    Calls Tryd.prog 56 #[v, .int .i64 t, .int .i64 n] w fun e w' => e = .returned (.int .u64 (Nu.bigT xs t n)) ∧ w' = w := by
  obtain ⟨b, off, c, rfl, hlt, hlc, hcm, -, hc⟩ := h.open (by omega)
  exact Nu.refBig_ok b off c xs t n w hn hn8 ht hlc (by unfold maxLen at hcm; omega) hA hc
theorem wru8 {x : Int} (h0 : 0 ≤ x) (h1 : x < 256) : IntKind.u8.wrap x = x := by
  unfold IntKind.wrap
  simp [IntKind.signed, IntKind.bits]
  omega
/-- A block that holds a slot. -/
def BlS (w : World) (g : Nat) (e : SlC) : Prop := w.heap[g]? = some (.cells e.l.toArray 41 (0, 0))
theorem BlS.lt {w : World} {g : Nat} {e : SlC} (h : BlS w g e) : g < w.heap.size := by
  unfold BlS at h
  rcases Nat.lt_or_ge g w.heap.size with h' | h'
  · exact h'
  · rw [Array.getElem?_eq_none h'] at h
    cases h
theorem BlS.cell {w : World} {g : Nat} {e : SlC} (h : BlS w g e) {k : Nat} {u : Value} (hu : e.l[k]? = some u) : w.cell? ⟨g, k, none⟩ = some u := by
  unfold BlS at h
  simp [World.cell?, h, hu]
theorem BlS.frozen {w : World} {g : Nat} {e : SlC} (h : BlS w g e) (i : Nat) : w.frozen? ⟨g, i, none⟩ = false := by
  unfold BlS at h
  simp [World.frozen?, h]
theorem BlS.setId {w : World} {g : Nat} {e : SlC} (h : BlS w g e) (hl : e.ids.length = 32) {j : Nat} (hj : j < 32) (y : Int) : BlS (w.setCell ⟨g, 3 + j, none⟩ (.int .u8 y)) g { e with ids := e.ids.set j y } := by
  unfold BlS at h ⊢
  simp only [World.setCell, Array.getElem?_modify, h]
  simp only [if_true, Option.map_some]
  congr 2
  apply Array.toList_inj.1
  simp only [Option.isSome_none, Bool.false_eq_true, if_false, Array.toList_setIfInBounds]
  unfold SlC.l
  rw [show 3 + j = j + 1 + 1 + 1 by omega, List.set_cons_succ, List.set_cons_succ, List.set_cons_succ, List.set_append_left _ _ (by rw [cellsK_length, hl]; exact hj)]
  simp [cellsK, List.map_set]
theorem BlS.setPt {w : World} {g : Nat} {e : SlC} (h : BlS w g e) (s : ByteArray) : BlS (w.setCell ⟨g, 0, none⟩ (.string s)) g { e with pt := s } := by
  unfold BlS at h ⊢
  simp only [World.setCell, Array.getElem?_modify, h]
  simp only [if_true, Option.map_some]
  congr 2
theorem BlS.far {w w' : World} {g B : Nat} {e : SlC} (h : BlS w g e) (hb : Below B w w') (hg : g < B) : BlS w' g e := by
  unfold BlS at h ⊢
  rw [hb.block g hg]
  exact h
def ids0 (R : List Int) (k : Nat) : List Int := ((R.drop 40).take k) ++ List.replicate (32 - k) 0
theorem ids0_len (R : List Int) {k : Nat} (hk : k ≤ 32) (h : 72 ≤ R.length) : (ids0 R k).length = 32 := by
  unfold ids0
  rw [List.length_append, List.length_take, List.length_drop, List.length_replicate]
  omega
theorem ids0_set (R : List Int) {k : Nat} (hk : k < 32) (h : 72 ≤ R.length) : (ids0 R k).set k (R.getD (40 + k) 0) = ids0 R (k + 1) := by
  unfold ids0
  have hl : ((R.drop 40).take k).length = k := by rw [List.length_take, List.length_drop]; omega
  obtain ⟨m, hm⟩ : ∃ m, 32 - k = m + 1 := ⟨31 - k, by omega⟩
  rw [List.set_append_right _ _ (by omega), hl, Nat.sub_self, hm, show 32 - (k + 1) = m by omega, List.replicate_succ, List.set_cons_zero]
  have hg : (R.drop 40)[k]? = some (R.getD (40 + k) 0) := by
    rw [List.getElem?_drop, List.getD_eq_getElem?_getD, List.getElem?_eq_getElem (by omega)]
    rfl
  rw [List.take_add_one, hg]
  simp
theorem ids0_end (R : List Int) : ids0 R 32 = (R.take 72).drop 40 := by
  unfold ids0
  rw [List.drop_take]
  simp
def e1F (R : List Int) : SlC := ⟨⟨#[]⟩, (R.getD 72 0) / 16 % 4, Nu.bigT R 24 4, List.replicate 32 0, Nu.bigT R 36 4, Nu.bigT R 8 4⟩
theorem builtQ (X0 X1 X2 X3 : Value) : Tryd.prog.built 41 [(5, X0), (2, X1), (4, X2), (1, X3)] = Instr.fill ((#[(0, 1), (1, 1), (2, 1), (3, 32), (35, 1), (36, 1)] : Array (Nat × Nat))[·]?) zS.l.toArray [(5, X0), (2, X1), (4, X2), (1, X3)] := by kernel_rfl
theorem fillQ (st md sz tm : Int) : Instr.fill ((#[(0, 1), (1, 1), (2, 1), (3, 32), (35, 1), (36, 1)] : Array (Nat × Nat))[·]?) zS.l.toArray [(5, .int .i64 tm), (2, .int .i64 md), (4, .int .i64 sz), (1, .int .i64 st)] = some (SlC.l ⟨⟨#[]⟩, st, md, List.replicate 32 0, sz, tm⟩).toArray := by
  kernel_rfl
theorem getD_drop (xs : List Int) (t i : Nat) : (xs.drop t).getD i 0 = xs.getD (t + i) 0 := by
  rw [List.getD_eq_getElem?_getD, List.getD_eq_getElem?_getD, List.getElem?_drop]
theorem bigT_drop (xs : List Int) (t i n : Nat) : Nu.bigT (xs.drop t) i n = Nu.bigT xs (t + i) n := by
  unfold Nu.bigT
  rw [List.drop_drop]
/-- How many bytes that are not 0 stand there, found one by one. -/
theorem zn_at {R : List Int} {n : Nat} (h : n ≤ zn R) : (n < zn R ↔ 74 + n < R.length ∧ R.getD (74 + n) 0 ≠ 0) := by
  unfold zn at h ⊢
  have hg : ∀ (l : List Int) (n : Nat), n ≤ (l.takeWhile fun x => x != 0).length → (n < (l.takeWhile fun x => x != 0).length ↔ n < l.length ∧ l.getD n 0 ≠ 0) := by
    intro l
    induction l with
    | nil => intro n _; simp
    | cons x l ih =>
      intro n hn
      by_cases hx : x = 0
      · subst hx
        have : ((0 : Int) :: l).takeWhile (fun x => x != 0) = [] := by simp
        rw [this] at hn ⊢
        simp at hn
        subst hn
        simp
      · have : (x :: l).takeWhile (fun x => x != 0) = x :: l.takeWhile (fun x => x != 0) := by simp [hx]
        rw [this] at hn ⊢
        cases n with
        | zero => simp [hx]
        | succ n =>
          have := ih n (by simpa using hn)
          simpa using this
  have := hg (R.drop 74) n h
  rw [this, List.length_drop, getD_drop]
  constructor
  · rintro ⟨h1, h2⟩; exact ⟨by omega, h2⟩
  · rintro ⟨h1, h2⟩; exact ⟨by omega, h2⟩
end Go.Proofs.YthkaohkondkhgaaDoor
