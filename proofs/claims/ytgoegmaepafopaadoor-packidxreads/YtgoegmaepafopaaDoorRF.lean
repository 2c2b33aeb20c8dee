/-
  Walks: the document's DocBuild. (By tools/gen_pxr8.py.)
-/
import Derived.Test.YtgoegmaepafopaaDoorR7
import Derived.Deep.RegionHeld3
import Derived.Test.YtgoegmaepafopaaDoorShF
import Derived.Deep.Slices
import Derived.WideKeyArr2
namespace Go.Proofs.YtgoegmaepafopaaDoor
open Go.RowKit Go.Sort

/-- A row of truths in a block of its own. -/
def BlB (w : World) (g : Nat) (bs : List Bool) : Prop := w.heap[g]? = some (.cells (bs.map Value.bool).toArray 4)
section
variable {w w' : World} {g : Nat} {bs : List Bool}
theorem BlB.lt (h : BlB w g bs) : g < w.heap.size := by
  rcases Nat.lt_or_ge g w.heap.size with h' | h'
  · exact h'
  · unfold BlB at h
    rw [Array.getElem?_eq_none h'] at h
    cases h
theorem BlB.cell (h : BlB w g bs) (i : Nat) (hi : i < bs.length) : w.cell? ⟨g, i, none⟩ = some (.bool (lng bs i)) := by
  unfold BlB at h
  simp [World.cell?, h, lng, List.getD, List.getElem?_eq_getElem hi]
theorem BlB.frozen (h : BlB w g bs) (i : Nat) : w.frozen? ⟨g, i, none⟩ = false := by
  unfold BlB at h
  simp [World.frozen?, h]
theorem BlB.set (h : BlB w g bs) (i : Nat) (b : Bool) : BlB (w.setCell ⟨g, i, none⟩ (.bool b)) g (bs.set i b) := by
  unfold BlB at h ⊢
  simp only [World.setCell, Array.getElem?_modify, h]
  simp [List.map_set]
theorem BlB.later {B : Nat} (h : BlB w g bs) (hb : Below B w w') (hB : w.heap.size ≤ B) : BlB w' g bs := by
  have := h.lt
  unfold BlB at h ⊢
  rw [hb.block g (by omega)]
  exact h
theorem BlB.rd (h : BlB w g bs) (hl : bs.length ≤ 1000000) : RdB w (.slice (some ⟨g, 0, none⟩) bs.length bs.length) bs :=
  ⟨_, bs.length, rfl, Nat.le_refl _, by unfold maxLen; omega, fun _ => ⟨g, 0, rfl, h.lt, fun i hi => by rw [Nat.zero_add]; exact h.cell i hi⟩⟩
end
def lgM (L : List Bool) (k : Nat) : List Bool := (List.range L.length).map fun i => if i < k then lng L i else false
theorem lgM_len (L : List Bool) (k : Nat) : (lgM L k).length = L.length := by simp [lgM]
theorem lgM_zero (L : List Bool) : lgM L 0 = List.replicate L.length false := by
  apply List.ext_getElem
  · simp [lgM]
  · intro i h1 h2
    simp [lgM]
theorem lgM_step (L : List Bool) {k : Nat} : (lgM L k).set k (lng L k) = lgM L (k + 1) := by
  apply List.ext_getElem
  · simp [lgM]
  · intro i h1 h2
    rw [List.getElem_set]
    by_cases hik : k = i
    · subst hik
      simp [lgM]
    · rw [if_neg hik]
      have : (i < k) ↔ (i < k + 1) := by omega
      simp [lgM, this]
theorem lgM_all (L : List Bool) : lgM L L.length = L := by
  apply List.ext_getElem
  · simp [lgM]
  · intro i h1 h2
    simp [lgM, h2, lng_get h2]
set_option maxRecDepth 100000 in
theorem zeroB : ∃ i, Tryd.prog.info? 4 = some i ∧ i.zero = some (.bool false) ∧ i.size = 1 ∧ i.bytes = 1 := ⟨_, rfl, rfl, rfl, rfl⟩
/-- make([]bool, n). -/
theorem wpList_makeB (w : World) {ops : Array Oper} {rest : List Oper} {o : Oper} {a : Act} {Q : Exit → Act → World → Prop} (hg : o.guard = none) (l c : Operand) (hop : o.op = Op.makeSlice 66 l c) (L C : Int) (n : Nat) (hl : a.eval l = .int .i64 L) (hc : a.eval c = .int .i64 C) (hL : L = (n : Int)) (hC : C = (n : Int)) (hn : n ≤ 2000000)
    (hK : ∀ w', BlB w' w.heap.size (List.replicate n false) → w.grownBy w' none → wpList Tryd.prog ops Q rest (a.put o.dst (.slice (some ⟨w.heap.size, 0, none⟩) n n)) w') :
    wpList Tryd.prog ops Q (o :: rest) a w := by
  obtain ⟨i, hi, hz, hs, hb⟩ := zeroB
  refine wpList_make_full w hg l c 66 hop w.heap.size 4 i (.bool false) 1 Tryd.underlying66 hi hz hs .i64 .i64 L C n hl hc hL hC (by rw [hb]; omega) (by unfold maxLen; omega) (Nat.le_refl _) (fun w' ho hgr => hK w' ?_ hgr)
  rcases ho with ⟨h1, h2 | ⟨g, cap, cur, hv, hg2, hh, hnc, hcm, hcs, htake⟩⟩
  · cases h2.1
  · cases hv
    unfold BlB
    rw [hh]
    have e : cur = ((List.replicate n false).map Value.bool).toArray := by
      apply Array.toList_inj.1
      rw [List.take_of_length_le (by rw [Array.length_toList, hcs]; exact Nat.le_refl _)] at htake
      rw [htake]
      have ec : (Value.bool false).cells = #[.bool false] := rfl
      rw [ec, Nat.mul_one]
      unfold madeCells
      rw [Array.toList_map, Array.toList_range, List.map_replicate]
      apply List.ext_getElem
      · simp
      · intro j h1 h2
        simp [Nat.mod_one]
    rw [e]
theorem bld_doc {rs : List RowC} (h : rs.length ≤ 4096) : bldE rs = if twiceB (sortF rs) = true then 8 else 0 := by
  unfold bldE
  rw [if_neg (by omega), twice_rise (sortF_sorted rs)]
  cases riseB (sortF rs) <;> rfl

open Go.RowKit Go.Sort

theorem wpAnyH_takeD {P : Program} {md : Region.Mode} {ops : Array Oper} {Q : Exit → Act → World → Prop} {S : World → Prop} {i : Nat} {oi : Oper} {d : Option Tmp} {v : Value} {fuel : Nat} {listed : Array Bool} {a : Act} {w : World} (hi : ops[i]? = some oi) (hd : oi.dst = d)
    (hs : Region.noSelect ops = true) (hf : Region.free md ops listed i = true) (hr : (Region.ready md ops listed).contains i = true)
    (hQ : ∀ c a w, Q (.panic c) (a.put oi.dst v) w → Q (.panic c) a w) (hy : YieldsIf P ops S oi v a) (hS : S w)
    (h : wpAnyH P md ops Q S fuel (listed.setIfInBounds i true) (a.put d v) w) : wpAnyH P md ops Q S (fuel + 1) listed a w := by
  subst hd
  exact wpAnyH_take hi hs hf hr hQ hy hS h
open Go.ChangeShapes Go.WideShapes Go.ChangeAt Go.RowKit Go.Deep

theorem take_one {l : List Value} {k : Nat} {v : Value} (h : (l.drop k).take 1 = [v]) : l[k]? = some v := by
  have := congrArg (fun q => q[0]?) h
  simpa using this
theorem ints_of {H : Type} {enc : TypeId × Value → H} {P : Program} {W : World} {base : Nat} {sp : Nat → Bool} {held : Bool} {t e : TypeId} {n fuel : Nat} {q : IntKind} (hu : P.underlying t = some (.array n e)) (he : P.underlying e = some (.int q)) (hce : P.cellsOf e = 1) (hct : P.cellsOf t = n)
    {cs : List Value} {x : DataW H × List MemPlace} (h : DataW.trod enc P W base sp held fuel t cs = some x) : ∃ l : List Int, cs = cellsK q l ∧ l.length = n ∧ ∀ y ∈ l, (Lit.int q y).wf = true := by
  obtain ⟨xs, m, -, -, hlen, hxl, hall⟩ := DataW.trod_array hu h
  rw [hct] at hlen
  have hat : ∀ i, i < n → ∃ a, cs[i]? = some (.int q a) ∧ (Lit.int q a).wf = true := fun i hi => by
    have h1 := hall i hi
    rw [hce, Nat.mul_one, List.getElem?_eq_getElem (by omega)] at h1
    obtain ⟨a, ea, _, wa⟩ := DataW.trod_int he h1
    exact ⟨a, take_one ea, wa⟩
  refine ⟨cs.map intOf, ?_, by simpa using hlen, fun y hy => ?_⟩
  · unfold cellsK
    rw [List.map_map]
    apply List.ext_getElem?
    intro i
    rcases Nat.lt_or_ge i n with h | h
    · obtain ⟨a, ha, _⟩ := hat i h
      simp only [List.getElem?_map, ha, Option.map_some]
      rfl
    · simp [List.getElem?_eq_none (show cs.length ≤ i by omega)]
  · obtain ⟨z, hz, rfl⟩ := List.mem_map.1 hy
    obtain ⟨i, hi, rfl⟩ := List.getElem_of_mem hz
    obtain ⟨a, ha, wa⟩ := hat i (by omega)
    rw [List.getElem?_eq_getElem hi] at ha
    rw [Option.some.inj ha]
    exact wa
theorem allB_wf {l : List Int} (h : ∀ y ∈ l, (Lit.int .u8 y).wf = true) : AllB l := fun y hy => by
  have := bounds_u8 (h y hy)
  omega
set_option maxRecDepth 100000 in
theorem row_of_trod {H : Type} {enc : TypeId × Value → H} {W : World} {base : Nat} {sp : Nat → Bool} {held : Bool} {fuel : Nat} {cs : List Value} {x : DataW H × List MemPlace} (h : DataW.trod enc Tryd.prog W base sp held fuel 42 cs = some x) : ∃ r : RowC, r.ok ∧ cs = r.l := by
  obtain ⟨ys, n, -, -, hlen, hy, hall⟩ := DataW.trod_struct Tryd.underlying42 h
  have hc : Tryd.prog.cellsOf 42 = 34 := by kernel_rfl
  rw [hc] at hlen
  match ys, hy with
  | [y0, y1, y2], _ =>
    have c0 : Tryd.prog.cellsOf 24 = 32 := by kernel_rfl
    have c1 : Tryd.prog.cellsOf 36 = 1 := by kernel_rfl
    have c2 : Tryd.prog.cellsOf 37 = 1 := by kernel_rfl
    have c8 : Tryd.prog.cellsOf 5 = 1 := by kernel_rfl
    have h0 : DataW.trod enc Tryd.prog W base sp held n 24 ((cs.drop 0).take (Tryd.prog.cellsOf 24)) = some y0 := hall 0 _ rfl
    have h1 : DataW.trod enc Tryd.prog W base sp held n 36 ((cs.drop 32).take (Tryd.prog.cellsOf 36)) = some y1 := hall 1 _ rfl
    have h2 : DataW.trod enc Tryd.prog W base sp held n 37 ((cs.drop 33).take (Tryd.prog.cellsOf 37)) = some y2 := hall 2 _ rfl
    rw [c1] at h1
    rw [c2] at h2
    obtain ⟨c, e1, -, w1⟩ := DataW.trod_int Tryd.underlying36 h1
    obtain ⟨p, e2, -, w2⟩ := DataW.trod_int Tryd.underlying37 h2
    obtain ⟨l, e0, hl, wl⟩ := ints_of Tryd.underlying24 Tryd.underlying5 c8 c0 h0
    rw [c0, List.drop_zero] at e0
    have b1 := bounds_u32 w1
    have b2 := bounds_u64 w2
    refine ⟨⟨l, c, p⟩, ⟨hl, allB_wf wl, by simp only; omega, by simp only; omega, by simp only; omega, by simp only; omega⟩, ?_⟩
    have k1 := take_one e1
    have k2 := take_one e2
    unfold RowC.l
    rw [← e0]
    apply List.ext_getElem?
    intro i
    rcases Nat.lt_or_ge i 32 with hi | hi
    · rw [List.getElem?_append_left (by rw [List.length_take]; omega), List.getElem?_take_of_lt hi]
    · rw [List.getElem?_append_right (by rw [List.length_take]; omega), List.length_take, Nat.min_eq_left (by omega)]
      rcases Nat.lt_or_ge i 34 with hi2 | hi2
      · have : i = 32 ∨ i = 33 := by omega
        rcases this with rfl | rfl
        · simpa using k1
        · simpa using k2
      · rw [List.getElem?_eq_none (by omega), List.getElem?_eq_none (by simp; omega)]
theorem cells_get {w : World} {base : Nat} {a : Addr} {n : Nat} {cs : List Value} (h : w.cells? base a n = some cs) (j : Nat) (u : Value) (hu : cs[j]? = some u) : w.cell? (a.add j) = some u := by
  unfold World.cells? at h
  split at h
  · have hl : cs.length = n := by simpa using mapM_some_length h
    have hj : j < n := by
      rcases Nat.lt_or_ge j cs.length with h' | h'
      · omega
      · rw [List.getElem?_eq_none h'] at hu
        cases hu
    have := mapM_some_get h j j (by simp [hj])
    rw [this, hu]
  · cases h
theorem bytesR : Tryd.prog.bytesOf 42 = 48 := by kernel_rfl
theorem cellsR : Tryd.prog.cellsOf 42 = 34 := by kernel_rfl
/-- A slice of rows that came in. -/
theorem arg_rowsR {H : Type} {enc : TypeId × Value → H} {W : World} {held : Bool} {a : Option Addr} {len cap : Nat} {d : DataW H} {p : List MemPlace} {ts : List TypeId} {ds : List (DataW H)} {j : Nat}
    (h : ∃ fuel, DataW.trod enc Tryd.prog W 0 (fun _ => true) held fuel 31 (Value.slice a len cap).cells.toList = some (d, p))
    (hsz : (DataW.weightsEach Tryd.prog ts ds).all (· ≤ reachBytes) = true) (ht : ts[j]? = some 31) (hd : ds[j]? = some d) : ∃ rs, RdR W (.slice a len cap) rs ∧ rs.length ≤ 2932031007317 := by
  obtain ⟨fuel, hf⟩ := h
  rcases open_slice Tryd.underlying31 hf with ⟨hcs, -⟩ | ⟨x, l, c, m, n, D, Pl, hcs, -, hl, hm, hmm, hx, hr⟩
  · simp [Value.cells] at hcs
    obtain ⟨rfl, rfl, rfl⟩ := hcs
    exact ⟨[], (OwnR.nil 42 W 0).rdR, by simp⟩
  · simp [Value.cells] at hcs
    obtain ⟨rfl, rfl, rfl⟩ := hcs
    simp only [if_true] at hmm
    subst hmm
    have hd' : d = .slice ((List.range len).map D) ((List.range (m - len)).map fun j => D (len + j)) := congrArg Prod.fst hx
    rw [hd'] at hd
    have hw := sized_slice hsz ht hd Tryd.underlying31
    rw [bytesR] at hw
    simp only [List.length_map, List.length_range, reachBytes] at hw
    have hrow : ∀ i, ∃ r : RowC, i < m → r.ok ∧ ∀ k u, r.l[k]? = some u → W.cell? ((x.add (i * 34)).add k) = some u := fun i => by
      by_cases hi : i < m
      · obtain ⟨cs', h1, h2⟩ := hr i hi
        rw [cellsR] at h1
        obtain ⟨r, h3, rfl⟩ := row_of_trod h2
        exact ⟨r, fun _ => ⟨h3, fun k u hu => cells_get h1 k u hu⟩⟩
      · exact ⟨default, fun h => absurd h hi⟩
    obtain ⟨f, hfr⟩ := Classical.skolem.1 hrow
    have hlen : ((List.range len).map f).length = len := by simp
    have hget : ∀ i, i < len → rowI ((List.range len).map f) i = f i := fun i hi => by simp [rowI, List.getD, hi]
    refine ⟨(List.range len).map f, ⟨some x, m, by rw [hlen], by rw [hlen]; exact hl, hm, (fun h => by cases h), fun r hr => ?_, fun h0 => ?_⟩, by rw [hlen]; omega⟩
    · obtain ⟨i, hi, rfl⟩ := List.mem_map.1 hr
      exact (hfr i (by have := List.mem_range.1 hi; omega)).1
    · rw [hlen] at h0 ⊢
      obtain ⟨b, off, spot⟩ := x
      have hk0 := (hfr 0 (by omega)).1
      have hc0 := (hfr 0 (by omega)).2 0 _ (RowC.cId hk0 (j := 0) (by omega))
      have hspot : spot = none := by simpa [Addr.add] using World.cell?_spot hc0
      subst hspot
      refine ⟨b, off, rfl, ?_, fun i hi k u hu => ?_⟩
      · simp only [Nat.zero_mul, add_plain, Nat.add_zero] at hc0
        rcases Nat.lt_or_ge b W.heap.size with h' | h'
        · exact h'
        · simp [World.cell?, Array.getElem?_eq_none h'] at hc0
      · rw [hget i hi] at hu
        have := (hfr i (by omega)).2 k u hu
        simpa only [add_plain] using this
set_option maxRecDepth 100000 in
/-- An id that came in. -/
theorem arg_id {H : Type} {enc : TypeId × Value → H} {W : World} {base : Nat} {sp : Nat → Bool} {held : Bool} {r : Reach} {b0 : Nat} {v : Value} {d : DataW H} {ps : List MemPlace} (hval : Value.okWide Tryd.prog W r b0 24 v) (hd : DataW.Trod enc Tryd.prog W base sp held 24 v d ps) :
    ∃ l : List Int, v = .agg (cellsK .u8 l).toArray ∧ l.length = 32 ∧ AllB l := by
  have hu := Tryd.underlying24
  simp only [Value.okWide, hu] at hval
  obtain ⟨xs, rfl, -, -⟩ := hval
  obtain ⟨fuel, hf⟩ := hd
  obtain ⟨l, e, hl, wl⟩ := ints_of hu Tryd.underlying5 (by kernel_rfl) (by kernel_rfl) hf
  refine ⟨l, ?_, hl, allB_wf wl⟩
  rw [← e]
  rfl
end Go.Proofs.YtgoegmaepafopaaDoor
