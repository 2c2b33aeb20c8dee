/-
  The vocabulary of this seat's walks: a slice of bytes that reads as a list of numbers, and append onto a slice of the call's own.
-/
import Derived.Test.YthkaohkondkhgaaDoorRows
import Derived.WalkKit
import Derived.WalkSpells
import Derived.WalkLawsBesides
import Derived.Maps.AppendAt
import Derived.Laws.BytesArg
import Derived.Lib.Strings
import Derived.Deep.RegionLaw
namespace Go.Proofs.YthkaohkondkhgaaDoor.Sh
open Go.RowKit

/-- The cells of numbers. -/
def cellsU8 (xs : List Int) : List Value := xs.map (Value.int .u8)
theorem cellsU8_length (xs : List Int) : (cellsU8 xs).length = xs.length := by simp [cellsU8]
theorem cellsU8_append (xs ys : List Int) : cellsU8 (xs ++ ys) = cellsU8 xs ++ cellsU8 ys := by simp [cellsU8]
theorem cellsU8_one (xs : List Int) : ∀ u ∈ cellsU8 xs, u.oneCell' = true := by
  intro u hu
  obtain ⟨x, _, rfl⟩ := List.mem_map.1 hu
  rfl

/-- Every number is a byte's. -/
def AllB (xs : List Int) : Prop := ∀ x ∈ xs, 0 ≤ x ∧ x < 256
theorem AllB.nil : AllB [] := fun _ h => by cases h
theorem AllB.append {xs ys : List Int} (h : AllB xs) (k : AllB ys) : AllB (xs ++ ys) := by
  intro x hx
  rcases List.mem_append.1 hx with hx | hx
  · exact h x hx
  · exact k x hx
theorem AllB.one {x : Int} (h0 : 0 ≤ x) (h1 : x < 256) : AllB [x] := by
  intro y hy
  simp at hy
  subst hy
  exact ⟨h0, h1⟩
theorem AllB.getD {xs : List Int} (h : AllB xs) (i : Nat) : 0 ≤ xs.getD i 0 ∧ xs.getD i 0 < 256 := by
  rcases Nat.lt_or_ge i xs.length with hi | hi
  · have e : xs.getD i 0 = xs[i] := by simp [List.getD, List.getElem?_eq_getElem hi]
    rw [e]
    exact h _ (List.getElem_mem hi)
  · have e : xs.getD i 0 = 0 := by simp [List.getD, List.getElem?_eq_none hi]
    rw [e]
    omega
theorem AllB.take {xs : List Int} (h : AllB xs) (n : Nat) : AllB (xs.take n) := fun x hx => h x (List.mem_of_mem_take hx)
theorem AllB.drop {xs : List Int} (h : AllB xs) (n : Nat) : AllB (xs.drop n) := fun x hx => h x (List.mem_of_mem_drop hx)

/-- v is a slice of bytes that reads as xs in w. -/
def Rd (w : World) (v : Value) (xs : List Int) : Prop :=
  ∃ (a : Option Addr) (c : Nat), v = .slice a xs.length c ∧ xs.length ≤ c ∧ c ≤ maxLen ∧ AllB xs ∧ (a = none → c = 0) ∧
    (0 < xs.length → ∃ b off, a = some ⟨b, off, none⟩ ∧ b < w.heap.size ∧ ∀ i, i < xs.length → w.cell? ⟨b, off + i, none⟩ = some (.int .u8 (xs.getD i 0)))

theorem Rd.nil (w : World) : Rd w (.slice none 0 0) [] := ⟨none, 0, rfl, Nat.le_refl _, Nat.zero_le _, AllB.nil, fun _ => rfl, fun h => by simp at h⟩

theorem Rd.allB {w : World} {v : Value} {xs : List Int} (h : Rd w v xs) : AllB xs := by
  obtain ⟨_, _, _, _, _, A, _, _⟩ := h
  exact A

theorem Rd.later {w w' : World} {v : Value} {xs : List Int} (h : Rd w v xs) {B : Nat} (hb : Below B w w') (hB : w.heap.size ≤ B) : Rd w' v xs := by
  obtain ⟨a, c, hv, h1, h2, h3, h4, h5⟩ := h
  refine ⟨a, c, hv, h1, h2, h3, h4, fun h0 => ?_⟩
  obtain ⟨b, off, ha, hlt, hc⟩ := h5 h0
  refine ⟨b, off, ha, Nat.lt_of_lt_of_le hlt hb.size, fun i hi => ?_⟩
  rw [hb.cell (p := ⟨b, off + i, none⟩) (Nat.lt_of_lt_of_le hlt hB)]
  exact hc i hi

theorem Rd.open {w : World} {v : Value} {xs : List Int} (h : Rd w v xs) (h0 : 0 < xs.length) : ∃ b off c, v = .slice (some ⟨b, off, none⟩) xs.length c ∧ b < w.heap.size ∧ ∀ i, i < xs.length → w.cell? ⟨b, off + i, none⟩ = some (.int .u8 (xs.getD i 0)) := by
  obtain ⟨a, c, hv, h1, h2, h3, h4, h5⟩ := h
  obtain ⟨b, off, rfl, hlt, hc⟩ := h5 h0
  exact ⟨b, off, c, hv, hlt, hc⟩

theorem Rd.form {w : World} {v : Value} {xs : List Int} (h : Rd w v xs) : ∃ a c, v = .slice a xs.length c ∧ (a = none → c = 0) ∧ xs.length ≤ c ∧ c ≤ maxLen ∧ (0 < xs.length → ∃ b off, a = some ⟨b, off, none⟩ ∧ ∀ i, i < xs.length → w.cell? ⟨b, off + i, none⟩ = some (.int .u8 (xs.getD i 0))) := by
  obtain ⟨a, c, hv, h1, h2, h3, h4, h5⟩ := h
  refine ⟨a, c, hv, h4, h1, h2, fun h0 => ?_⟩
  obtain ⟨b, off, rfl, hlt, hc⟩ := h5 h0
  exact ⟨b, off, rfl, hc⟩

theorem add_plain (b off j : Nat) : (⟨b, off, none⟩ : Addr).add j = ⟨b, off + j, none⟩ := by unfold Addr.add; split <;> simp_all

theorem cellsU8_get {xs : List Int} {j : Nat} {u : Value} (h : (cellsU8 xs)[j]? = some u) : j < xs.length ∧ u = .int .u8 (xs.getD j 0) := by
  have hj : j < xs.length := by
    rcases Nat.lt_or_ge j xs.length with h' | h'
    · exact h'
    · rw [List.getElem?_eq_none (by rw [cellsU8_length]; exact h')] at h
      cases h
  refine ⟨hj, ?_⟩
  simp [cellsU8, List.getElem?_eq_getElem hj] at h
  subst h
  simp [List.getD, List.getElem?_eq_getElem hj]

/-- v is a slice of bytes in memory of the call's own (blocks from 'base' on), and reads as xs. -/
def Own (e : TypeId) (w : World) (base : Nat) (v : Value) (xs : List Int) : Prop := w.ownsRow base e 1 v xs.length (cellsU8 xs)
theorem Own.nil (e : TypeId) (w : World) (base : Nat) : Own e w base (.slice none 0 0) [] := World.ownsRow_nil w base e 1
theorem Own.alloc {e : TypeId} {w : World} {base : Nat} {v : Value} {xs : List Int} (h : Own e w base v xs) (o : Obj) : Own e (w.alloc o) base v xs := World.ownsRow.alloc h o
theorem Own.mono {e : TypeId} {w : World} {base base' : Nat} {v : Value} {xs : List Int} (h : Own e w base v xs) (hb : base' ≤ base) : Own e w base' v xs := by
  rcases h with ⟨h1, h2⟩
  refine ⟨h1, ?_⟩
  rcases h2 with h2 | ⟨g, cap, cur, hv, hg, r⟩
  · exact Or.inl h2
  · exact Or.inr ⟨g, cap, cur, hv, Nat.le_trans hb hg, r⟩
/-- What is owned stays so while nothing below a bound beyond its block turns. -/
theorem Own.later {e : TypeId} {w w' : World} {base B : Nat} {v : Value} {xs : List Int} (h : Own e w base v xs) (hb : Below B w w') (hB : w.heap.size ≤ B) : Own e w' base v xs := by
  rcases h with ⟨h1, h2⟩
  refine ⟨h1, ?_⟩
  rcases h2 with h2 | ⟨g, cap, cur, hv, hg, hh, r⟩
  · exact Or.inl h2
  · have hlt : g < w.heap.size := by
      rcases Nat.lt_or_ge g w.heap.size with h' | h'
      · exact h'
      · rw [Array.getElem?_eq_none h'] at hh
        cases hh
    exact Or.inr ⟨g, cap, cur, hv, hg, by rw [hb.block g (Nat.lt_of_lt_of_le hlt hB)]; exact hh, r⟩

/-- What is owned is read. -/
theorem Rd.own {w : World} {base : Nat} {e : TypeId} {v : Value} {xs : List Int} (h : Own e w base v xs) (hb : AllB xs) : Rd w v xs := by
  rcases h.2 with ⟨rfl, hn⟩ | ⟨g, cap, cur, rfl, hbg, hg, hnc, hcm, hcs, htake⟩
  · have hx : xs = [] := List.eq_nil_of_length_eq_zero hn
    subst hx
    exact Rd.nil w
  · refine ⟨some ⟨g, 0, none⟩, cap, rfl, hnc, hcm, hb, (fun h => by cases h), fun h0 => ⟨g, 0, rfl, ?_, fun i hi => ?_⟩⟩
    · rcases Nat.lt_or_ge g w.heap.size with h' | h'
      · exact h'
      · rw [Array.getElem?_eq_none h'] at hg
        cases hg
    · have hk := World.ownsRow.cells h (g := g) rfl i (.int .u8 (xs.getD i 0)) (by simp [cellsU8, List.getElem?_eq_getElem hi, List.getD])
      rw [add_plain] at hk
      exact hk

/-- The row of what is owned lies among the call's own blocks. -/
theorem own_ge {w : World} {base : Nat} {e : TypeId} {v : Value} {xs : List Int} (h : Own e w base v xs) : ∀ k, v.ownBlock = some k → base ≤ k := by
  intro k hk
  rcases h.2 with ⟨rfl, _⟩ | ⟨g, cap, cur, rfl, hbg, _⟩
  · simp [Value.ownBlock] at hk
  · simp [Value.ownBlock] at hk
    omega

/-- One element that is laid in a block of its own. -/
theorem Rd.one (w : World) (x : Int) (t : TypeId) (h0 : 0 ≤ x) (h1 : x < 256) : Rd (w.alloc (.cells #[.int .u8 x] t)) (.slice (some ⟨w.heap.size, 0, none⟩) 1 1) [x] := by
  refine ⟨some ⟨w.heap.size, 0, none⟩, 1, rfl, Nat.le_refl _, by unfold maxLen; omega, AllB.one h0 h1, (fun h => by cases h), fun _ => ⟨w.heap.size, 0, rfl, by simp, fun i hi => ?_⟩⟩
  have : i = 0 := by simp at hi; omega
  subst this
  simp

/-- 'string(b)'. -/
theorem Rd.str {P : Program} {src e : TypeId} (hs : P.underlying src = some (.slice e)) (he : P.underlying e = some (.int .u8)) {w : World} {v : Value} {xs : List Int} (h : Rd w v xs) (dst : TypeId) (hd : P.underlying dst = some .string) :
    (convert src dst v).run P w = .ok (.string (strOfNums xs)) w := by
  obtain ⟨a, c, rfl, _, _, _, _, h5⟩ := h
  by_cases h0 : 0 < xs.length
  · obtain ⟨b, off, rfl, _, hc⟩ := h5 h0
    exact run_convert_bytes_arg w src e hs he b off _ c xs rfl hc dst hd
  · have hx : xs = [] := List.eq_nil_of_length_eq_zero (by omega)
    subst hx
    simp only [List.length_nil]
    rw [run_convert_bytes_string w src dst e _ 0 c hs he hd]
    cases a <;> simp [Conv.bytesToString, loadCells]
    all_goals rfl

theorem ofNat_inj {x y : Int} (hx : 0 ≤ x ∧ x < 256) (hy : 0 ≤ y ∧ y < 256) (h : UInt8.ofNat x.toNat = UInt8.ofNat y.toNat) : x = y := by
  have := congrArg UInt8.toNat h
  simp at this
  omega

theorem map_inj : ∀ {xs ys : List Int}, AllB xs → AllB ys → xs.map (fun n : Int => UInt8.ofNat n.toNat) = ys.map (fun n : Int => UInt8.ofNat n.toNat) → xs = ys
  | [], [], _, _, _ => rfl
  | [], _ :: _, _, _, h => by simp at h
  | _ :: _, [], _, _, h => by simp at h
  | x :: xs, y :: ys, hx, hy, h => by
    simp only [List.map_cons, List.cons.injEq] at h
    rw [ofNat_inj (hx x (by simp)) (hy y (by simp)) h.1, map_inj (fun z hz => hx z (by simp [hz])) (fun z hz => hy z (by simp [hz])) h.2]

/-- Two such strings are alike just where the numbers are. -/
theorem strs_eq {xs ys : List Int} (hx : AllB xs) (hy : AllB ys) : ((strOfNums xs).toList == (strOfNums ys).toList) = decide (xs = ys) := by
  have e : ∀ l, (strOfNums l).toList = l.map fun n => UInt8.ofNat n.toNat := fun l => by
    rw [← strOfNums_data, Lib.toList_data]
  rw [e, e, Bool.eq_iff_iff, beq_iff_eq, decide_eq_true_iff]
  exact ⟨fun h => map_inj hx hy h, fun h => by rw [h]⟩

section
variable {P : Program} (w : World)

/-- append of nothing onto a slice with its room. -/
theorem run_append_zero (t ty e : TypeId) (i : TypeInfo) (ht : P.underlying t = some (.slice e)) (hi : P.info? e = some i) (x : Option Addr) (n cap : Nat) (hn : n ≤ cap) (a : Option Addr) (c : Nat) :
    (Builtin.append_ #[t, t] ty #[.slice x n cap, .slice a 0 c]).run P w = .ok (.slice x n cap) w := by
  cases x <;> cases a <;> simp [Builtin.append_, run_underlying ht, sizeOf, typeInfo, hi, Builtin.lenOf, Builtin.firstCells, loadCells, loadCellsFrom, storeCells, hn]

/-- append onto a slice of the call's own, of a slice of bytes that is read. -/
theorem run_append_rd (base : Nat) (t ty e : TypeId) (i : TypeInfo) (z : Value) (ht : P.underlying t = some (.slice e)) (hi : P.info? e = some i) (hz : i.zero = some z)
    (hsize : i.size = 1) (hby : i.bytes = 1) (hzs : z.cells.size = 1)
    (v : Value) (xs : List Int) (hown : Own e w base v xs)
    (x : Value) (ys : List Int) (hs : Rd w x ys)
    (hbytes : xs.length + ys.length ≤ 140737488355328) (hbase : base ≤ w.heap.size) :
    ∃ v' w', (Builtin.append_ #[t, t] ty #[v, x]).run P w = .ok v' w' ∧ Own e w' base v' (xs ++ ys) ∧ w.grownBy w' v.ownBlock ∧
      (v'.ownBlock = v.ownBlock ∨ v'.ownBlock = some w.heap.size) := by
  obtain ⟨a, c, rfl, _, _, _, _, h5⟩ := hs
  by_cases h0 : 0 < ys.length
  · obtain ⟨b, off, rfl, _, hc⟩ := h5 h0
    obtain ⟨v', w', h1, h2, h3, _, h4⟩ := run_append_own_at (P := P) w base t ty e i z 1 1 ht hi hz hsize hby hzs (by decide) v _ _ hown ⟨b, off, none⟩ ys.length c (cellsU8 ys) (by rw [cellsU8_length, Nat.mul_one])
      (fun j u hj => by
        obtain ⟨hj', rfl⟩ := cellsU8_get hj
        rw [add_plain]
        exact hc j hj') (cellsU8_one ys) (by unfold maxLen; omega) (by omega) hbase
    exact ⟨v', w', h1, by unfold Own; rw [cellsU8_append, List.length_append]; exact h2, h3, h4⟩
  · have hx : ys = [] := List.eq_nil_of_length_eq_zero (by omega)
    subst hx
    simp only [List.append_nil, List.length_nil]
    rcases hown.2 with ⟨rfl, hn⟩ | ⟨g, cap, cur, rfl, hbg, hg, hnc, hcm, hcs, htake⟩
    · exact ⟨_, w, run_append_zero w t ty e i ht hi none 0 0 (Nat.le_refl _) a c, hown, ⟨rfl, rfl, rfl, Nat.le_refl _, fun _ _ _ => rfl⟩, Or.inl rfl⟩
    · exact ⟨_, w, run_append_zero w t ty e i ht hi _ _ cap hnc a c, hown, ⟨rfl, rfl, rfl, Nat.le_refl _, fun _ _ _ => rfl⟩, Or.inl rfl⟩

/-- The same, at the operation, for the walk. -/
theorem wpList_append_rd {ops : Array Oper} {rest : List Oper} {o : Oper} {a : Act} {Q : Exit → Act → World → Prop} (hgd : o.guard = none) (s x : Operand) (t : TypeId)
    (ho : o.op = .call { callee := .builtin .append, args := #[s, x], argTypes := #[t, t] })
    (base : Nat) (e : TypeId) (i : TypeInfo) (z : Value) (ht : P.underlying t = some (.slice e)) (hi : P.info? e = some i) (hz : i.zero = some z)
    (hsize : i.size = 1) (hby : i.bytes = 1) (hzs : z.cells.size = 1)
    (v : Value) (xs : List Int) (hsv : a.eval s = v) (hown : Own e w base v xs)
    (xv : Value) (ys : List Int) (hx : a.eval x = xv) (hs : Rd w xv ys)
    (hbytes : xs.length + ys.length ≤ 140737488355328) (hbase : base ≤ w.heap.size)
    (h : ∀ v' w', Own e w' base v' (xs ++ ys) → w.grownBy w' v.ownBlock → (v'.ownBlock = v.ownBlock ∨ v'.ownBlock = some w.heap.size) → wpList P ops Q rest (a.put o.dst v') w') :
    wpList P ops Q (o :: rest) a w := by
  refine wpList_plain hgd fun K hK => ?_
  obtain ⟨v', w', hr, h2, h3, h4⟩ := run_append_rd (P := P) w base t o.type e i z ht hi hz hsize hby hzs v xs hown xv ys hs hbytes hbase
  unfold Oper.wp execOp
  simp only [ho, resolve, invoke, builtin, Sem.run_bind, Sem.run_pure, Result.andThen_ok, List.map_toArray, List.map_cons, List.map_nil, hsv, hx, hr]
  exact hK _ _ (h v' w' h2 h3 h4)

/-- The same, at a step of a region that draws its order. -/
theorem step_append_rd {ops : Array Oper} {o : Oper} {a : Act} {K : Act → World → Prop} {Q : Exit → Act → World → Prop} {E : Prop} (hgd : o.guard = none) (s x : Operand) (t : TypeId)
    (ho : o.op = .call { callee := .builtin .append, args := #[s, x], argTypes := #[t, t] })
    (base : Nat) (e : TypeId) (i : TypeInfo) (z : Value) (ht : P.underlying t = some (.slice e)) (hi : P.info? e = some i) (hz : i.zero = some z)
    (hsize : i.size = 1) (hby : i.bytes = 1) (hzs : z.cells.size = 1)
    (v : Value) (xs : List Int) (hsv : a.eval s = v) (hown : Own e w base v xs)
    (xv : Value) (ys : List Int) (hx : a.eval x = xv) (hs : Rd w xv ys)
    (hbytes : xs.length + ys.length ≤ 140737488355328) (hbase : base ≤ w.heap.size)
    (h : ∀ v' w', Own e w' base v' (xs ++ ys) → w.grownBy w' v.ownBlock → (v'.ownBlock = v.ownBlock ∨ v'.ownBlock = some w.heap.size) → K (a.put o.dst v') w') :
    if Region.wanted o (yielded ops a.tmps) = true then Oper.wp P o a w K Q else E := by
  have hw : Region.wanted o (yielded ops a.tmps) = true := by simp [Region.wanted, hgd]
  rw [if_pos hw]
  obtain ⟨v', w', hr, h2, h3, h4⟩ := run_append_rd (P := P) w base t o.type e i z ht hi hz hsize hby hzs v xs hown xv ys hs hbytes hbase
  unfold Oper.wp execOp
  simp only [ho, resolve, invoke, builtin, Sem.run_bind, Sem.run_pure, Result.andThen_ok, List.map_toArray, List.map_cons, List.map_nil, hsv, hx, hr]
  exact h v' w' h2 h3 h4
end
end Go.Proofs.YthkaohkondkhgaaDoor.Sh
