/-
  The vocabulary of this seat's walks: a slice of numbers that reads as a list, append onto a slice of the call's own, blocks.
-/
import Derived.Test.YtegdadkejheagaaGreatDoorRows
import Derived.WalkKit
import Derived.WalkSpells
import Derived.WalkLawsBesides
import Derived.Maps.AppendAt
import Derived.Laws.BytesArg
import Derived.Lib.Strings
import Derived.Deep.RegionLaw
import Derived.Deep.QuietTactic
import Derived.BigQuiet
namespace Go.Proofs.YtegdadkejheagaaGreatDoor
open Go.RowKit

/-- A fact that the walk does not see, nor unfolds. -/
structure Kept (p : Prop) : Prop where
  out : p

theorem below_drewN {B : Nat} {a w : World} (h : Below B a w) (n : Nat) : Below B a (w.drewN n) := ⟨h.os, h.tape, h.output, h.size, h.block⟩

/-- The cells of numbers. -/
def cellsK (k : IntKind) (xs : List Int) : List Value := xs.map (Value.int k)
theorem cellsK_length (k : IntKind) (xs : List Int) : (cellsK k xs).length = xs.length := by simp [cellsK]
theorem cellsK_append (k : IntKind) (xs ys : List Int) : cellsK k (xs ++ ys) = cellsK k xs ++ cellsK k ys := by simp [cellsK]
theorem cellsK_one (k : IntKind) (xs : List Int) : ∀ u ∈ cellsK k xs, u.oneCell' = true := by
  intro u hu
  obtain ⟨x, _, rfl⟩ := List.mem_map.1 hu
  rfl

/-- Every number is within bounds. -/
def AllIn (a b : Int) (xs : List Int) : Prop := ∀ x ∈ xs, a ≤ x ∧ x < b
abbrev AllB (xs : List Int) : Prop := AllIn 0 256 xs
theorem AllIn.nil {a b : Int} : AllIn a b [] := fun _ h => by cases h
theorem AllIn.append {a b : Int} {xs ys : List Int} (h : AllIn a b xs) (k : AllIn a b ys) : AllIn a b (xs ++ ys) := by
  intro x hx
  rcases List.mem_append.1 hx with hx | hx
  · exact h x hx
  · exact k x hx
theorem AllIn.one {a b x : Int} (h0 : a ≤ x) (h1 : x < b) : AllIn a b [x] := by
  intro y hy
  simp at hy
  subst hy
  exact ⟨h0, h1⟩
theorem AllIn.getD {a b : Int} {xs : List Int} (h : AllIn a b xs) (h0 : a ≤ 0 ∧ 0 < b) (i : Nat) : a ≤ xs.getD i 0 ∧ xs.getD i 0 < b := by
  rcases Nat.lt_or_ge i xs.length with hi | hi
  · have e : xs.getD i 0 = xs[i] := by simp [List.getD, List.getElem?_eq_getElem hi]
    rw [e]
    exact h _ (List.getElem_mem hi)
  · have e : xs.getD i 0 = 0 := by simp [List.getD, List.getElem?_eq_none hi]
    rw [e]
    exact h0
theorem AllIn.take {a b : Int} {xs : List Int} (h : AllIn a b xs) (n : Nat) : AllIn a b (xs.take n) := fun x hx => h x (List.mem_of_mem_take hx)
theorem AllIn.drop {a b : Int} {xs : List Int} (h : AllIn a b xs) (n : Nat) : AllIn a b (xs.drop n) := fun x hx => h x (List.mem_of_mem_drop hx)
theorem AllIn.mono {a b a' b' : Int} {xs : List Int} (h : AllIn a b xs) (h0 : a' ≤ a) (h1 : b ≤ b') : AllIn a' b' xs := fun x hx => ⟨Int.le_trans h0 (h x hx).1, Int.lt_of_lt_of_le (h x hx).2 h1⟩

/-- v is a slice of numbers that reads as xs in w; its block (if it has cells) satisfies S. -/
def Rd (k : IntKind) (S : Nat → Prop) (w : World) (v : Value) (xs : List Int) : Prop :=
  ∃ (a : Option Addr) (c : Nat), v = .slice a xs.length c ∧ xs.length ≤ c ∧ c ≤ maxLen ∧ (a = none → c = 0) ∧
    (0 < xs.length → ∃ b off, a = some ⟨b, off, none⟩ ∧ b < w.heap.size ∧ S b ∧ ∀ i, i < xs.length → w.cell? ⟨b, off + i, none⟩ = some (.int k (xs.getD i 0)))

/-- Anywhere. -/
def anyB : Nat → Prop := fun _ => True

theorem Rd.nil (k : IntKind) (S : Nat → Prop) (w : World) : Rd k S w (.slice none 0 0) [] := ⟨none, 0, rfl, Nat.le_refl _, Nat.zero_le _, fun _ => rfl, fun h => by simp at h⟩

/-- What is read stays so while its block does not turn. -/
theorem Rd.far {k : IntKind} {S S' : Nat → Prop} {w w' : World} {v : Value} {xs : List Int} (h : Rd k S w v xs) (hz : w.heap.size ≤ w'.heap.size) (hb : ∀ b, b < w.heap.size → S b → S' b ∧ w'.heap[b]? = w.heap[b]?) : Rd k S' w' v xs := by
  obtain ⟨a, c, hv, h1, h2, h3, h4⟩ := h
  refine ⟨a, c, hv, h1, h2, h3, fun h0 => ?_⟩
  obtain ⟨b, off, ha, hlt, hs, hc⟩ := h4 h0
  have hk := hb b hlt hs
  refine ⟨b, off, ha, Nat.lt_of_lt_of_le hlt hz, hk.1, fun i hi => ?_⟩
  rw [World.cell?_of_block (w := w) (a := ⟨b, off + i, none⟩) hk.2]
  exact hc i hi
theorem Rd.later {k : IntKind} {S : Nat → Prop} {w w' : World} {v : Value} {xs : List Int} (h : Rd k S w v xs) {B : Nat} (hb : Below B w w') (hB : w.heap.size ≤ B) : Rd k S w' v xs :=
  h.far hb.size fun b hlt hs => ⟨hs, hb.block b (Nat.lt_of_lt_of_le hlt hB)⟩
theorem Rd.weak {k : IntKind} {S S' : Nat → Prop} {w : World} {v : Value} {xs : List Int} (h : Rd k S w v xs) (hS : ∀ b, b < w.heap.size → S b → S' b) : Rd k S' w v xs := h.far (Nat.le_refl _) fun b hlt hs => ⟨hS b hlt hs, rfl⟩
theorem Rd.any {k : IntKind} {S : Nat → Prop} {w : World} {v : Value} {xs : List Int} (h : Rd k S w v xs) : Rd k anyB w v xs := h.weak fun _ _ _ => trivial

theorem Rd.open {k : IntKind} {S : Nat → Prop} {w : World} {v : Value} {xs : List Int} (h : Rd k S w v xs) (h0 : 0 < xs.length) : ∃ b off c, v = .slice (some ⟨b, off, none⟩) xs.length c ∧ b < w.heap.size ∧ xs.length ≤ c ∧ c ≤ maxLen ∧ S b ∧ ∀ i, i < xs.length → w.cell? ⟨b, off + i, none⟩ = some (.int k (xs.getD i 0)) := by
  obtain ⟨a, c, hv, h1, h2, h3, h4⟩ := h
  obtain ⟨b, off, rfl, hlt, hs, hc⟩ := h4 h0
  exact ⟨b, off, c, hv, hlt, h1, h2, hs, hc⟩
theorem Rd.form {k : IntKind} {S : Nat → Prop} {w : World} {v : Value} {xs : List Int} (h : Rd k S w v xs) : ∃ a c, v = .slice a xs.length c ∧ (a = none → c = 0) ∧ xs.length ≤ c ∧ c ≤ maxLen := by
  obtain ⟨a, c, hv, h1, h2, h3, h4⟩ := h
  exact ⟨a, c, hv, h3, h1, h2⟩

theorem add_plain (b off j : Nat) : (⟨b, off, none⟩ : Addr).add j = ⟨b, off + j, none⟩ := by unfold Addr.add; split <;> simp_all

/-- A piece of what is read. -/
theorem Rd.piece {k : IntKind} {S : Nat → Prop} {w : World} {a : Option Addr} {n c i j : Nat} {xs : List Int} (h : Rd k S w (.slice a n c) xs) (hij : i ≤ j) (hj : j ≤ xs.length) :
    ∃ a', (∀ b off, a = some ⟨b, off, none⟩ → a' = some ⟨b, off + i, none⟩ ∨ xs = []) ∧ Rd k S w (.slice a' (j - i) (c - i)) ((xs.take j).drop i) := by
  obtain ⟨a0, c0, hv, h1, h2, h3, h4⟩ := h
  cases hv
  have hlen : ((xs.take j).drop i).length = j - i := by simp; omega
  by_cases h0 : 0 < xs.length
  · obtain ⟨b, off, rfl, hlt, hs, hc⟩ := h4 h0
    refine ⟨some ⟨b, off + i, none⟩, fun b' off' e => ?_, some ⟨b, off + i, none⟩, c - i, by rw [hlen], by rw [hlen]; omega, by omega, (fun e => by cases e), fun _ => ⟨b, off + i, rfl, hlt, hs, fun q hq => ?_⟩⟩
    · cases e
      exact Or.inl rfl
    · rw [hlen] at hq
      have := hc (i + q) (by omega)
      rw [show off + i + q = off + (i + q) from by omega, this]
      congr 2
      simp only [List.getD, List.getElem?_drop, List.getElem?_take]
      rw [if_pos (by omega)]
  · have hx : xs = [] := List.eq_nil_of_length_eq_zero (by omega)
    subst hx
    simp only [List.length_nil] at *
    obtain rfl : i = 0 := by omega
    obtain rfl : j = 0 := by omega
    exact ⟨a, fun _ _ _ => Or.inr trivial, a, c, rfl, Nat.zero_le _, by omega, h3, fun h => by simp at h⟩

theorem cellsK_get {k : IntKind} {xs : List Int} {j : Nat} {u : Value} (h : (cellsK k xs)[j]? = some u) : j < xs.length ∧ u = .int k (xs.getD j 0) := by
  have hj : j < xs.length := by
    rcases Nat.lt_or_ge j xs.length with h' | h'
    · exact h'
    · rw [List.getElem?_eq_none (by rw [cellsK_length]; exact h')] at h
      cases h
  refine ⟨hj, ?_⟩
  simp [cellsK, List.getElem?_eq_getElem hj] at h
  subst h
  simp [List.getD, List.getElem?_eq_getElem hj]

/-- v is a slice of numbers in memory of the call's own (blocks from 'base' on), and reads as xs. -/
def Own (k : IntKind) (e : TypeId) (w : World) (base : Nat) (v : Value) (xs : List Int) : Prop := w.ownsRow base e 1 v xs.length (cellsK k xs)
section
variable {k : IntKind} {e : TypeId} {w w' : World} {base base' : Nat} {v : Value} {xs : List Int}
theorem Own.nil (k : IntKind) (e : TypeId) (w : World) (base : Nat) : Own k e w base (.slice none 0 0) [] := World.ownsRow_nil w base e 1
theorem Own.lt (h : Own k e w base v xs) : ∀ g, v.ownBlock = some g → base ≤ g ∧ g < w.heap.size := by
  intro g hg
  rcases h.2 with ⟨rfl, _⟩ | ⟨g', cap, cur, rfl, hbg, hh, _⟩
  · simp [Value.ownBlock] at hg
  · simp [Value.ownBlock] at hg
    subst hg
    refine ⟨hbg, ?_⟩
    rcases Nat.lt_or_ge g' w.heap.size with h' | h'
    · exact h'
    · rw [Array.getElem?_eq_none h'] at hh
      cases hh
/-- What is owned stays so while its block does not turn. -/
theorem Own.far (h : Own k e w base v xs) (hb : ∀ g, v.ownBlock = some g → w'.heap[g]? = w.heap[g]?) : Own k e w' base v xs := by
  rcases h with ⟨h1, h2⟩
  refine ⟨h1, ?_⟩
  rcases h2 with h2 | ⟨g, cap, cur, rfl, hg, hh, r⟩
  · exact Or.inl h2
  · exact Or.inr ⟨g, cap, cur, rfl, hg, by rw [hb g rfl]; exact hh, r⟩
theorem Own.alloc (h : Own k e w base v xs) (o : Obj) : Own k e (w.alloc o) base v xs := World.ownsRow.alloc h o
theorem Own.mono (h : Own k e w base v xs) (hb : base' ≤ base) : Own k e w base' v xs := by
  rcases h with ⟨h1, h2⟩
  refine ⟨h1, ?_⟩
  rcases h2 with h2 | ⟨g, cap, cur, hv, hg, r⟩
  · exact Or.inl h2
  · exact Or.inr ⟨g, cap, cur, hv, Nat.le_trans hb hg, r⟩
/-- A higher floor. -/
theorem Own.up (h : Own k e w base v xs) (hb : ∀ g, v.ownBlock = some g → base' ≤ g) : Own k e w base' v xs := by
  rcases h with ⟨h1, h2⟩
  refine ⟨h1, ?_⟩
  rcases h2 with h2 | ⟨g, cap, cur, rfl, hg, r⟩
  · exact Or.inl h2
  · exact Or.inr ⟨g, cap, cur, rfl, hb g rfl, r⟩
theorem Own.later {B : Nat} (h : Own k e w base v xs) (hb : Below B w w') (hB : w.heap.size ≤ B) : Own k e w' base v xs :=
  h.far fun g hg => hb.block g (Nat.lt_of_lt_of_le (h.lt g hg).2 hB)
/-- What is owned is read. -/
theorem Own.rd (h : Own k e w base v xs) : Rd k (fun b => v.ownBlock = some b) w v xs := by
  rcases h.2 with ⟨rfl, hn⟩ | ⟨g, cap, cur, rfl, hbg, hg, hnc, hcm, hcs, htake⟩
  · have hx : xs = [] := List.eq_nil_of_length_eq_zero hn
    subst hx
    exact Rd.nil _ _ w
  · refine ⟨some ⟨g, 0, none⟩, cap, rfl, hnc, hcm, (fun h => by cases h), fun h0 => ⟨g, 0, rfl, (h.lt g rfl).2, rfl, fun i hi => ?_⟩⟩
    have hk := World.ownsRow.cells h (g := g) rfl i (.int k (xs.getD i 0)) (by simp [cellsK, List.getElem?_eq_getElem hi, List.getD])
    rw [add_plain] at hk
    exact hk
theorem own_ge (h : Own k e w base v xs) : ∀ g, v.ownBlock = some g → base ≤ g := fun g hg => (h.lt g hg).1
end

/-- One element that is laid in a block of its own. -/
theorem Rd.one (k : IntKind) (w : World) (x : Int) (t : TypeId) : Rd k anyB (w.alloc (.cells #[.int k x] t)) (.slice (some ⟨w.heap.size, 0, none⟩) 1 1) [x] := by
  refine ⟨some ⟨w.heap.size, 0, none⟩, 1, rfl, Nat.le_refl _, by unfold maxLen; omega, (fun h => by cases h), fun _ => ⟨w.heap.size, 0, rfl, by simp, trivial, fun i hi => ?_⟩⟩
  have : i = 0 := by simp at hi; omega
  subst this
  simp
theorem Own.made1 (k : IntKind) (w : World) (b : Int) (e : TypeId) : Own k e (w.alloc (.cells #[.int k b] e)) w.heap.size (.slice (some ⟨w.heap.size, 0, none⟩) 1 1) [b] :=
  ⟨rfl, .inr ⟨w.heap.size, 1, #[.int k b], rfl, Nat.le_refl _, heap_alloc_new w _, Nat.le_refl _, by unfold maxLen; omega, rfl, rfl⟩⟩

/-- 'string(b)'. -/
theorem Rd.str {P : Program} {src e : TypeId} (hs : P.underlying src = some (.slice e)) (he : P.underlying e = some (.int .u8)) {S : Nat → Prop} {w : World} {v : Value} {xs : List Int} (h : Rd .u8 S w v xs) (dst : TypeId) (hd : P.underlying dst = some .string) :
    (convert src dst v).run P w = .ok (.string (strOfNums xs)) w := by
  obtain ⟨a, c, rfl, _, _, _, h5⟩ := h
  by_cases h0 : 0 < xs.length
  · obtain ⟨b, off, rfl, _, _, hc⟩ := h5 h0
    exact run_convert_bytes_arg w src e hs he b off _ c xs rfl hc dst hd
  · have hx : xs = [] := List.eq_nil_of_length_eq_zero (by omega)
    subst hx
    simp only [List.length_nil]
    rw [run_convert_bytes_string w src dst e _ 0 c hs he hd]
    cases a <;> simp [Conv.bytesToString, loadCells]
    all_goals rfl

theorem ofNat_inj {x y : Int} (hx : 0 ≤ x ∧ x < 256) (hy : 0 ≤ y ∧ y < 256) (h : UInt8.ofNat x.toNat = UInt8.ofNat y.toNat) : x = y := by
  have := congrArg UInt8.toNat h
  simp at this
  omega
theorem map_inj : ∀ {xs ys : List Int}, AllB xs → AllB ys → xs.map (fun n : Int => UInt8.ofNat n.toNat) = ys.map (fun n : Int => UInt8.ofNat n.toNat) → xs = ys
  | [], [], _, _, _ => rfl
  | [], _ :: _, _, _, h => by simp at h
  | _ :: _, [], _, _, h => by simp at h
  | x :: xs, y :: ys, hx, hy, h => by
    simp only [List.map_cons, List.cons.injEq] at h
    rw [ofNat_inj (hx x (by simp)) (hy y (by simp)) h.1, map_inj (fun z hz => hx z (by simp [hz])) (fun z hz => hy z (by simp [hz])) h.2]
/-- Two such strings are alike just where the numbers are. -/
theorem strs_eq {xs ys : List Int} (hx : AllB xs) (hy : AllB ys) : ((strOfNums xs).toList == (strOfNums ys).toList) = decide (xs = ys) := by
  have e : ∀ l, (strOfNums l).toList = l.map fun n => UInt8.ofNat n.toNat := fun l => by
    rw [← strOfNums_data, Lib.toList_data]
  rw [e, e, Bool.eq_iff_iff, beq_iff_eq, decide_eq_true_iff]
  exact ⟨fun h => map_inj hx hy h, fun h => by rw [h]⟩

section
variable {P : Program} (w : World)

/-- append of nothing onto a slice with its room. -/
theorem run_append_zero (t ty e : TypeId) (i : TypeInfo) (ht : P.underlying t = some (.slice e)) (hi : P.info? e = some i) (x : Option Addr) (n cap : Nat) (hn : n ≤ cap) (a : Option Addr) (c : Nat) :
    (Builtin.append_ #[t, t] ty #[.slice x n cap, .slice a 0 c]).run P w = .ok (.slice x n cap) w := by
  cases x <;> cases a <;> simp [Builtin.append_, run_underlying ht, sizeOf, typeInfo, hi, Builtin.lenOf, Builtin.firstCells, loadCells, loadCellsFrom, storeCells, hn]

/-- append onto a slice of the call's own, of a slice of numbers that is read. -/
theorem run_append_rd (k : IntKind) (S : Nat → Prop) (bytes base : Nat) (t ty e : TypeId) (i : TypeInfo) (z : Value) (ht : P.underlying t = some (.slice e)) (hi : P.info? e = some i) (hz : i.zero = some z)
    (hsize : i.size = 1) (hby : i.bytes = bytes) (hzs : z.cells.size = 1) (hpos : 0 < bytes)
    (v : Value) (xs : List Int) (hown : Own k e w base v xs)
    (x : Value) (ys : List Int) (hs : Rd k S w x ys)
    (hbytes : (xs.length + ys.length) * bytes ≤ 140737488355328) (hbase : base ≤ w.heap.size) :
    ∃ v' w', (Builtin.append_ #[t, t] ty #[v, x]).run P w = .ok v' w' ∧ Own k e w' base v' (xs ++ ys) ∧ w.grownBy w' v.ownBlock ∧
      (v'.ownBlock = v.ownBlock ∨ v'.ownBlock = some w.heap.size) := by
  have hlim : xs.length + ys.length ≤ 140737488355328 := Nat.le_trans (Nat.le_mul_of_pos_right _ hpos) hbytes
  obtain ⟨a, c, rfl, _, _, _, h5⟩ := hs
  by_cases h0 : 0 < ys.length
  · obtain ⟨b, off, rfl, _, _, hc⟩ := h5 h0
    obtain ⟨v', w', h1, h2, h3, _, h4⟩ := run_append_own_at (P := P) w base t ty e i z 1 bytes ht hi hz hsize hby hzs (by decide) v _ _ hown ⟨b, off, none⟩ ys.length c (cellsK k ys) (by rw [cellsK_length, Nat.mul_one])
      (fun j u hj => by
        obtain ⟨hj', rfl⟩ := cellsK_get hj
        rw [add_plain]
        exact hc j hj') (cellsK_one k ys) (by unfold maxLen; omega) hbytes hbase
    exact ⟨v', w', h1, by unfold Own; rw [cellsK_append, List.length_append]; exact h2, h3, h4⟩
  · have hx : ys = [] := List.eq_nil_of_length_eq_zero (by omega)
    subst hx
    simp only [List.append_nil, List.length_nil]
    rcases hown.2 with ⟨rfl, hn⟩ | ⟨g, cap, cur, rfl, hbg, hg, hnc, hcm, hcs, htake⟩
    · exact ⟨_, w, run_append_zero w t ty e i ht hi none 0 0 (Nat.le_refl _) a c, hown, ⟨rfl, rfl, rfl, Nat.le_refl _, fun _ _ _ => rfl⟩, Or.inl rfl⟩
    · exact ⟨_, w, run_append_zero w t ty e i ht hi _ _ cap hnc a c, hown, ⟨rfl, rfl, rfl, Nat.le_refl _, fun _ _ _ => rfl⟩, Or.inl rfl⟩

/-- The same, at the operation, for the walk. -/
theorem wpList_append_rd {ops : Array Oper} {rest : List Oper} {o : Oper} {a : Act} {Q : Exit → Act → World → Prop} (hgd : o.guard = none) (s x : Operand) (t : TypeId)
    (ho : o.op = .call { callee := .builtin .append, args := #[s, x], argTypes := #[t, t] })
    (k : IntKind) (S : Nat → Prop) (bytes base : Nat) (e : TypeId) (i : TypeInfo) (z : Value) (ht : P.underlying t = some (.slice e)) (hi : P.info? e = some i) (hz : i.zero = some z)
    (hsize : i.size = 1) (hby : i.bytes = bytes) (hzs : z.cells.size = 1) (hpos : 0 < bytes)
    (v : Value) (xs : List Int) (hsv : a.eval s = v) (hown : Own k e w base v xs)
    (xv : Value) (ys : List Int) (hx : a.eval x = xv) (hs : Rd k S w xv ys)
    (hbytes : (xs.length + ys.length) * bytes ≤ 140737488355328) (hbase : base ≤ w.heap.size)
    (h : ∀ v' w', Own k e w' base v' (xs ++ ys) → w.grownBy w' v.ownBlock → (v'.ownBlock = v.ownBlock ∨ v'.ownBlock = some w.heap.size) → wpList P ops Q rest (a.put o.dst v') w') :
    wpList P ops Q (o :: rest) a w := by
  refine wpList_plain hgd fun K hK => ?_
  obtain ⟨v', w', hr, h2, h3, h4⟩ := run_append_rd (P := P) w k S bytes base t o.type e i z ht hi hz hsize hby hzs hpos v xs hown xv ys hs hbytes hbase
  unfold Oper.wp execOp
  simp only [ho, resolve, invoke, builtin, Sem.run_bind, Sem.run_pure, Result.andThen_ok, List.map_toArray, List.map_cons, List.map_nil, hsv, hx, hr]
  exact hK _ _ (h v' w' h2 h3 h4)
end


set_option maxRecDepth 100000 in
theorem info8 : ∃ i z, Tryz.prog.info? 5 = some i ∧ i.zero = some z ∧ i.size = 1 ∧ i.bytes = 1 ∧ z.cells.size = 1 := by
  refine ⟨_, _, rfl, rfl, rfl, rfl, rfl⟩
set_option maxRecDepth 100000 in
theorem info64 : ∃ i z, Tryz.prog.info? 3 = some i ∧ i.zero = some z ∧ i.size = 1 ∧ i.bytes = 8 ∧ z.cells.size = 1 := by
  refine ⟨_, _, rfl, rfl, rfl, rfl, rfl⟩
end Go.Proofs.YtegdadkejheagaaGreatDoor
