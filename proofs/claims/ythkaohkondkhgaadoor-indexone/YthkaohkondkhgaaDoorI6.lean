/-
  Bytes that grow; appendNumber, putNumber, slotSize.
-/
import Derived.Test.YthkaohkondkhgaaDoorI5
import Derived.Test.YthkaohkondkhgaaDoorNuW15
import Derived.Test.YthkaohkondkhgaaDoorQ3
import Derived.Laws.CopyOwn
import Derived.Lib.SlBytesConst
namespace Go.Proofs.YthkaohkondkhgaaDoor
open Go.RowKit

/-- Only one block may have turned, and what is owned lies there or in a new one. -/
structure Gb (ob : Option Nat) (w w' : World) (v' : Value) : Prop where
  os : w'.os = w.os
  tape : w'.tape = w.tape
  output : w'.output = w.output
  size : w.heap.size ≤ w'.heap.size
  block : ∀ k, k < w.heap.size → some k ≠ ob → w'.heap[k]? = w.heap[k]?
  at_ : v'.ownBlock = ob ∨ ∃ k, v'.ownBlock = some k ∧ w.heap.size ≤ k
section
variable {ob : Option Nat} {w w1 w2 : World} {v1 v2 : Value}
theorem Gb.refl (v : Value) (w : World) : Gb v.ownBlock w w v := ⟨rfl, rfl, rfl, Nat.le_refl _, fun _ _ _ => rfl, Or.inl rfl⟩
theorem Gb.alloc (h : Gb ob w w1 v1) (o : Obj) : Gb ob w (w1.alloc o) v1 :=
  ⟨h.os, h.tape, h.output, by have := h.size; simp; omega, fun k hk hne => (Below.heap_alloc w1 o k (by have := h.size; omega)).trans (h.block k hk hne), h.at_⟩
theorem Gb.drewN (h : Gb ob w w1 v1) (n : Nat) : Gb ob w (w1.drewN n) v1 := ⟨h.os, h.tape, h.output, h.size, h.block, h.at_⟩
theorem Gb.set (h : Gb ob w w1 v1) {g : Nat} (hg : v1.ownBlock = some g) (i : Nat) (u : Value) : Gb ob w (w1.setCell ⟨g, i, none⟩ u) v1 := by
  refine ⟨h.os, h.tape, h.output, by simpa using h.size, fun k hk hne => ?_, h.at_⟩
  rw [Below.heap_setCell _ _ _ _ ?_]
  · exact h.block k hk hne
  · intro e
    simp only [] at e
    subst e
    rcases h.at_ with e | ⟨q, e, hq⟩
    · exact hne (by rw [← hg, e])
    · rw [hg] at e
      injection e with e
      omega
theorem Gb.grow (h : Gb ob w w1 v1) (hg : w1.grownBy w2 v1.ownBlock) (ha : v2.ownBlock = v1.ownBlock ∨ v2.ownBlock = some w1.heap.size) : Gb ob w w2 v2 := by
  have hs := h.size
  refine ⟨hg.os.trans h.os, hg.tape.trans h.tape, hg.output.trans h.output, Nat.le_trans h.size hg.size, fun k hk hne => ?_, ?_⟩
  · rw [hg.block k (by omega) ?_]
    · exact h.block k hk hne
    · intro e
      rcases h.at_ with e2 | ⟨q, e2, hq⟩
      · exact hne (by rw [e, e2])
      · rw [e2] at e
        injection e with e
        omega
  · rcases ha with e | e
    · rw [e]
      exact h.at_
    · exact Or.inr ⟨_, e, hs⟩
theorem Gb.below {B : Nat} (h : Gb ob w w1 v1) (hB : B ≤ w.heap.size) (ho : ∀ k, ob = some k → B ≤ k) : Below B w w1 :=
  ⟨h.os, h.tape, h.output, h.size, fun k hk => h.block k (by omega) (fun e => by have := ho k e.symm; omega)⟩
theorem Gb.trans (h : Gb ob w w1 v1) (k : Gb v1.ownBlock w1 w2 v2) : Gb ob w w2 v2 := by
  have hs := h.size
  refine ⟨k.os.trans h.os, k.tape.trans h.tape, k.output.trans h.output, Nat.le_trans h.size k.size, fun i hi hne => ?_, ?_⟩
  · rw [k.block i (by omega) ?_]
    · exact h.block i hi hne
    · intro e
      rcases h.at_ with e2 | ⟨q, e2, hq⟩
      · exact hne (by rw [e, e2])
      · rw [e2] at e
        injection e with e
        omega
  · rcases k.at_ with e | ⟨q, e, hq⟩
    · rw [e]; exact h.at_
    · exact Or.inr ⟨q, e, by omega⟩
end
theorem Gb.of_below {v : Value} {w w1 : World} (h : Below w.heap.size w w1) : Gb v.ownBlock w w1 v := ⟨h.os, h.tape, h.output, h.size, fun k hk _ => h.block k hk, Or.inl rfl⟩
theorem Gb.on {ob : Option Nat} {w w1 w2 : World} {v1 : Value} (h : Gb ob w w1 v1) (k : Below w1.heap.size w1 w2) : Gb ob w w2 v1 := h.trans (Gb.of_below k)
theorem wru64 {x : Int} (h0 : 0 ≤ x) (h1 : x < 18446744073709551616) : IntKind.u64.wrap x = x := by
  simp [IntKind.wrap, IntKind.bits, IntKind.signed]; omega
theorem nuRd {S : Nat → Prop} {w : World} {v : Value} {xs : List Int} (h : Rd .u8 S w v xs) (hb : AllB xs) : Nu.Rd w v xs := by
  obtain ⟨a, c, hv, h1, h2, h3, h4⟩ := h
  exact ⟨a, c, hv, h1, h2, hb, h3, fun h0 => by
    obtain ⟨b, off, ha, hlt, -, hc⟩ := h4 h0
    exact ⟨b, off, ha, hlt, hc⟩⟩
theorem shRd {S : Nat → Prop} {w : World} {v : Value} {xs : List Int} (h : Rd .u8 S w v xs) (hA : Sh.AllB xs) : Sh.Rd w v xs := by
  obtain ⟨a, c, h1, h2, h3, h4, h5⟩ := h
  exact ⟨a, c, h1, h2, h3, hA, h4, fun h0 => by
    obtain ⟨b, off, h6, h7, _, h8⟩ := h5 h0
    exact ⟨b, off, h6, h7, h8⟩⟩

/-- Bytes onto which can be appended: memory of the call's own, or a row with no spare room. -/
def Apd (w : World) (base : Nat) (v : Value) (xs : List Int) : Prop := Own .u8 5 w base v xs ∨ (Rd .u8 anyB w v xs ∧ 0 < xs.length ∧ ∃ b, v = .slice (some ⟨b, 0, none⟩) xs.length xs.length ∧ base ≤ b ∧ b < w.heap.size)
theorem Apd.later {w w' : World} {base B : Nat} {v : Value} {xs : List Int} (h : Apd w base v xs) (hb : Below B w w') (hB : w.heap.size ≤ B) : Apd w' base v xs := by
  rcases h with h | ⟨h, h0, b, hv, h1, h2⟩
  · exact .inl (h.later hb hB)
  · exact .inr ⟨h.later hb hB, h0, b, hv, h1, Nat.lt_of_lt_of_le h2 hb.size⟩
theorem Apd.form {w : World} {base : Nat} {v : Value} {xs : List Int} (h : Apd w base v xs) : ∃ a c, v = .slice a xs.length c := by
  rcases h with h | ⟨h, h0, b, hv, h1⟩
  · obtain ⟨a, c, hv, -, -, -⟩ := h.rd.form
    exact ⟨a, c, hv⟩
  · exact ⟨_, _, hv⟩
theorem Apd.lt {w : World} {base : Nat} {v : Value} {xs : List Int} (h : Apd w base v xs) : ∀ g, v.ownBlock = some g → base ≤ g ∧ g < w.heap.size := by
  rcases h with h | ⟨h, h0, b, rfl, h1, h2⟩
  · exact h.lt
  · intro g hg
    simp only [Value.ownBlock] at hg
    injection hg with hg
    subst hg
    exact ⟨h1, h2⟩
theorem run_append_apd {P : Program} (w : World) (S : Nat → Prop) (base : Nat) (t ty : TypeId) (i : TypeInfo) (z : Value) (ht : P.underlying t = some (.slice 5)) (hi : P.info? 5 = some i) (hz : i.zero = some z)
    (hsize : i.size = 1) (hby : i.bytes = 1) (hzs : z.cells.size = 1)
    (v : Value) (xs : List Int) (hown : Apd w base v xs) (x : Value) (ys : List Int) (hs : Rd .u8 S w x ys) (h0 : 0 < ys.length)
    (hbytes : xs.length + ys.length ≤ 140737488355328) (hbase : base ≤ w.heap.size) :
    ∃ v' w', (Builtin.append_ #[t, t] ty #[v, x]).run P w = .ok v' w' ∧ Own .u8 5 w' base v' (xs ++ ys) ∧ w.grownBy w' v.ownBlock ∧ (v'.ownBlock = v.ownBlock ∨ v'.ownBlock = some w.heap.size) := by
  rcases hown with hown | ⟨hr, hx0, g, rfl, hbg, hgl⟩
  · exact run_append_rd w .u8 S 1 base t ty 5 i z ht hi hz hsize hby hzs (by omega) v xs hown x ys hs (by omega) hbase
  · obtain ⟨b1, off1, c1, hv1, -, -, -, -, hc1⟩ := hr.open hx0
    simp at hv1
    obtain ⟨⟨rfl, rfl⟩, rfl⟩ := hv1
    obtain ⟨b, off, c, rfl, -, -, -, -, hc⟩ := hs.open h0
    have hnews : ∀ j u, (cellsK .u8 ys)[j]? = some u → w.cell? ((⟨b, off, none⟩ : Addr).add j) = some u := fun j u hj => by
      obtain ⟨hj', rfl⟩ := cellsK_get hj
      rw [add_plain]
      exact hc j hj'
    have holds : ∀ j u, (cellsK .u8 xs)[j]? = some u → w.cell? ((⟨g, 0, none⟩ : Addr).add j) = some u := fun j u hj => by
      obtain ⟨hj', rfl⟩ := cellsK_get hj
      rw [add_plain]
      exact hc1 j hj'
    have hr2 := run_append_grow (P := P) w t ty 5 i z ht hi hz ⟨g, 0, none⟩ xs.length xs.length (cellsK .u8 xs) (by rw [cellsK_length, hsize, Nat.mul_one]) holds ⟨b, off, none⟩ ys.length c (cellsK .u8 ys) (by rw [cellsK_length, hsize, Nat.mul_one]) hnews (by omega) (by omega) (by rw [hby]; exact growslice_fits (by omega) (by omega))
    have hge := grownCap_ge w (xs.length + ys.length) xs.length 5
    have hcm : grownCap w (xs.length + ys.length) xs.length 5 ≤ maxLen := grownCap_le_maxLen w (xs.length + ys.length) xs.length 5 (by unfold maxLen; omega)
    refine ⟨_, _, hr2, ⟨by rw [cellsK_length, Nat.mul_one], .inr ⟨w.heap.size, _, _, by rw [List.length_append], hbase, heap_alloc_new w.drew _, by rw [List.length_append]; exact hge, hcm, ?_, ?_⟩⟩, ⟨rfl, rfl, rfl, by simp, fun k hk _ => heap_alloc_old w.drew _ hk⟩, Or.inr rfl⟩
    · simp only [Array.size_append, List.size_toArray, size_zeroCells, hzs, cellsK_length]
      omega
    · simp only [Array.toList_append, Nat.mul_one]
      rw [← cellsK_append, List.take_append_of_le_length (by rw [cellsK_length]; omega), List.take_of_length_le (by rw [cellsK_length]; omega)]
theorem wpList_append_apd {P : Program} (w : World) {ops : Array Oper} {rest : List Oper} {o : Oper} {a : Act} {Q : Exit → Act → World → Prop} (hgd : o.guard = none) (s x : Operand) (t : TypeId)
    (ho : o.op = .call { callee := .builtin .append, args := #[s, x], argTypes := #[t, t] })
    (S : Nat → Prop) (base : Nat) (i : TypeInfo) (z : Value) (ht : P.underlying t = some (.slice 5)) (hi : P.info? 5 = some i) (hz : i.zero = some z)
    (hsize : i.size = 1) (hby : i.bytes = 1) (hzs : z.cells.size = 1)
    (v : Value) (xs : List Int) (hsv : a.eval s = v) (hown : Apd w base v xs)
    (xv : Value) (ys : List Int) (hx : a.eval x = xv) (hs : Rd .u8 S w xv ys) (h0 : 0 < ys.length)
    (hbytes : xs.length + ys.length ≤ 140737488355328) (hbase : base ≤ w.heap.size)
    (h : ∀ v' w', Own .u8 5 w' base v' (xs ++ ys) → w.grownBy w' v.ownBlock → (v'.ownBlock = v.ownBlock ∨ v'.ownBlock = some w.heap.size) → wpList P ops Q rest (a.put o.dst v') w') :
    wpList P ops Q (o :: rest) a w := by
  refine wpList_plain hgd fun K hK => ?_
  obtain ⟨v', w', hr, h2, h3, h4⟩ := run_append_apd (P := P) w S base t o.type i z ht hi hz hsize hby hzs v xs hown xv ys hs h0 hbytes hbase
  unfold Oper.wp execOp
  simp only [ho, resolve, invoke, builtin, Sem.run_bind, Sem.run_pure, Result.andThen_ok, List.map_toArray, List.map_cons, List.map_nil, hsv, hx, hr]
  exact hK _ _ (h v' w' h2 h3 h4)

def BlkK (k : IntKind) (w : World) (b : Nat) (t : TypeId) (xs : List Int) : Prop := w.heap[b]? = some (.cells (cellsK k xs).toArray t)
section
variable {k : IntKind} {w w' : World} {b : Nat} {t : TypeId} {xs : List Int}
theorem BlkK.lt (h : BlkK k w b t xs) : b < w.heap.size := by
  unfold BlkK at h
  rcases Nat.lt_or_ge b w.heap.size with h' | h'
  · exact h'
  · rw [Array.getElem?_eq_none h'] at h
    cases h
theorem BlkK.cell (h : BlkK k w b t xs) (i : Nat) (hi : i < xs.length) : w.cell? ⟨b, i, none⟩ = some (.int k (xs.getD i 0)) := by
  unfold BlkK at h
  simp [World.cell?, h, cellsK, List.getD, List.getElem?_eq_getElem hi]
theorem BlkK.frozen (h : BlkK k w b t xs) (i : Nat) : w.frozen? ⟨b, i, none⟩ = false := by
  unfold BlkK at h
  simp [World.frozen?, h]
theorem BlkK.set (h : BlkK k w b t xs) (i : Nat) (y : Int) : BlkK k (w.setCell ⟨b, i, none⟩ (.int k y)) b t (xs.set i y) := by
  unfold BlkK at h ⊢
  simp only [World.setCell, Array.getElem?_modify, h]
  simp [cellsK, List.map_set]
theorem BlkK.other {b' i : Nat} (h : BlkK k w b t xs) (hne : b ≠ b') (u : Value) : BlkK k (w.setCell ⟨b', i, none⟩ u) b t xs := by
  unfold BlkK at h ⊢
  rw [Below.heap_setCell _ _ _ _ hne]
  exact h
theorem BlkK.drewN (h : BlkK k w b t xs) (n : Nat) : BlkK k (w.drewN n) b t xs := h
theorem BlkK.far {B : Nat} (h : BlkK k w b t xs) (hb : Below B w w') (hlt : b < B) : BlkK k w' b t xs := by
  unfold BlkK at h ⊢
  rw [hb.block b hlt]
  exact h
theorem BlkK.range (h : BlkK k w b t xs) : w.rangeAt b 0 (cellsK k xs) := by
  intro j v hv
  rw [Nat.zero_add, cell_of_row w b j _ t (0, 0) h]
  simpa using hv
theorem BlkK.there (h : BlkK k w b t xs) (n : Nat) (hn : n = xs.length) : w.there b 0 n := by
  intro j hj
  rw [Nat.zero_add]
  exact ⟨by rw [h.cell j (by omega)]; rfl, h.frozen j⟩
theorem BlkK.over {ws : List Int} (h : BlkK k w b t xs) (hl : xs.length = ws.length) : BlkK k (w.setCells b 0 (cellsK k ws)) b t ws := by
  have := Sh.heap_setCells b t (cellsK k ws) 0 w _ h
  have e := Sh.setL_all (cellsK k ws) [] (cellsK k xs) (by simp [cellsK, hl])
  simp only [List.nil_append, List.length_nil] at e
  rw [e] at this
  exact this
end
theorem alloc_blkK (k : IntKind) (w : World) (xs : List Int) (t : TypeId) : BlkK k (w.alloc (.cells (cellsK k xs).toArray t)) w.heap.size t xs := heap_alloc_new w _
theorem cellsK_all (k : IntKind) (xs : List Int) : (cellsK k xs).toArray.all (·.oneCell') = true := all_oneCell_toArray (cellsK_one k xs)

theorem cellsK_at (k : IntKind) (xs : List Int) (i : Nat) (h : i < xs.length) : (cellsK k xs).toArray[i]? = some (.int k (xs.getD i 0)) := by
  simp [cellsK, List.getD, List.getElem?_eq_getElem h]
/-- The bytes of a text that the program has. -/
theorem lit_step (w : World) (xs : List Int) (h : xs.length ≤ 1000) : ∃ wa, (convert 25 25 (.slice (some ⟨w.heap.size, 0, none⟩) xs.length xs.length)).run Tryd.prog (w.alloc (.cells (cellsK .u8 xs).toArray 5)) = .ok (.slice (some ⟨w.heap.size, 0, none⟩) xs.length xs.length) wa ∧
    Rd .u8 anyB wa (.slice (some ⟨w.heap.size, 0, none⟩) xs.length xs.length) xs ∧ Below w.heap.size w wa ∧ wa.heap.size = w.heap.size + 1 := by
  refine ⟨_, Lib.run_convert_bytes_const (P := Tryd.prog) w 25 5 _ _ _ Tryd.underlying25 Tryd.underlying5, ?_, (Below.refl w.heap.size w).alloc (Nat.le_refl _) _, by simp⟩
  refine ⟨some ⟨w.heap.size, 0, none⟩, xs.length, rfl, Nat.le_refl _, by unfold maxLen; omega, (fun h => by cases h), fun _ => ⟨w.heap.size, 0, rfl, by simp, trivial, fun i hi => ?_⟩⟩
  rw [Nat.zero_add, cell_of_row _ w.heap.size i _ _ _ (heap_alloc_new w _)]
  exact cellsK_at .u8 xs i hi
set_option maxHeartbeats 1000000 in
set_option maxRecDepth 100000 in
theorem appendNumber_apd (v : Value) (xs : List Int) (x : Int) (n : Nat) (w : World) (base : Nat) (ho : Apd w base v xs) (hbw : base ≤ w.heap.size) (hx0 : 0 ≤ x) (hx : x < 2 ^ (8 * n)) (hx1 : x < 18446744073709551616) (hn : 1 ≤ n) (hn8 : n ≤ 8) (hl : xs.length + 20 ≤ 140737488355328) :
    Calls Tryd.prog 20 #[v, .int .i64 x, .int .i64 n] w fun e w' => ∃ v', e = .returned v' ∧ Own .u8 5 w' base v' (xs ++ Nu.bigF n x) ∧ Gb v.ownBlock w w' v' := by
  obtain ⟨i0, z0, hi, hz, hs, hb0, hc⟩ := info8
  have KC := Kept.mk (Nu.putBig_ok (.slice none 0 0) [] x n w (Nu.Rd.nil w) hx0 hx1 hn hn8 hx (by simp))
  have KO := Kept.mk ho
  have KL : Kept ((Nu.bigF n x).length = n) := ⟨Nu.bigF_length n x⟩
  have hcv : IntKind.u64.wrap x = x := wru64 hx0 hx1
  obtain ⟨va, vc, rfl⟩ := ho.form
  clear ho
  generalize Nu.bigF n x = B at *
  go_enter Tryd.func20, Tryd.ntmps20
  go_wp2_with fail
  refine Calls.mono KC.out (fun e w1 hp => ?_)
  obtain ⟨v1, rfl, hown1, hb1⟩ := hp
  have hO1 : Own .u8 5 w1 w.heap.size v1 B := hown1
  have hr1 := Kept.mk hO1.rd
  obtain ⟨a1, c1, rfl, -, -, -⟩ := hO1.rd.form
  have ho1 := Kept.mk (KO.out.later hb1 (Nat.le_refl _))
  have hG := Kept.mk (Gb.of_below (v := .slice va xs.length vc) hb1)
  have hbw1 : base ≤ w1.heap.size := Nat.le_trans hbw hb1.size
  have KlB : Kept (xs.length + B.length ≤ 140737488355328 ∧ 0 < B.length) := ⟨by rw [KL.out]; omega⟩
  clear hown1 hO1 hb1
  go_wp2_with (at_builtin; refine wpList_append_apd _ rfl _ _ 25 rfl _ base i0 z0 Tryd.underlying25 hi hz hs hb0 hc (.slice va xs.length vc) xs rfl ho1.out _ B rfl hr1.out KlB.out.2 KlB.out.1 hbw1 ?_; intro v2 w2 hown hgrow hat2; have KO2 := Kept.mk hown; have KG2 := Kept.mk hgrow; have KA2 := Kept.mk hat2; clear hown hgrow hat2)
  go_ret
  exact ⟨_, rfl, KO2.out, hG.out.grow KG2.out KA2.out⟩

theorem appendNumber_nil (x : Int) (n : Nat) (w : World) (hx0 : 0 ≤ x) (hx : x < 2 ^ (8 * n)) (hx1 : x < 18446744073709551616) (hn : 1 ≤ n) (hn8 : n ≤ 8) :
    Calls Tryd.prog 20 #[.slice none 0 0, .int .i64 x, .int .i64 n] w fun e w' => ∃ v', e = .returned v' ∧ Own .u8 5 w' w.heap.size v' (Nu.bigF n x) ∧ Below w.heap.size w w' :=
  (appendNumber_apd (.slice none 0 0) [] x n w w.heap.size (.inl (Own.nil .u8 5 w w.heap.size)) (Nat.le_refl _) hx0 hx hx1 hn hn8 (by simp)).mono fun e w' hp => by
    obtain ⟨v', h1, h2, h3⟩ := hp
    exact ⟨v', h1, h2, h3.below (Nat.le_refl _) (fun k hk => by simp [Value.ownBlock] at hk)⟩
/-- Numbers set into a list from a place on. -/
def spl (cur : List Int) (off : Nat) (ys : List Int) : List Int := cur.take off ++ (ys ++ cur.drop (off + ys.length))
theorem spl_length {cur ys : List Int} {off : Nat} (h : off + ys.length ≤ cur.length) : (spl cur off ys).length = cur.length := by
  unfold spl
  simp
  omega
theorem spl_cells (cur : List Int) (off : Nat) (ys : List Int) : splice (cellsK .u8 cur) off (cellsK .u8 ys) = cellsK .u8 (spl cur off ys) := by
  unfold splice spl cellsK
  simp
set_option maxHeartbeats 1000000 in
set_option maxRecDepth 100000 in
theorem putNumber_any (g off L c : Nat) (cur : List Int) (x : Int) (n : Nat) (w : World) (hg : BlkK .u8 w g 5 cur) (hL : n ≤ L) (hfit : off + n ≤ cur.length) (hx0 : 0 ≤ x) (hx : x < 2 ^ (8 * n)) (hx1 : x < 9223372036854775808) (hn : 1 ≤ n) (hn8 : n ≤ 8) :
    Calls Tryd.prog 42 #[.slice (some ⟨g, off, none⟩) L c, .int .i64 x, .int .i64 n] w fun e w' => e = .returned (.tuple #[]) ∧ BlkK .u8 w' g 5 (spl cur off (Nu.bigF n x)) ∧ Below g w w' ∧ w.heap.size ≤ w'.heap.size := by
  have KC := Kept.mk (appendNumber_nil x n w hx0 hx (by omega) hn hn8)
  have hgl := hg.lt
  have KG := Kept.mk hg
  have KL : Kept ((Nu.bigF n x).length = n) := ⟨Nu.bigF_length n x⟩
  obtain ⟨i0, z0, hi, hz, hs, hb0, hc⟩ := info8
  have hsz1 : (Tryd.prog.info? 5).map (·.size) = some 1 := by rw [hi]; simp [hs]
  clear hg
  generalize Nu.bigF n x = B at *
  go_enter Tryd.func42, Tryd.ntmps42
  go_wp2_with fail
  refine Calls.mono KC.out (fun e w1 hp => ?_)
  obtain ⟨v1, rfl, hO1, hb1⟩ := hp
  have hB1 := KL.out
  obtain ⟨b1, o1, c1, rfl, -, hlc, -, -, hcell⟩ := hO1.rd.open (by omega)
  have KB1 := Kept.mk (hb1.mono (Nat.le_of_lt hgl))
  have KS1 := Kept.mk hb1.size
  have KG1 : Kept (w1.heap[g]? = some (.cells (cellsK .u8 cur).toArray 5 (0, 0))) := ⟨(KG.out.far hb1 hgl)⟩
  have Klen : Kept ((cellsK .u8 B).length = Nat.min B.length L) := ⟨by rw [cellsK_length]; exact (Nat.min_eq_left (by omega)).symm⟩
  have Ksrc : Kept (∀ j v, (cellsK .u8 B)[j]? = some v → w1.cell? ((⟨b1, o1, none⟩ : Addr).add j) = some v) := ⟨fun j v hj => by
    obtain ⟨hj', rfl⟩ := cellsK_get hj
    rw [add_plain]
    exact hcell j hj'⟩
  have Kfit : Kept (off + (cellsK .u8 B).length ≤ (cellsK .u8 cur).length) := ⟨by rw [cellsK_length, cellsK_length]; omega⟩
  have Kone := Kept.mk (cellsK_one .u8 B)
  clear hO1 hb1 hcell hB1 hlc
  go_wp2_with (refine wpList_copy_splice rfl _ _ 25 25 rfl 5 Tryd.underlying25 hsz1 (some ⟨g, off, none⟩) (some ⟨b1, o1, none⟩) L c B.length c1 rfl rfl g off (cellsK .u8 cur) 5 KG1.out (cellsK .u8 B) Klen.out (fun h => ⟨rfl, _, rfl, Ksrc.out⟩) Kfit.out Kone.out g w KB1.out (Nat.le_refl _) ?_; intro w3 hh3 hb3; have KK3 := Kept.mk hh3; have KB3 := Kept.mk hb3; clear hh3 hb3)
  refine bodyPost_end (results_none rfl _ _ _) rfl ?_
  exact ⟨rfl, by have := KK3.out; rw [spl_cells] at this; exact this, KB3.out, KB3.out.size⟩
end Go.Proofs.YthkaohkondkhgaaDoor
