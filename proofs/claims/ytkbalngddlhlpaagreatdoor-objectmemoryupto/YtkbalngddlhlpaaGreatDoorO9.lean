/-
  Words of kinds, headers; the document's If, Least.
-/
import Derived.Test.YtkbalngddlhlpaaGreatDoorN7
import Derived.Test.YtkbalngddlhlpaaGreatDoorO6
import Derived.Lib.ConvBytes
import Derived.Lib.FrozenHead
namespace Go.Proofs.YtkbalngddlhlpaaGreatDoor
open Go.RowKit

def wdF (k : Int) : ByteArray := if k = 1 then ⟨#[99, 111, 109, 109, 105, 116]⟩ else if k = 2 then ⟨#[116, 114, 101, 101]⟩ else if k = 3 then ⟨#[98, 108, 111, 98]⟩ else if k = 4 then ⟨#[116, 97, 103]⟩ else ⟨#[]⟩
def isK (k : Int) : Bool := decide (1 ≤ k) && decide (k ≤ 4)
theorem wd_size (k : Int) : (wdF k).size ≤ 6 := by
  unfold wdF
  repeat' split
  all_goals decide
theorem wd_empty (k : Int) : ((wdF k).toList == []) = !isK k := by
  rw [Lib.toList_data]
  unfold wdF isK
  by_cases h1 : k = 1
  · subst h1; rfl
  by_cases h2 : k = 2
  · subst h2; rfl
  by_cases h3 : k = 3
  · subst h3; rfl
  by_cases h4 : k = 4
  · subst h4; rfl
  rw [if_neg h1, if_neg h2, if_neg h3, if_neg h4]
  have : (decide (1 ≤ k) && decide (k ≤ 4)) = false := by
    rw [Bool.and_eq_false_iff, decide_eq_false_iff_not, decide_eq_false_iff_not]
    omega
  rw [this]
  rfl
set_option maxHeartbeats 400000 in
set_option maxRecDepth 100000 in
theorem word_any (k : Int) (w : World) : Calls Tryz.prog 25 #[.int .i64 k] w fun e w' => e = .returned (.string (wdF k)) ∧ w' = w := by
  unfold wdF
  by_cases h1 : k = 1
  · subst h1
    go_enter Tryz.func25, Tryz.ntmps25
    go_wp2
    go_ret
    exact ⟨rfl, rfl⟩
  have b1 : (k == 1) = false := by simpa using h1
  by_cases h2 : k = 2
  · subst h2
    go_enter Tryz.func25, Tryz.ntmps25
    go_wp2
    go_ret
    exact ⟨rfl, rfl⟩
  have b2 : (k == 2) = false := by simpa using h2
  by_cases h3 : k = 3
  · subst h3
    go_enter Tryz.func25, Tryz.ntmps25
    go_wp2
    go_ret
    exact ⟨rfl, rfl⟩
  have b3 : (k == 3) = false := by simpa using h3
  by_cases h4 : k = 4
  · subst h4
    go_enter Tryz.func25, Tryz.ntmps25
    go_wp2
    go_ret
    exact ⟨rfl, rfl⟩
  have b4 : (k == 4) = false := by simpa using h4
  rw [if_neg h1, if_neg h2, if_neg h3, if_neg h4]
  go_enter Tryz.func25, Tryz.ntmps25
  go_wp2
  go_ret
  exact ⟨rfl, rfl⟩
set_option maxHeartbeats 400000 in
set_option maxRecDepth 100000 in
theorem if_any (so : Bool) (e : Int) (w : World) : Calls Tryz.prog 80 #[.bool so, .int .i64 e] w fun x w' => x = .returned (.int .i64 (if so then e else 0)) ∧ w' = w := by
  cases so
  · go_enter Tryz.func80, Tryz.ntmps80
    go_wp2
    go_ret
    exact ⟨rfl, rfl⟩
  · go_enter Tryz.func80, Tryz.ntmps80
    go_wp2
    go_ret
    exact ⟨rfl, rfl⟩
def hdB (k n : Int) : ByteArray := wdF k ++ ⟨#[32]⟩ ++ ⟨(Lib.itoa n).toArray⟩ ++ ⟨#[0]⟩
def hdE (k n : Int) : Int := if n < 0 ∨ 1048576 < n then 1 else if isK k then 0 else 9
def hdS (k n : Int) : ByteArray := if hdE k n = 0 then hdB k n else ⟨#[]⟩
theorem itoa_size {n : Int} (h0 : 0 ≤ n) (h1 : n ≤ 1048576) : (⟨(Lib.itoa n).toArray⟩ : ByteArray).size ≤ 20 := by
  show (Lib.itoa n).toArray.size ≤ 20
  rw [List.size_toArray]
  unfold Lib.itoa
  rw [if_neg (by omega), Lib.decDigits_length]
  exact ndig_le _ 20 (by omega) (by omega)
set_option maxHeartbeats 1000000 in
set_option maxRecDepth 100000 in
theorem header_any (k n : Int) (w : World) (hg : Gv w) (hn0 : -9223372036854775808 ≤ n) (hn1 : n < 9223372036854775808) : Calls Tryz.prog 6 #[.int .i64 k, .int .i64 n] w fun e w' => e = .returned (.tuple #[.string (hdS k n), .int .i64 (hdE k n)]) ∧ Below w.heap.size w w' := by
  by_cases h1 : n < 0
  · have KE : Kept (hdE k n = 1) := ⟨by unfold hdE; rw [if_pos (Or.inl h1)]⟩
    have KS : Kept (hdS k n = ⟨#[]⟩) := ⟨by unfold hdS; rw [KE.out]; rfl⟩
    go_enter Tryz.func6, Tryz.ntmps6
    go_wp2
    go_ret2
    rw [KE.out, KS.out]
    exact ⟨rfl, Below.refl _ _⟩
  by_cases h2 : 1048576 < n
  · have KE : Kept (hdE k n = 1) := ⟨by unfold hdE; rw [if_pos (Or.inr h2)]⟩
    have KS : Kept (hdS k n = ⟨#[]⟩) := ⟨by unfold hdS; rw [KE.out]; rfl⟩
    go_enter Tryz.func6, Tryz.ntmps6
    go_wp2
    go_ret2
    rw [KE.out, KS.out]
    exact ⟨rfl, Below.refl _ _⟩
  have KW : Kept (∀ w, Calls Tryz.prog 25 #[.int .i64 k] w fun e w' => e = .returned (.string (wdF k)) ∧ w' = w) := ⟨word_any k⟩
  have hwe := wd_empty k
  have hws := wd_size k
  have KT := Kept.mk (itoaV_any n w hg (by omega) (by omega))
  have hts := itoa_size (by omega) (by omega : n ≤ 1048576)
  have KHB : Kept (hdB k n = wdF k ++ ⟨#[32]⟩ ++ ⟨(Lib.itoa n).toArray⟩ ++ ⟨#[0]⟩) := ⟨rfl⟩
  have KE0 : Kept (hdE k n = if isK k then 0 else 9) := ⟨by unfold hdE; rw [if_neg (by omega)]⟩
  clear hg
  generalize wdF k = D at *
  generalize (⟨(Lib.itoa n).toArray⟩ : ByteArray) = T at *
  cases hk : isK k
  · have KE : Kept (hdE k n = 9) := ⟨by rw [KE0.out, hk]; rfl⟩
    have KS : Kept (hdS k n = ⟨#[]⟩) := ⟨by unfold hdS; rw [KE.out]; rfl⟩
    rw [hk] at hwe
    have hwe : (D.toList == []) = true := hwe
    go_enter Tryz.func6, Tryz.ntmps6
    go_wp2_with fail
    refine Calls.mono (KW.out w) (fun e w1 hp => ?_)
    obtain ⟨rfl, rfl⟩ := hp
    go_wp2
    go_ret2
    rw [KE.out, KS.out]
    exact ⟨rfl, Below.refl _ _⟩
  · have KE : Kept (hdE k n = 0) := ⟨by rw [KE0.out, hk]; rfl⟩
    have KS : Kept (hdS k n = D ++ ⟨#[32]⟩ ++ T ++ ⟨#[0]⟩) := ⟨by unfold hdS; rw [if_pos KE.out, KHB.out]⟩
    rw [hk] at hwe
    have hwe : (D.toList == []) = false := hwe
    go_enter Tryz.func6, Tryz.ntmps6
    go_wp2_with fail
    refine Calls.mono (KW.out w) (fun e w1 hp => ?_)
    obtain ⟨rfl, rfl⟩ := hp
    go_wp2_with fail
    refine Calls.mono (KW.out w1) (fun e w1 hp => ?_)
    obtain ⟨rfl, rfl⟩ := hp
    go_wp2_with fail
    refine Calls.mono KT.out (fun e w2 hp => ?_)
    obtain ⟨rfl, hb⟩ := hp
    have KB := Kept.mk hb
    clear hb
    go_wp2
    go_ret2
    rw [KE.out, KS.out]
    exact ⟨rfl, KB.out⟩


theorem storeCells_atM (P : Program) (g o : Nat) (t : TypeId) (fz : Nat × Nat) : ∀ (vs : List Value) (i : Nat) (cur : Array Value) (w : World), w.heap[g]? = some (.cells cur t fz) → cur.size ≤ fz.1 → o + i + vs.length ≤ cur.size → (∀ v ∈ vs, v.oneCell' = true) →
    (storeCells ⟨g, o, none⟩ vs i).run P w = .ok () (w.setRow g (cur.toList.take (o + i) ++ vs ++ cur.toList.drop (o + i + vs.length)).toArray)
  | [], i, cur, w, hg, _, _, _ => by
    simp only [storeCells, List.append_nil, List.length_nil, Nat.add_zero, List.take_append_drop, Array.toArray_toList]
    rw [setRow_self w g cur t fz hg]
    rfl
  | v :: rest, i, cur, w, hg, hfz, hl, h1 => by
    have hi : o + i < cur.size := by simp at hl; omega
    have hadd : (⟨g, o, none⟩ : Addr).add i = ⟨g, o + i, none⟩ := by unfold Addr.add; split <;> simp_all
    have hcell : w.cell? ⟨g, o + i, none⟩ = some cur[o + i] := by simp [World.cell?, hg, hi]
    have hfro : w.frozen? ⟨g, o + i, none⟩ = false := by
      obtain ⟨lo, hi'⟩ := fz
      simp only [World.frozen?, hg, Bool.and_eq_false_iff, decide_eq_false_iff_not]
      left
      simp only at hfz
      omega
    have hst : (store ((⟨g, o, none⟩ : Addr).add i) v).run P w = .ok () (w.setRow g (cur.setIfInBounds (o + i) v)) := by
      rw [hadd, run_store P w _ v _ (h1 v (by simp)), hcell]
      simp [hfro, setCell_eq_setRow w g (o + i) cur t fz v hg]
    have ih := storeCells_atM P g o t fz rest (i + 1) (cur.setIfInBounds (o + i) v) (w.setRow g (cur.setIfInBounds (o + i) v)) (setRow_heap w g cur _ t _ hg) (by simpa using hfz) (by simp at hl ⊢; omega) (fun x hx => h1 x (by simp [hx]))
    simp only [storeCells, Sem.run_bind, hst, Result.andThen_ok, ih, setRow_setRow]
    congr 3
    have e := list_seg_step cur.toList (o + i) v rest (by simp at hl ⊢; omega)
    simpa [Array.toList_setIfInBounds, Nat.add_assoc] using e
theorem cellsK_at {k : IntKind} {zs : List Int} {j : Nat} (h : j < zs.length) : (cellsK k zs)[j]? = some (.int k (zs.getD j 0)) := by
  simp [cellsK, List.getD, List.getElem?_eq_getElem h]
theorem run_append_marked {P : Program} (w : World) (S : Nat → Prop) (t ty e : TypeId) (i : TypeInfo) (z : Value) (ht : P.underlying t = some (.slice e)) (hi : P.info? e = some i) (hz : i.zero = some z)
    (hsize : i.size = 1) (hby : i.bytes = 1)
    (g n cap : Nat) (cur : Array Value) (fz : Nat × Nat) (hg : w.heap[g]? = some (.cells cur e fz)) (hcs : cur.size = cap) (hfz : cap ≤ fz.1) (hn : n ≤ cap) (hcm : cap ≤ maxLen)
    (xs : List Int) (hxs : cur.toList.take n = cellsK .u8 xs) (hxl : xs.length = n)
    (x : Value) (ys : List Int) (hs : Rd .u8 S w x ys) (hbytes : n + ys.length ≤ 140737488355328) :
    ∃ v' w', (Builtin.append_ #[t, t] ty #[.slice (some ⟨g, 0, none⟩) n cap, x]).run P w = .ok v' w' ∧ Rd .u8 anyB w' v' (xs ++ ys) ∧ w.grownBy w' (some g) := by
  have hglt : g < w.heap.size := (Array.getElem?_eq_some_iff.1 hg).1
  have hcell : ∀ k, k < xs.length → w.cell? ⟨g, 0 + k, none⟩ = some (.int .u8 (xs.getD k 0)) := fun k hk => by
    rw [Nat.zero_add, cell_of_row w g k cur e fz hg]
    have : (cur.toList.take n)[k]? = (cellsK .u8 xs)[k]? := by rw [hxs]
    rw [List.getElem?_take, if_pos (by omega), Array.getElem?_toList] at this
    rw [this]
    simp [cellsK, List.getD, List.getElem?_eq_getElem hk]
  obtain ⟨a, c, rfl, h2, h3, h4, h5⟩ := hs
  by_cases h0 : 0 < ys.length
  · obtain ⟨b, off, rfl, hbw, _, hc⟩ := h5 h0
    have hnews : ∀ j u, (cellsK .u8 ys)[j]? = some u → w.cell? ((⟨b, off, none⟩ : Addr).add j) = some u := fun j u hj => by
      obtain ⟨hj', rfl⟩ := cellsK_get hj
      rw [add_plain]
      exact hc j hj'
    by_cases hroom : n + ys.length ≤ cap
    · have hf := run_firstCells_some (P := P) w i.size ys.length ⟨b, off, none⟩ ys.length c (cellsK .u8 ys) (by rw [cellsK_length, hsize, Nat.mul_one]) hnews
      rw [hsize] at hf
      have hst := storeCells_atM P g n e fz (cellsK .u8 ys) 0 cur w hg (by omega) (by rw [cellsK_length]; omega) (cellsK_one .u8 ys)
      simp only [Nat.add_zero] at hst
      refine ⟨.slice (some ⟨g, 0, none⟩) (n + ys.length) cap, w.setRow g (cur.toList.take n ++ cellsK .u8 ys ++ cur.toList.drop (n + (cellsK .u8 ys).length)).toArray, ?_, ?_, ?_⟩
      · simp [Builtin.append_, run_underlying ht, sizeOf, typeInfo, hi, Builtin.lenOf, hroom, hf, Addr.add_lit, hst, hsize]
      · have hrow := setRow_heap w g cur (cur.toList.take n ++ cellsK .u8 ys ++ cur.toList.drop (n + (cellsK .u8 ys).length)).toArray e fz hg
        refine ⟨some ⟨g, 0, none⟩, cap, by rw [List.length_append, hxl], by rw [List.length_append, hxl]; omega, hcm, (fun h => by cases h), fun _ => ⟨g, 0, rfl, by simpa using hglt, trivial, fun k hk => ?_⟩⟩
        rw [Nat.zero_add, cell_of_row _ g k _ e fz hrow, hxs, ← cellsK_append, List.getElem?_toArray, List.getElem?_append_left (by rw [cellsK_length]; exact hk)]
        exact cellsK_at hk
      · exact ⟨rfl, rfl, rfl, by simp, fun k _ hk => setRow_other w g k _ (fun e => hk (by rw [e]))⟩
    · have holds : ∀ j u, (cellsK .u8 xs)[j]? = some u → w.cell? ((⟨g, 0, none⟩ : Addr).add j) = some u := fun j u hj => by
        obtain ⟨hj', rfl⟩ := cellsK_get hj
        rw [add_plain]
        exact hcell j hj'
      have hr := run_append_grow (P := P) w t ty e i z ht hi hz ⟨g, 0, none⟩ n cap (cellsK .u8 xs) (by rw [cellsK_length, hsize, hxl, Nat.mul_one]) holds ⟨b, off, none⟩ ys.length c (cellsK .u8 ys) (by rw [cellsK_length, hsize, Nat.mul_one]) hnews (by omega) (by unfold maxLen at *; omega) (by rw [hby]; exact growslice_fits (by unfold maxLen at *; omega) (by omega))
      refine ⟨_, _, hr, ?_, ?_⟩
      · have hge := grownCap_ge w (n + ys.length) cap e
        have hle := grownCap_le_maxLen w (n + ys.length) cap e (by unfold maxLen; omega)
        refine ⟨some ⟨w.heap.size, 0, none⟩, grownCap w (n + ys.length) cap e, by rw [List.length_append, hxl], by rw [List.length_append, hxl]; exact hge, hle, (fun h => by cases h), fun _ => ⟨w.heap.size, 0, rfl, by simp, trivial, fun k hk => ?_⟩⟩
        rw [Nat.zero_add, cell_of_row _ w.heap.size k _ e (0, 0) (heap_alloc_new w.drew _)]
        rw [← Array.getElem?_toList, Array.toList_append, Array.toList_append, List.getElem?_append_left (by rw [List.length_append] at hk; simp [cellsK]; omega)]
        rw [show (cellsK IntKind.u8 xs).toArray.toList ++ (cellsK IntKind.u8 ys).toArray.toList = cellsK .u8 (xs ++ ys) from by rw [cellsK_append]]
        exact cellsK_at hk
      · exact ⟨rfl, rfl, rfl, by simp, fun k hk _ => heap_alloc_old w.drew _ hk⟩
  · have hy : ys = [] := List.eq_nil_of_length_eq_zero (by omega)
    subst hy
    refine ⟨_, w, run_append_zero w t ty e i ht hi _ _ cap hn a c, ?_, ⟨rfl, rfl, rfl, Nat.le_refl _, fun _ _ _ => rfl⟩⟩
    rw [List.append_nil]
    exact ⟨some ⟨g, 0, none⟩, cap, by rw [hxl], by omega, hcm, (fun h => by cases h), fun _ => ⟨g, 0, rfl, hglt, trivial, hcell⟩⟩


theorem shRd {S : Nat → Prop} {w : World} {v : Value} {xs : List Int} (h : Rd .u8 S w v xs) (hA : Sh.AllB xs) : Sh.Rd w v xs := by
  obtain ⟨a, c, h1, h2, h3, h4, h5⟩ := h
  exact ⟨a, c, h1, h2, h3, hA, h4, fun h0 => by
    obtain ⟨b, off, h6, h7, _, h8⟩ := h5 h0
    exact ⟨b, off, h6, h7, h8⟩⟩
theorem results_row2 {P : Program} {fn : Func} {p u : Tmp} {ty : TypeId} (h : fn.results = #[.cell p ty, .tmp u]) (tmps : Array Value) (w : World) (g : Nat) (t : TypeId) (cs : Array Value) (fr : Nat × Nat) (d : TypeDesc)
    (hp : tmps.getD p undef = .pointer (some ⟨g, 0, none⟩)) (hg : w.heap[g]? = some (.cells cs t fr))
    (hu : P.underlying ty = some d) (hd : (match d with | .struct _ | .array _ _ => true | _ => false) = true) (hi : (P.info? ty).map (·.size) = some cs.size) :
    (results fn tmps).run P w = .ok (.tuple #[.agg cs, tmps.getD u undef]) w := by
  rw [results_cell_tmp h, hp]
  simp only [asAddr, Sem.run_pure, Result.andThen_ok, run_loadVar_row w g t ty cs fr d hg hu hd hi]
def idV (ds : List Int) : Array Value := (Sh.cellsU8 ds).toArray
def z32 : List Int := List.replicate 32 0
def idL (k : Int) (xs : List Int) : List Int := Sh.digF (Sh.sumS Sh.ksK (strL (hdB k xs.length) ++ xs)).list
def idE (k : Int) (n : Nat) : Int := if 1048576 < n then 2 else if isK k then 0 else 9
def idR (k : Int) (xs : List Int) : List Int := if idE k xs.length = 0 then idL k xs else z32
theorem wpList_append_run {P : Program} (w : World) {ops : Array Oper} {rest : List Oper} {o : Oper} {a : Act} {Q : Exit → Act → World → Prop} (hgd : o.guard = none) (s x : Operand) (t : TypeId)
    (ho : o.op = .call { callee := .builtin .append, args := #[s, x], argTypes := #[t, t] }) (v xv v' : Value) (w' : World) (hsv : a.eval s = v) (hx : a.eval x = xv)
    (hr : (Builtin.append_ #[t, t] o.type #[v, xv]).run P w = .ok v' w') (h : wpList P ops Q rest (a.put o.dst v') w') : wpList P ops Q (o :: rest) a w := by
  refine wpList_plain hgd fun K hK => ?_
  unfold Oper.wp execOp
  simp only [ho, resolve, invoke, builtin, Sem.run_bind, Sem.run_pure, Result.andThen_ok, List.map_toArray, List.map_cons, List.map_nil, hsv, hx, hr]
  exact hK _ _ h
theorem bytes_text (w : World) (s : ByteArray) (hs : s.size ≤ 1000000) : ∃ W cap cur fz, (convert 9 27 (.string s)).run Tryz.prog w = .ok (.slice (some ⟨w.heap.size, 0, none⟩) s.size cap) W ∧
    W.heap[w.heap.size]? = some (.cells cur 5 fz) ∧ cur.size = cap ∧ cap ≤ fz.1 ∧ s.size ≤ cap ∧ cap ≤ maxLen ∧ cur.toList.take s.size = cellsK .u8 (strL s) ∧ Below w.heap.size w W := by
  have hge := grownCap_ge w s.size 0 5
  have hle := grownCap_le_maxLen w s.size 0 5 (by unfold maxLen; omega)
  have hsz : (Lib.bytesCells w 5 s).size = grownCap w s.size 0 5 := by
    unfold Lib.bytesCells
    rw [Array.size_append, Array.size_map, Array.size_replicate]
    show s.size + _ = _
    omega
  refine ⟨Lib.bytesWorld w 5 s, grownCap w s.size 0 5, Lib.bytesCells w 5 s, _, Lib.run_convert_string_bytes w 9 27 5 s Tryz.underlying9 Tryz.underlying27 Tryz.underlying5, Lib.bytesWorld_at_new w 5 s, hsz, by rw [hsz]; exact Nat.le_refl _, hge, hle, ?_, ?_⟩
  · unfold Lib.bytesCells
    rw [Array.toList_append, List.take_append_of_le_length (by rw [Array.length_toList, Array.size_map]; exact Nat.le_refl _)]
    rw [List.take_of_length_le (by rw [Array.length_toList, Array.size_map]; exact Nat.le_refl _), Array.toList_map, cells_strL]
    rfl
  · exact ⟨rfl, rfl, rfl, by rw [Lib.bytesWorld_size]; omega, fun k hk => Lib.bytesWorld_at_old w 5 s k hk⟩
theorem box_obj (w : World) (k : Int) (v : Value) : ∃ w2, (w.alloc (.cells #[.int .i64 k, v] 46)).alloc (.cells #[.int .u8 0, .int .u8 0, .int .u8 0, .int .u8 0, .int .u8 0, .int .u8 0, .int .u8 0, .int .u8 0, .int .u8 0, .int .u8 0, .int .u8 0, .int .u8 0, .int .u8 0, .int .u8 0, .int .u8 0, .int .u8 0, .int .u8 0, .int .u8 0, .int .u8 0, .int .u8 0, .int .u8 0, .int .u8 0, .int .u8 0, .int .u8 0, .int .u8 0, .int .u8 0, .int .u8 0, .int .u8 0, .int .u8 0, .int .u8 0, .int .u8 0, .int .u8 0] 31) = w2 ∧ Below w.heap.size w w2 ∧ w.heap.size + 1 < w2.heap.size ∧ ∀ w', Below w2.heap.size w2 w' → w'.cell? ⟨w.heap.size, 0, none⟩ = some (.int .i64 k) ∧ w'.cell? ⟨w.heap.size, 1, none⟩ = some v ∧ w'.heap[w.heap.size + 1]? = some (.cells #[.int .u8 0, .int .u8 0, .int .u8 0, .int .u8 0, .int .u8 0, .int .u8 0, .int .u8 0, .int .u8 0, .int .u8 0, .int .u8 0, .int .u8 0, .int .u8 0, .int .u8 0, .int .u8 0, .int .u8 0, .int .u8 0, .int .u8 0, .int .u8 0, .int .u8 0, .int .u8 0, .int .u8 0, .int .u8 0, .int .u8 0, .int .u8 0, .int .u8 0, .int .u8 0, .int .u8 0, .int .u8 0, .int .u8 0, .int .u8 0, .int .u8 0, .int .u8 0] 31) := by
  have hz : ((w.alloc (.cells #[.int .i64 k, v] 46)).alloc (.cells #[.int .u8 0, .int .u8 0, .int .u8 0, .int .u8 0, .int .u8 0, .int .u8 0, .int .u8 0, .int .u8 0, .int .u8 0, .int .u8 0, .int .u8 0, .int .u8 0, .int .u8 0, .int .u8 0, .int .u8 0, .int .u8 0, .int .u8 0, .int .u8 0, .int .u8 0, .int .u8 0, .int .u8 0, .int .u8 0, .int .u8 0, .int .u8 0, .int .u8 0, .int .u8 0, .int .u8 0, .int .u8 0, .int .u8 0, .int .u8 0, .int .u8 0, .int .u8 0] 31)).heap.size = w.heap.size + 2 := by simp
  have hr0 : ((w.alloc (.cells #[.int .i64 k, v] 46)).alloc (.cells #[.int .u8 0, .int .u8 0, .int .u8 0, .int .u8 0, .int .u8 0, .int .u8 0, .int .u8 0, .int .u8 0, .int .u8 0, .int .u8 0, .int .u8 0, .int .u8 0, .int .u8 0, .int .u8 0, .int .u8 0, .int .u8 0, .int .u8 0, .int .u8 0, .int .u8 0, .int .u8 0, .int .u8 0, .int .u8 0, .int .u8 0, .int .u8 0, .int .u8 0, .int .u8 0, .int .u8 0, .int .u8 0, .int .u8 0, .int .u8 0, .int .u8 0, .int .u8 0] 31)).heap[w.heap.size]? = some (.cells #[.int .i64 k, v] 46) := by
    rw [((Below.refl (w.heap.size + 1) (w.alloc (.cells #[.int .i64 k, v] 46))).alloc (by simp) (.cells #[.int .u8 0, .int .u8 0, .int .u8 0, .int .u8 0, .int .u8 0, .int .u8 0, .int .u8 0, .int .u8 0, .int .u8 0, .int .u8 0, .int .u8 0, .int .u8 0, .int .u8 0, .int .u8 0, .int .u8 0, .int .u8 0, .int .u8 0, .int .u8 0, .int .u8 0, .int .u8 0, .int .u8 0, .int .u8 0, .int .u8 0, .int .u8 0, .int .u8 0, .int .u8 0, .int .u8 0, .int .u8 0, .int .u8 0, .int .u8 0, .int .u8 0, .int .u8 0] 31)).block w.heap.size (by omega)]
    exact heap_alloc_new w _
  have hr1 : ((w.alloc (.cells #[.int .i64 k, v] 46)).alloc (.cells #[.int .u8 0, .int .u8 0, .int .u8 0, .int .u8 0, .int .u8 0, .int .u8 0, .int .u8 0, .int .u8 0, .int .u8 0, .int .u8 0, .int .u8 0, .int .u8 0, .int .u8 0, .int .u8 0, .int .u8 0, .int .u8 0, .int .u8 0, .int .u8 0, .int .u8 0, .int .u8 0, .int .u8 0, .int .u8 0, .int .u8 0, .int .u8 0, .int .u8 0, .int .u8 0, .int .u8 0, .int .u8 0, .int .u8 0, .int .u8 0, .int .u8 0, .int .u8 0] 31)).heap[w.heap.size + 1]? = some (.cells #[.int .u8 0, .int .u8 0, .int .u8 0, .int .u8 0, .int .u8 0, .int .u8 0, .int .u8 0, .int .u8 0, .int .u8 0, .int .u8 0, .int .u8 0, .int .u8 0, .int .u8 0, .int .u8 0, .int .u8 0, .int .u8 0, .int .u8 0, .int .u8 0, .int .u8 0, .int .u8 0, .int .u8 0, .int .u8 0, .int .u8 0, .int .u8 0, .int .u8 0, .int .u8 0, .int .u8 0, .int .u8 0, .int .u8 0, .int .u8 0, .int .u8 0, .int .u8 0] 31) := by
    have := heap_alloc_new (w.alloc (.cells #[.int .i64 k, v] 46)) (.cells #[.int .u8 0, .int .u8 0, .int .u8 0, .int .u8 0, .int .u8 0, .int .u8 0, .int .u8 0, .int .u8 0, .int .u8 0, .int .u8 0, .int .u8 0, .int .u8 0, .int .u8 0, .int .u8 0, .int .u8 0, .int .u8 0, .int .u8 0, .int .u8 0, .int .u8 0, .int .u8 0, .int .u8 0, .int .u8 0, .int .u8 0, .int .u8 0, .int .u8 0, .int .u8 0, .int .u8 0, .int .u8 0, .int .u8 0, .int .u8 0, .int .u8 0, .int .u8 0] 31)
    rw [show (w.alloc (.cells #[.int .i64 k, v] 46)).heap.size = w.heap.size + 1 by simp] at this
    exact this
  refine ⟨_, rfl, ((Below.refl _ _).alloc (Nat.le_refl _) _).alloc (by simp) _, by rw [hz]; omega, fun w' hw => ?_⟩
  rw [hw.cell (p := ⟨w.heap.size, 0, none⟩) (by rw [hz]; show w.heap.size < _; omega), hw.cell (p := ⟨w.heap.size, 1, none⟩) (by rw [hz]; show w.heap.size < _; omega), hw.block (w.heap.size + 1) (by rw [hz]; omega), cell_of_row _ w.heap.size 0 _ _ (0, 0) hr0, cell_of_row _ w.heap.size 1 _ _ (0, 0) hr0]
  exact ⟨rfl, rfl, hr1⟩
theorem info_id : (Tryz.prog.info? 31).map (·.size) = some 32 := by kernel_rfl
theorem zv : (#[.int .u8 0, .int .u8 0, .int .u8 0, .int .u8 0, .int .u8 0, .int .u8 0, .int .u8 0, .int .u8 0, .int .u8 0, .int .u8 0, .int .u8 0, .int .u8 0, .int .u8 0, .int .u8 0, .int .u8 0, .int .u8 0, .int .u8 0, .int .u8 0, .int .u8 0, .int .u8 0, .int .u8 0, .int .u8 0, .int .u8 0, .int .u8 0, .int .u8 0, .int .u8 0, .int .u8 0, .int .u8 0, .int .u8 0, .int .u8 0, .int .u8 0, .int .u8 0] : Array Value) = idV z32 := by rfl
theorem strL_allB (s : ByteArray) : Sh.AllB (strL s) := by
  intro x hx
  obtain ⟨b, _, rfl⟩ := List.mem_map.1 hx
  have := b.toNat_lt
  omega
theorem allB_cat {xs ys : List Int} (h : Sh.AllB xs) (g : Sh.AllB ys) : Sh.AllB (xs ++ ys) := by
  intro x hx
  rcases List.mem_append.1 hx with h' | h'
  · exact h x h'
  · exact g x h'
set_option maxHeartbeats 1000000 in
set_option maxRecDepth 100000 in
theorem id_any (k : Int) (v : Value) (xs : List Int) (w : World) (hg : Gv w) (hr : Rd .u8 anyB w v xs) (hA : Sh.AllB xs) :
    Calls Tryz.prog 23 #[.agg #[.int .i64 k, v]] w fun e w' => e = .returned (.tuple #[.agg (idV (idR k xs)), .int .i64 (idE k xs.length)]) ∧ Below w.heap.size w w' := by
  obtain ⟨w2, hw2, hB2, hlt2, hc2⟩ := box_obj w k v
  have KR := Kept.mk (hr.later hB2 (Nat.le_refl _))
  obtain ⟨a, c, rfl, hac, hlc, hcm⟩ := hr.form
  have KB2 := Kept.mk hB2
  have KC := Kept.mk hc2
  have KZi : Kept ((Tryz.prog.info? 31).map (·.size) = some (#[.int .u8 0, .int .u8 0, .int .u8 0, .int .u8 0, .int .u8 0, .int .u8 0, .int .u8 0, .int .u8 0, .int .u8 0, .int .u8 0, .int .u8 0, .int .u8 0, .int .u8 0, .int .u8 0, .int .u8 0, .int .u8 0, .int .u8 0, .int .u8 0, .int .u8 0, .int .u8 0, .int .u8 0, .int .u8 0, .int .u8 0, .int .u8 0, .int .u8 0, .int .u8 0, .int .u8 0, .int .u8 0, .int .u8 0, .int .u8 0, .int .u8 0, .int .u8 0] : Array Value).size) := ⟨by kernel_rfl⟩
  have KZo : Kept ((#[.int .u8 0, .int .u8 0, .int .u8 0, .int .u8 0, .int .u8 0, .int .u8 0, .int .u8 0, .int .u8 0, .int .u8 0, .int .u8 0, .int .u8 0, .int .u8 0, .int .u8 0, .int .u8 0, .int .u8 0, .int .u8 0, .int .u8 0, .int .u8 0, .int .u8 0, .int .u8 0, .int .u8 0, .int .u8 0, .int .u8 0, .int .u8 0, .int .u8 0, .int .u8 0, .int .u8 0, .int .u8 0, .int .u8 0, .int .u8 0, .int .u8 0, .int .u8 0] : Array Value).all (·.oneCell') = true) := ⟨by kernel_rfl⟩
  have hxm : xs.length ≤ 9223372036854775807 := by unfold maxLen at hcm; omega
  by_cases h1 : 1048576 < xs.length
  · have h1i : (1048576 : Int) < (xs.length : Int) := by omega
    have KE : Kept (idE k xs.length = 2) := ⟨by unfold idE; rw [if_pos h1]⟩
    have KI : Kept (idR k xs = z32) := ⟨by unfold idR; rw [KE.out]; rfl⟩
    obtain ⟨c0, c1, c2⟩ := hc2 w2 (Below.refl _ _)
    have RW := Kept.mk c2
    clear hB2 hc2 hr h1 hac hlc hcm c2 hg
    go_enter Tryz.func23, Tryz.ntmps23
    go_wp2_with (first | (refine BigFrame.wpList_want rfl (fun K hK => wp_store_row 31 _ _ rfl (w.heap.size + 1) #[.int .u8 0, .int .u8 0, .int .u8 0, .int .u8 0, .int .u8 0, .int .u8 0, .int .u8 0, .int .u8 0, .int .u8 0, .int .u8 0, .int .u8 0, .int .u8 0, .int .u8 0, .int .u8 0, .int .u8 0, .int .u8 0, .int .u8 0, .int .u8 0, .int .u8 0, .int .u8 0, .int .u8 0, .int .u8 0, .int .u8 0, .int .u8 0, .int .u8 0, .int .u8 0, .int .u8 0, .int .u8 0, .int .u8 0, .int .u8 0, .int .u8 0, .int .u8 0] rfl rfl 31 #[.int .u8 0, .int .u8 0, .int .u8 0, .int .u8 0, .int .u8 0, .int .u8 0, .int .u8 0, .int .u8 0, .int .u8 0, .int .u8 0, .int .u8 0, .int .u8 0, .int .u8 0, .int .u8 0, .int .u8 0, .int .u8 0, .int .u8 0, .int .u8 0, .int .u8 0, .int .u8 0, .int .u8 0, .int .u8 0, .int .u8 0, .int .u8 0, .int .u8 0, .int .u8 0, .int .u8 0, .int .u8 0, .int .u8 0, .int .u8 0, .int .u8 0, .int .u8 0] RW.out KZi.out rfl KZo.out (hK _ _ ?_)); rw [setRow_self _ _ _ _ _ RW.out]))
    refine bodyPost_ret (v := .tuple #[.agg #[.int .u8 0, .int .u8 0, .int .u8 0, .int .u8 0, .int .u8 0, .int .u8 0, .int .u8 0, .int .u8 0, .int .u8 0, .int .u8 0, .int .u8 0, .int .u8 0, .int .u8 0, .int .u8 0, .int .u8 0, .int .u8 0, .int .u8 0, .int .u8 0, .int .u8 0, .int .u8 0, .int .u8 0, .int .u8 0, .int .u8 0, .int .u8 0, .int .u8 0, .int .u8 0, .int .u8 0, .int .u8 0, .int .u8 0, .int .u8 0, .int .u8 0, .int .u8 0], .int .i64 2]) (results_row2 (p := 2) (u := 3) (ty := 31) Tryz.results23 _ _ (w.heap.size + 1) 31 _ (0, 0) _ rfl RW.out Tryz.underlying31 rfl info_id) rfl ⟨?_, KB2.out⟩
    rw [KE.out, KI.out, zv]
  · have h1i : ¬ (1048576 : Int) < (xs.length : Int) := by omega
    have KHd := header_any k (xs.length : Int) w2 (hg.later hB2) (by omega) (by omega)
    have KE : Kept (idE k xs.length = hdE k (xs.length : Int)) := ⟨by unfold idE hdE; rw [if_neg h1, if_neg (show ¬ ((xs.length : Int) < 0 ∨ 1048576 < (xs.length : Int)) by omega)]⟩
    have KS0 : Kept (hdE k (xs.length : Int) = 0 → hdS k (xs.length : Int) = hdB k (xs.length : Int)) := ⟨fun h => by unfold hdS; rw [if_pos h]⟩
    have hHs : (hdB k (xs.length : Int)).size ≤ 1000 := by
      unfold hdB
      have h1 := wd_size k
      have h2 := itoa_size (n := (xs.length : Int)) (by omega) (by omega)
      rw [size_cat, size_cat, size_cat]
      have e1 : (⟨#[32]⟩ : ByteArray).size = 1 := rfl
      have e2 : (⟨#[0]⟩ : ByteArray).size = 1 := rfl
      omega
    obtain ⟨c0, c1, -⟩ := hc2 w2 (Below.refl _ _)
    have KG := Kept.mk (hg.later hB2)
    cases hk : isK k
    · have KE9 : Kept (hdE k (xs.length : Int) = 9) := ⟨by unfold hdE; rw [if_neg (show ¬ ((xs.length : Int) < 0 ∨ 1048576 < (xs.length : Int)) by omega), hk]; rfl⟩
      have KI : Kept (idR k xs = z32) := ⟨by unfold idR; rw [KE.out, KE9.out]; rfl⟩
      rw [KE9.out] at KHd
      generalize hdS k (xs.length : Int) = HS at *
      have KHd := Kept.mk KHd
      clear hB2 hc2 hr h1 hac hlc hcm hg
      go_enter Tryz.func23, Tryz.ntmps23
      go_wp2_with fail
      refine Calls.mono KHd.out (fun e w3 hp => ?_)
      obtain ⟨rfl, hb3⟩ := hp
      have RW := Kept.mk (KC.out w3 hb3).2.2
      have KB3 := Kept.mk (KB2.out.trans (hb3.mono KB2.out.size))
      clear hb3 c0 c1
      go_wp2_with (first | (refine BigFrame.wpList_want rfl (fun K hK => wp_store_row 31 _ _ rfl (w.heap.size + 1) #[.int .u8 0, .int .u8 0, .int .u8 0, .int .u8 0, .int .u8 0, .int .u8 0, .int .u8 0, .int .u8 0, .int .u8 0, .int .u8 0, .int .u8 0, .int .u8 0, .int .u8 0, .int .u8 0, .int .u8 0, .int .u8 0, .int .u8 0, .int .u8 0, .int .u8 0, .int .u8 0, .int .u8 0, .int .u8 0, .int .u8 0, .int .u8 0, .int .u8 0, .int .u8 0, .int .u8 0, .int .u8 0, .int .u8 0, .int .u8 0, .int .u8 0, .int .u8 0] rfl rfl 31 #[.int .u8 0, .int .u8 0, .int .u8 0, .int .u8 0, .int .u8 0, .int .u8 0, .int .u8 0, .int .u8 0, .int .u8 0, .int .u8 0, .int .u8 0, .int .u8 0, .int .u8 0, .int .u8 0, .int .u8 0, .int .u8 0, .int .u8 0, .int .u8 0, .int .u8 0, .int .u8 0, .int .u8 0, .int .u8 0, .int .u8 0, .int .u8 0, .int .u8 0, .int .u8 0, .int .u8 0, .int .u8 0, .int .u8 0, .int .u8 0, .int .u8 0, .int .u8 0] RW.out KZi.out rfl KZo.out (hK _ _ ?_)); rw [setRow_self _ _ _ _ _ RW.out]))
      refine bodyPost_ret (v := .tuple #[.agg #[.int .u8 0, .int .u8 0, .int .u8 0, .int .u8 0, .int .u8 0, .int .u8 0, .int .u8 0, .int .u8 0, .int .u8 0, .int .u8 0, .int .u8 0, .int .u8 0, .int .u8 0, .int .u8 0, .int .u8 0, .int .u8 0, .int .u8 0, .int .u8 0, .int .u8 0, .int .u8 0, .int .u8 0, .int .u8 0, .int .u8 0, .int .u8 0, .int .u8 0, .int .u8 0, .int .u8 0, .int .u8 0, .int .u8 0, .int .u8 0, .int .u8 0, .int .u8 0], .int .i64 9]) (results_row2 (p := 2) (u := 3) (ty := 31) Tryz.results23 _ _ (w.heap.size + 1) 31 _ (0, 0) _ rfl RW.out Tryz.underlying31 rfl info_id) rfl ⟨?_, KB3.out⟩
      rw [KE.out, KE9.out, KI.out, zv]
    · have KE0 : Kept (hdE k (xs.length : Int) = 0) := ⟨by unfold hdE; rw [if_neg (show ¬ ((xs.length : Int) < 0 ∨ 1048576 < (xs.length : Int)) by omega), hk]; rfl⟩
      have KI : Kept (idR k xs = idL k xs) := ⟨by unfold idR; rw [KE.out, KE0.out]; rfl⟩
      have KL : Kept (idL k xs = Sh.digF (Sh.sumS Sh.ksK (strL (hdB k xs.length) ++ xs)).list) := ⟨rfl⟩
      rw [KE0.out, KS0.out KE0.out] at KHd
      generalize hdB k (xs.length : Int) = HS at *
      have KHd := Kept.mk KHd
      have KA := Kept.mk hA
      clear hB2 hc2 hr h1 hac hlc hcm hg hA
      go_enter Tryz.func23, Tryz.ntmps23
      go_wp2_with fail
      refine Calls.mono KHd.out (fun e w3 hp => ?_)
      obtain ⟨rfl, hb3⟩ := hp
      have hB3 := KB2.out.trans (hb3.mono KB2.out.size)
      obtain ⟨W4, cap, cur, fz, hcv, hrow, hcs, hfz, hsc, hcm, htk, hB4⟩ := bytes_text w3 HS (by omega)
      obtain ⟨i0, z0, hi, hz, hsz, hbb, hzc⟩ := info8
      have hb24 : Below w2.heap.size w2 W4 := hb3.trans (hB4.mono hb3.size)
      obtain ⟨v5, W5, hap, hR5, hg5⟩ := run_append_marked (P := Tryz.prog) W4 anyB 27 27 5 i0 z0 Tryz.underlying27 hi hz hsz hbb w3.heap.size HS.size cap cur fz hrow hcs hfz hsc hcm (strL HS) htk (strL_length HS) _ xs (KR.out.later hb24 (Nat.le_refl _)) (by omega)
      obtain ⟨d0, d1, -⟩ := KC.out W4 hb24
      have hb25 : Below w2.heap.size w2 W5 := hb24.grown hg5 hb24.size (fun k hk => by cases hk; exact hb3.size)
      have hB5 := KB2.out.trans (hb25.mono KB2.out.size)
      have KSm := Kept.mk (Sh.sum_any v5 (strL HS ++ xs) Sh.ksK W5 (shRd hR5 (allB_cat (strL_allB HS) KA.out)) Sh.ksK_length (KG.out.later hb25).rnd)
      have KAp := Kept.mk hap
      have K25 := Kept.mk hb25
      have KB5 := Kept.mk hB5
      clear hb3 hB3 hrow hcs hfz hsc hcm htk hB4 hb24 hR5 hg5 hap c0 c1 hb25 hB5
      rw [← KL.out] at KSm
      obtain ⟨DV, hDV⟩ : ∃ DV, (Sh.cellsU8 (idL k xs)).toArray = DV := ⟨_, rfl⟩
      have KDs : Kept (DV.size = 32) := ⟨by rw [← hDV, KL.out, List.size_toArray, Sh.cellsU8_length, Sh.digF_length]⟩
      have KDi : Kept ((Tryz.prog.info? 31).map (·.size) = some DV.size) := ⟨by rw [KDs.out]; exact info_id⟩
      have KDo : Kept (DV.all (·.oneCell') = true) := ⟨by
        rw [← hDV, Array.all_eq_true_iff_forall_mem]
        intro x hx
        exact Sh.cellsU8_one _ x (by simpa using hx)⟩
      rw [hDV] at KSm
      have KDV : Kept (idV (idL k xs) = DV) := ⟨hDV⟩
      clear hDV
      go_wp2_with (first | rw [hcv] | (at_builtin; refine wpList_append_run _ rfl _ _ 27 rfl _ _ _ _ rfl rfl KAp.out ?_))
      refine Calls.mono KSm.out (fun e w6 hp => ?_)
      obtain ⟨rfl, hb6⟩ := hp
      have hb26 := K25.out.trans (hb6.mono K25.out.size)
      have hrw := (KC.out w6 hb26).2.2
      have RW := Kept.mk hrw
      have hB6 := KB2.out.trans (hb26.mono KB2.out.size)
      have KB7 : Kept (Below w.heap.size w (w6.setRow (w.heap.size + 1) DV)) := ⟨below_setRow hB6 (by omega) _⟩
      have KRW : Kept ((w6.setRow (w.heap.size + 1) DV).heap[w.heap.size + 1]? = some (.cells DV 31)) := ⟨setRow_heap w6 (w.heap.size + 1) _ DV 31 (0, 0) hrw⟩
      clear hb6 hb26 hrw hB6 d0 d1
      go_wp2_with (first | (refine BigFrame.wpList_want rfl (fun K hK => wp_store_row 31 _ _ rfl (w.heap.size + 1) DV rfl rfl 31 _ RW.out KDi.out (by rw [KDs.out]; rfl) KDo.out (hK _ _ ?_))))
      refine bodyPost_ret (v := .tuple #[.agg DV, .int .i64 0]) (results_row2 (p := 2) (u := 3) (ty := 31) Tryz.results23 _ _ (w.heap.size + 1) 31 _ (0, 0) _ rfl KRW.out Tryz.underlying31 rfl KDi.out) rfl ⟨?_, KB7.out⟩
      rw [KE.out, KE0.out, KI.out, KDV.out]
end Go.Proofs.YtkbalngddlhlpaaGreatDoor
