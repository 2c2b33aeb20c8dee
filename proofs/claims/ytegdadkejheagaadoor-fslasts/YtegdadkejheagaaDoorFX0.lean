/-
  Walks: Twin, Same, Spare, Kept; bytes of the call's own that are written.
-/
import Derived.Test.YtegdadkejheagaaDoorFW
import Derived.OwnWalk
namespace Go.Proofs.YtegdadkejheagaaDoor
open Go.RowKit Go.WideMaps Go.Maps

set_option maxHeartbeats 400000 in
set_option maxRecDepth 100000 in
theorem twin_any {S : Nat → Prop} (v : Value) (xs : List Int) (w : World) (h : Rd .u8 S w v xs) (hl : xs.length ≤ 140737488355328) :
    Calls Tryd.prog 26 #[v] w fun e w' => ∃ v', e = .returned v' ∧ Own .u8 5 w' w.heap.size v' xs ∧ Below w.heap.size w w' := by
  obtain ⟨i0, z0, hi, hz, hs, hb, hc⟩ := info8
  go_enter Tryd.func26, Tryd.ntmps26
  go_wp2_with (at_builtin; refine wpList_append_rd _ rfl _ _ 23 rfl .u8 S 1 w.heap.size 5 i0 z0 Tryd.underlying23 hi hz hs hb hc (by omega) (.slice none 0 0) [] rfl (Own.nil _ _ _ _) _ xs rfl h (by simp; omega) (Nat.le_refl _) ?_; intro v' w1 hown hgrow hat)
  go_ret
  exact ⟨_, rfl, hown, (Below.refl _ w).grown hgrow (Nat.le_refl _) (fun k e => by simp [Value.ownBlock] at e)⟩
set_option maxHeartbeats 400000 in
set_option maxRecDepth 100000 in
theorem same_any {S S' : Nat → Prop} (v u : Value) (xs ys : List Int) (w : World) (h : Rd .u8 S w v xs) (k : Rd .u8 S' w u ys) (hx : AllB xs) (hy : AllB ys) :
    Calls Tryd.prog 16 #[v, u] w fun e w' => e = .returned (.bool (decide (xs = ys))) ∧ w' = w := by
  have c1 := h.str (P := Tryd.prog) (src := 23) Tryd.underlying23 Tryd.underlying5 9 Tryd.underlying9
  have c2 := k.str (P := Tryd.prog) (src := 23) Tryd.underlying23 Tryd.underlying5 9 Tryd.underlying9
  have he := strs_eq hx hy
  go_enter Tryd.func16, Tryd.ntmps16
  go_wp2
  go_ret
  exact ⟨rfl, rfl⟩
theorem allB_lit {xs : List Int} (h : xs.all (fun x => decide (0 ≤ x ∧ x < 256)) = true) : AllB xs := by
  intro x hx
  have := List.all_eq_true.1 h x hx
  simpa using this
theorem Rd.lit (k : IntKind) (w : World) (xs : List Int) (t : TypeId) (h : xs.length ≤ 1000) : Rd k (fun g => g = w.heap.size) (w.alloc (.cells (cellsK k xs).toArray t)) (.slice (some ⟨w.heap.size, 0, none⟩) xs.length xs.length) xs := by
  refine ⟨some ⟨w.heap.size, 0, none⟩, xs.length, rfl, Nat.le_refl _, by unfold maxLen; omega, (fun h => by cases h), fun _ => ⟨w.heap.size, 0, rfl, by simp, rfl, fun i hi => ?_⟩⟩
  have hh := heap_alloc_new w (.cells (cellsK k xs).toArray t)
  simp only [Nat.zero_add, World.cell?, hh]
  simp [cellsK, List.getD, List.getElem?_eq_getElem hi]
/-- A piece of what is read, where it has an address. -/
theorem Rd.piece2 {k : IntKind} {S : Nat → Prop} {w : World} {b off n c i j : Nat} {xs : List Int} (h : Rd k S w (.slice (some ⟨b, off, none⟩) n c) xs) (hij : i ≤ j) (hj : j ≤ xs.length) :
    Rd k S w (.slice (some ⟨b, off + i, none⟩) (j - i) (c - i)) ((xs.drop i).take (j - i)) := by
  obtain ⟨a0, c0, hv, h1, h2, h3, h4⟩ := h
  cases hv
  have hlen : ((xs.drop i).take (j - i)).length = j - i := by simp; omega
  refine ⟨some ⟨b, off + i, none⟩, c - i, by rw [hlen], by rw [hlen]; omega, by omega, (fun e => by cases e), fun h0 => ?_⟩
  rw [hlen] at h0
  obtain ⟨b', off', ha, hlt, hs, hc⟩ := h4 (by omega)
  cases ha
  refine ⟨b, off + i, rfl, hlt, hs, fun q hq => ?_⟩
  rw [hlen] at hq
  have := hc (i + q) (by omega)
  rw [show off + i + q = off + (i + q) from by omega, this]
  congr 2
  simp only [List.getD, List.getElem?_drop, List.getElem?_take]
  rw [if_pos (by omega)]

def spareL (xs : List Int) : List Int := xs ++ [41, 42, 43, 44]
theorem spareL_length (xs : List Int) : (spareL xs).length = xs.length + 4 := by simp [spareL]
theorem allB4 : AllB [41, 42, 43, 44] := allB_lit rfl

theorem spare_open {w4 : World} {base : Nat} {v4 : Value} {xs : List Int} (h : Own .u8 5 w4 base v4 (xs ++ [41, 42, 43, 44])) : ∃ g cap, v4 = .slice (some ⟨g, 0, none⟩) (xs.length + 4) cap ∧ (xs.length : Int) + 4 ≤ cap ∧ (cap : Int) ≤ 9223372036854775807 ∧ base ≤ g ∧ g < w4.heap.size := by
  have hl : (xs ++ [(41 : Int), 42, 43, 44]).length = xs.length + 4 := by simp
  have hlt := h.lt
  rcases h.2 with ⟨-, hn⟩ | ⟨g, cap, cur, rfl, hbg, hg, hnc, hcm, hcs, htake⟩
  · rw [hl] at hn
    omega
  · rw [hl] at hnc
    unfold maxLen at hcm
    exact ⟨g, cap, by rw [hl], by omega, by omega, hbg, (hlt g rfl).2⟩

set_option maxHeartbeats 1000000 in
set_option maxRecDepth 100000 in
theorem spare_any {S : Nat → Prop} (v : Value) (xs : List Int) (w : World) (h : Rd .u8 S w v xs) (hl : xs.length ≤ 200000) :
    Calls Tryd.prog 24 #[v] w fun e w' => ∃ g cap, e = .returned (.tuple #[.slice (some ⟨g, 0, none⟩) xs.length cap, .slice (some ⟨g, 0, none⟩) (xs.length + 4) cap]) ∧ (xs.length : Int) + 4 ≤ cap ∧ Own .u8 5 w' w.heap.size (.slice (some ⟨g, 0, none⟩) (xs.length + 4) cap) (spareL xs) ∧ Below w.heap.size w w' := by
  obtain ⟨i0, z0, hi, hz, hs, hb0, hc⟩ := info8
  obtain ⟨a, c, rfl, -, -, -⟩ := h.form
  have hb1 : i0.bytes * (xs.length + 4) ≤ 281474976710656 := by rw [hb0]; omega
  have hb2 : xs.length + 4 ≤ maxLen := by unfold maxLen; omega
  have KH := Kept.mk h
  clear h
  go_enter Tryd.func24, Tryd.ntmps24
  go_wp2_with (first | (at_make; refine wpList_make_own _ rfl _ _ 23 rfl w.heap.size 5 i0 z0 1 Tryd.underlying23 hi hz hs .i64 .i64 ((xs.length : Int) + 4) (xs.length + 4) rfl rfl (by simp) hb1 hb2 (Nat.le_refl _) ?_; intro w1 o1 g1; have KB3 := Kept.mk ((Below.refl w.heap.size w).grown g1 (Nat.le_refl _) (by intro k hk; cases hk)); have KO1 : Kept (Own .u8 5 w1 w.heap.size (.slice (some ⟨w.heap.size, 0, none⟩) 0 (xs.length + 4)) []) := ⟨o1⟩; have KR1 := Kept.mk (KH.out.later KB3.out (Nat.le_refl _)); clear o1 g1) | (at_builtin; refine wpList_append_rd _ rfl _ _ 23 rfl .u8 S 1 w.heap.size 5 i0 z0 Tryd.underlying23 hi hz hs hb0 hc (by omega) _ [] rfl KO1.out _ xs rfl KR1.out (by simp; omega) KB3.out.size ?_; intro v2 w2 o2 g2 hat2; have KB4 := Kept.mk (KB3.out.grown g2 KB3.out.size (own_ge KO1.out)); have KO2 := Kept.mk (Own.alloc o2 (.cells (cellsK .u8 [41, 42, 43, 44]).toArray 5)); have KR3 := Kept.mk (Rd.lit .u8 w2 [41, 42, 43, 44] 5 (by decide)); have KB5 := Kept.mk (KB4.out.alloc KB4.out.size (.cells (cellsK .u8 [41, 42, 43, 44]).toArray 5)); clear o2 g2 hat2 KO1 KR1) | (at_builtin; refine wpList_append_rd _ rfl _ _ 23 rfl .u8 (fun g => g = w2.heap.size) 1 w.heap.size 5 i0 z0 Tryd.underlying23 hi hz hs hb0 hc (by omega) _ xs rfl KO2.out _ [41, 42, 43, 44] rfl KR3.out (by simp; omega) KB5.out.size ?_; intro v4 w4 o4 g4 hat4; have KB6 := Kept.mk (KB5.out.grown g4 KB5.out.size (own_ge KO2.out)); obtain ⟨g, cap, hv4, hcp1, hcp2, hg1, hg2⟩ := spare_open o4; subst hv4; have KO4 := Kept.mk o4; clear o4 g4 hat4 KO2 KR3))
  go_ret2
  exact ⟨g, cap, rfl, hcp1, KO4.out, KB6.out⟩

set_option maxHeartbeats 1000000 in
set_option maxRecDepth 100000 in
theorem kept_any {S S' : Nat → Prop} (v : Value) (xs : List Int) (g cap : Nat) (w : World) (h : Rd .u8 S w v xs) (hx : AllB xs) (hcap : (xs.length : Int) + 4 ≤ cap) (hf : Rd .u8 S' w (.slice (some ⟨g, 0, none⟩) (xs.length + 4) cap) (spareL xs)) (hl : xs.length ≤ 200000) :
    Calls Tryd.prog 25 #[v, .slice (some ⟨g, 0, none⟩) (xs.length + 4) cap] w fun e w' => e = .returned (.bool true) ∧ Below w.heap.size w w' := by
  have r1 : Rd .u8 S' w (.slice (some ⟨g, 0, none⟩) xs.length cap) xs := by
    have := hf.piece2 (i := 0) (j := xs.length) (by omega) (by rw [spareL_length]; omega)
    simpa [spareL] using this
  have r2 : Rd .u8 S' w (.slice (some ⟨g, xs.length, none⟩) 4 (cap - xs.length)) [41, 42, 43, 44] := by
    have := hf.piece2 (i := xs.length) (j := xs.length + 4) (by omega) (by rw [spareL_length]; omega)
    simpa [spareL] using this
  obtain ⟨a, c, rfl, -, -, -⟩ := h.form
  have g1 : (xs.length : Int) ≤ cap := by omega
  have g2 : ¬ cap = xs.length := by omega
  have g3 : (xs.length : Int) ≤ (xs.length + 4 : Nat) := by omega
  have K1 := Kept.mk (same_any _ _ xs xs w r1 h hx hx)
  have hd : decide (xs = xs) = true := by simp
  rw [hd] at K1
  have K2 := Kept.mk (same_any _ _ [41, 42, 43, 44] [41, 42, 43, 44] (w.alloc (.cells (cellsK .u8 [41, 42, 43, 44]).toArray 5)) (r2.later ((Below.refl w.heap.size w).alloc (Nat.le_refl _) (.cells (cellsK .u8 [41, 42, 43, 44]).toArray 5)) (Nat.le_refl _)) (Rd.lit .u8 w [41, 42, 43, 44] 5 (by decide)) allB4 allB4)
  have hd2 : decide (([41, 42, 43, 44] : List Int) = [41, 42, 43, 44]) = true := by simp
  rw [hd2] at K2
  clear hf h r1 r2 hd hd2 hx
  go_enter Tryd.func25, Tryd.ntmps25
  go_wp2_with fail
  refine Calls.mono K1.out (fun e w1 hp => ?_)
  obtain ⟨rfl, rfl⟩ := hp
  go_wp2_with fail
  refine Calls.mono K2.out (fun e w2 hp => ?_)
  obtain ⟨rfl, rfl⟩ := hp
  go_wp2
  go_ret
  exact ⟨rfl, (Below.refl _ _).alloc (Nat.le_refl _) _⟩


theorem same_self {S S' : Nat → Prop} (v u : Value) (xs : List Int) (w : World) (h : Rd .u8 S w v xs) (k : Rd .u8 S' w u xs) (hx : AllB xs) :
    Calls Tryd.prog 16 #[v, u] w fun e w' => e = .returned (.bool true) ∧ w' = w := by
  have := same_any v u xs xs w h k hx hx
  rwa [decide_eq_true rfl] at this
/-- append, at whatever operation that is carried out. -/
theorem wp_append_rd {P : Program} {w : World} {o : Oper} {a : Act} {K : Act → World → Prop} {Q : Exit → Act → World → Prop} (s x : Operand) (t : TypeId)
    (ho : o.op = .call { callee := .builtin .append, args := #[s, x], argTypes := #[t, t] })
    (k : IntKind) (S : Nat → Prop) (bytes base : Nat) (e : TypeId) (i : TypeInfo) (z : Value) (ht : P.underlying t = some (.slice e)) (hi : P.info? e = some i) (hz : i.zero = some z)
    (hsize : i.size = 1) (hby : i.bytes = bytes) (hzs : z.cells.size = 1) (hpos : 0 < bytes)
    (v : Value) (xs : List Int) (hsv : a.eval s = v) (hown : Own k e w base v xs)
    (xv : Value) (ys : List Int) (hx : a.eval x = xv) (hs : Rd k S w xv ys)
    (hbytes : (xs.length + ys.length) * bytes ≤ 140737488355328) (hbase : base ≤ w.heap.size)
    (h : ∀ v' w', Own k e w' base v' (xs ++ ys) → w.grownBy w' v.ownBlock → K (a.put o.dst v') w') : o.wp P a w K Q := by
  obtain ⟨v', w', hr, h2, h3, -⟩ := run_append_rd (P := P) w k S bytes base t o.type e i z ht hi hz hsize hby hzs hpos v xs hown xv ys hs hbytes hbase
  unfold Oper.wp execOp
  simp only [ho, resolve, invoke, builtin, Sem.run_bind, Sem.run_pure, Result.andThen_ok, List.map_toArray, List.map_cons, List.map_nil, hsv, hx, hr]
  exact h v' w' h2 h3
/-- Bytes that may be written. -/
def Wr1 (w : World) (v : Value) (n : Nat) : Prop := 0 < n → ∃ g c cs, v = .slice (some ⟨g, 0, none⟩) n c ∧ Bk w g 5 cs ∧ n ≤ cs.length
theorem Own.wr1 {w : World} {base : Nat} {v : Value} {xs : List Int} (h : Own .u8 5 w base v xs) : Wr1 w v xs.length := fun h0 => by
  rcases h.2 with ⟨hv, hn⟩ | ⟨g, cap, cur, hv, hbg, hg, hnc, hcm, hcs, htake⟩
  · omega
  · exact ⟨g, cap, cur.toList, hv, by unfold Bk; rw [hg], by have e : cur.toList.length = cur.size := Array.length_toList; show xs.length ≤ cur.toList.length; omega⟩
theorem Wr1.set {w : World} {g n c : Nat} (h : Wr1 w (.slice (some ⟨g, 0, none⟩) n c) n) (j : Nat) (u : Value) : Wr1 (w.setCell ⟨g, j, none⟩ u) (.slice (some ⟨g, 0, none⟩) n c) n := fun h0 => by
  obtain ⟨g', c', cs, hv, hb, hl⟩ := h h0
  injection hv with e1 _ e3
  injection e1 with e1
  injection e1 with e1
  subst e1 e3
  exact ⟨g, c, cs.set j u, rfl, hb.set j u, by rw [List.length_set]; exact hl⟩
theorem Wr1.fx {w w' : World} {v : Value} {n : Nat} (h : Wr1 w v n) {S : Nat → Prop} (hF : Fx S w w') (hS : ∀ g, v.ownBlock = some g → ¬ S g) : Wr1 w' v n := fun h0 => by
  obtain ⟨g, c, cs, hv, hb, hl⟩ := h h0
  exact ⟨g, c, cs, hv, hb.far (hF.block _ hb.lt (hS g (by rw [hv]; rfl))), hl⟩
end Go.Proofs.YtegdadkejheagaaDoor
