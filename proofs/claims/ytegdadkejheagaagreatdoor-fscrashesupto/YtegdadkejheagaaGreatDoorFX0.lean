/-
  Walks: Twin, Same, Spare, Kept; bytes of the call's own that are written.
-/
import Derived.Test.YtegdadkejheagaaGreatDoorFW
import Derived.OwnWalk
namespace Go.Proofs.YtegdadkejheagaaGreatDoor
open Go.RowKit Go.WideMaps Go.Maps

set_option maxHeartbeats 400000 in
set_option maxRecDepth 100000 in
theorem twin_any {S : Nat → Prop} (v : Value) (xs : List Int) (w : World) (h : Rd .u8 S w v xs) (hl : xs.length ≤ 140737488355328) :
    Calls Tryz.prog 18 #[v] w fun e w' => ∃ v', e = .returned v' ∧ Own .u8 5 w' w.heap.size v' xs ∧ Below w.heap.size w w' := by
  obtain ⟨i0, z0, hi, hz, hs, hb, hc⟩ := info8
  go_enter Tryz.func18, Tryz.ntmps18
  go_wp2_with (at_builtin; refine wpList_append_rd _ rfl _ _ 23 rfl .u8 S 1 w.heap.size 5 i0 z0 Tryz.underlying23 hi hz hs hb hc (by omega) (.slice none 0 0) [] rfl (Own.nil _ _ _ _) _ xs rfl h (by simp; omega) (Nat.le_refl _) ?_; intro v' w1 hown hgrow hat)
  go_ret
  exact ⟨_, rfl, hown, (Below.refl _ w).grown hgrow (Nat.le_refl _) (fun k e => by simp [Value.ownBlock] at e)⟩
set_option maxHeartbeats 400000 in
set_option maxRecDepth 100000 in
theorem same_any {S S' : Nat → Prop} (v u : Value) (xs ys : List Int) (w : World) (h : Rd .u8 S w v xs) (k : Rd .u8 S' w u ys) (hx : AllB xs) (hy : AllB ys) :
    Calls Tryz.prog 55 #[v, u] w fun e w' => e = .returned (.bool (decide (xs = ys))) ∧ w' = w := by
  have c1 := h.str (P := Tryz.prog) (src := 23) Tryz.underlying23 Tryz.underlying5 9 Tryz.underlying9
  have c2 := k.str (P := Tryz.prog) (src := 23) Tryz.underlying23 Tryz.underlying5 9 Tryz.underlying9
  have he := strs_eq hx hy
  go_enter Tryz.func55, Tryz.ntmps55
  go_wp2
  go_ret
  exact ⟨rfl, rfl⟩
theorem allB_lit {xs : List Int} (h : xs.all (fun x => decide (0 ≤ x ∧ x < 256)) = true) : AllB xs := by
  intro x hx
  have := List.all_eq_true.1 h x hx
  simpa using this
theorem Rd.lit (k : IntKind) (w : World) (xs : List Int) (t : TypeId) (h : xs.length ≤ 1000) : Rd k (fun g => g = w.heap.size) (w.alloc (.cells (cellsK k xs).toArray t)) (.slice (some ⟨w.heap.size, 0, none⟩) xs.length xs.length) xs := by
  refine ⟨some ⟨w.heap.size, 0, none⟩, xs.length, rfl, Nat.le_refl _, by unfold maxLen; omega, (fun h => by cases h), fun _ => ⟨w.heap.size, 0, rfl, by simp, rfl, fun i hi => ?_⟩⟩
  have hh := heap_alloc_new w (.cells (cellsK k xs).toArray t)
  simp only [Nat.zero_add, World.cell?, hh]
  simp [cellsK, List.getD, List.getElem?_eq_getElem hi]
/-- A piece of what is read, where it has an address. -/
theorem Rd.piece2 {k : IntKind} {S : Nat → Prop} {w : World} {b off n c i j : Nat} {xs : List Int} (h : Rd k S w (.slice (some ⟨b, off, none⟩) n c) xs) (hij : i ≤ j) (hj : j ≤ xs.length) :
    Rd k S w (.slice (some ⟨b, off + i, none⟩) (j - i) (c - i)) ((xs.drop i).take (j - i)) := by
  obtain ⟨a0, c0, hv, h1, h2, h3, h4⟩ := h
  cases hv
  have hlen : ((xs.drop i).take (j - i)).length = j - i := by simp; omega
  refine ⟨some ⟨b, off + i, none⟩, c - i, by rw [hlen], by rw [hlen]; omega, by omega, (fun e => by cases e), fun h0 => ?_⟩
  rw [hlen] at h0
  obtain ⟨b', off', ha, hlt, hs, hc⟩ := h4 (by omega)
  cases ha
  refine ⟨b, off + i, rfl, hlt, hs, fun q hq => ?_⟩
  rw [hlen] at hq
  have := hc (i + q) (by omega)
  rw [show off + i + q = off + (i + q) from by omega, this]
  congr 2
  simp only [List.getD, List.getElem?_drop, List.getElem?_take]
  rw [if_pos (by omega)]

def spareL (xs : List Int) : List Int := xs ++ [41, 42, 43, 44]
theorem spareL_length (xs : List Int) : (spareL xs).length = xs.length + 4 := by simp [spareL]
theorem allB4 : AllB [41, 42, 43, 44] := allB_lit rfl

theorem spare_open {w4 : World} {base : Nat} {v4 : Value} {xs : List Int} (h : Own .u8 5 w4 base v4 (xs ++ [41, 42, 43, 44])) : ∃ g cap, v4 = .slice (some ⟨g, 0, none⟩) (xs.length + 4) cap ∧ (xs.length : Int) + 4 ≤ cap ∧ (cap : Int) ≤ 9223372036854775807 ∧ base ≤ g ∧ g < w4.heap.size := by
  have hl : (xs ++ [(41 : Int), 42, 43, 44]).length = xs.length + 4 := by simp
  have hlt := h.lt
  rcases h.2 with ⟨-, hn⟩ | ⟨g, cap, cur, rfl, hbg, hg, hnc, hcm, hcs, htake⟩
  · rw [hl] at hn
    omega
  · rw [hl] at hnc
    unfold maxLen at hcm
    exact ⟨g, cap, by rw [hl], by omega, by omega, hbg, (hlt g rfl).2⟩

theorem same_self {S S' : Nat → Prop} (v u : Value) (xs : List Int) (w : World) (h : Rd .u8 S w v xs) (k : Rd .u8 S' w u xs) (hx : AllB xs) :
    Calls Tryz.prog 55 #[v, u] w fun e w' => e = .returned (.bool true) ∧ w' = w := by
  have := same_any v u xs xs w h k hx hx
  rwa [decide_eq_true rfl] at this
/-- append, at whatever operation that is carried out. -/
theorem wp_append_rd {P : Program} {w : World} {o : Oper} {a : Act} {K : Act → World → Prop} {Q : Exit → Act → World → Prop} (s x : Operand) (t : TypeId)
    (ho : o.op = .call { callee := .builtin .append, args := #[s, x], argTypes := #[t, t] })
    (k : IntKind) (S : Nat → Prop) (bytes base : Nat) (e : TypeId) (i : TypeInfo) (z : Value) (ht : P.underlying t = some (.slice e)) (hi : P.info? e = some i) (hz : i.zero = some z)
    (hsize : i.size = 1) (hby : i.bytes = bytes) (hzs : z.cells.size = 1) (hpos : 0 < bytes)
    (v : Value) (xs : List Int) (hsv : a.eval s = v) (hown : Own k e w base v xs)
    (xv : Value) (ys : List Int) (hx : a.eval x = xv) (hs : Rd k S w xv ys)
    (hbytes : (xs.length + ys.length) * bytes ≤ 140737488355328) (hbase : base ≤ w.heap.size)
    (h : ∀ v' w', Own k e w' base v' (xs ++ ys) → w.grownBy w' v.ownBlock → K (a.put o.dst v') w') : o.wp P a w K Q := by
  obtain ⟨v', w', hr, h2, h3, -⟩ := run_append_rd (P := P) w k S bytes base t o.type e i z ht hi hz hsize hby hzs hpos v xs hown xv ys hs hbytes hbase
  unfold Oper.wp execOp
  simp only [ho, resolve, invoke, builtin, Sem.run_bind, Sem.run_pure, Result.andThen_ok, List.map_toArray, List.map_cons, List.map_nil, hsv, hx, hr]
  exact h v' w' h2 h3
/-- Bytes that may be written. -/
def Wr1 (w : World) (v : Value) (n : Nat) : Prop := 0 < n → ∃ g c cs, v = .slice (some ⟨g, 0, none⟩) n c ∧ Bk w g 5 cs ∧ n ≤ cs.length
theorem Own.wr1 {w : World} {base : Nat} {v : Value} {xs : List Int} (h : Own .u8 5 w base v xs) : Wr1 w v xs.length := fun h0 => by
  rcases h.2 with ⟨hv, hn⟩ | ⟨g, cap, cur, hv, hbg, hg, hnc, hcm, hcs, htake⟩
  · omega
  · exact ⟨g, cap, cur.toList, hv, by unfold Bk; rw [hg], by have e : cur.toList.length = cur.size := Array.length_toList; show xs.length ≤ cur.toList.length; omega⟩
theorem Wr1.set {w : World} {g n c : Nat} (h : Wr1 w (.slice (some ⟨g, 0, none⟩) n c) n) (j : Nat) (u : Value) : Wr1 (w.setCell ⟨g, j, none⟩ u) (.slice (some ⟨g, 0, none⟩) n c) n := fun h0 => by
  obtain ⟨g', c', cs, hv, hb, hl⟩ := h h0
  injection hv with e1 _ e3
  injection e1 with e1
  injection e1 with e1
  subst e1 e3
  exact ⟨g, c, cs.set j u, rfl, hb.set j u, by rw [List.length_set]; exact hl⟩
theorem Wr1.fx {w w' : World} {v : Value} {n : Nat} (h : Wr1 w v n) {S : Nat → Prop} (hF : Fx S w w') (hS : ∀ g, v.ownBlock = some g → ¬ S g) : Wr1 w' v n := fun h0 => by
  obtain ⟨g, c, cs, hv, hb, hl⟩ := h h0
  exact ⟨g, c, cs, hv, hb.far (hF.block _ hb.lt (hS g (by rw [hv]; rfl))), hl⟩
end Go.Proofs.YtegdadkejheagaaGreatDoor
