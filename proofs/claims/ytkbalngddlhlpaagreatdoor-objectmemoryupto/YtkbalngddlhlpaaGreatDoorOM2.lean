/-
  ObjectMemory: Spare, Kept, TwinIds; blocks of the call's own that are written.
-/
import Derived.Test.YtkbalngddlhlpaaGreatDoorC12
import Derived.OwnWalk
import Derived.Test.YtkbalngddlhlpaaGreatDoorO35
namespace Go.Proofs.YtkbalngddlhlpaaGreatDoor
open Go.RowKit

theorem allB_lit {xs : List Int} (h : xs.all (fun x => decide (0 ≤ x ∧ x < 256)) = true) : AllB xs := by
  intro x hx
  have := List.all_eq_true.1 h x hx
  simpa using this
theorem Rd.lit (k : IntKind) (w : World) (xs : List Int) (t : TypeId) (h : xs.length ≤ 1000) : Rd k (fun g => g = w.heap.size) (w.alloc (.cells (cellsK k xs).toArray t)) (.slice (some ⟨w.heap.size, 0, none⟩) xs.length xs.length) xs := by
  refine ⟨some ⟨w.heap.size, 0, none⟩, xs.length, rfl, Nat.le_refl _, by unfold maxLen; omega, (fun h => by cases h), fun _ => ⟨w.heap.size, 0, rfl, by simp, rfl, fun i hi => ?_⟩⟩
  have hh := heap_alloc_new w (.cells (cellsK k xs).toArray t)
  simp only [Nat.zero_add, World.cell?, hh]
  simp [cellsK, List.getD, List.getElem?_eq_getElem hi]
theorem Rd.piece2 {k : IntKind} {S : Nat → Prop} {w : World} {b off n c i j : Nat} {xs : List Int} (h : Rd k S w (.slice (some ⟨b, off, none⟩) n c) xs) (hij : i ≤ j) (hj : j ≤ xs.length) :
    Rd k S w (.slice (some ⟨b, off + i, none⟩) (j - i) (c - i)) ((xs.drop i).take (j - i)) := by
  obtain ⟨a0, c0, hv, h1, h2, h3, h4⟩ := h
  cases hv
  have hlen : ((xs.drop i).take (j - i)).length = j - i := by simp; omega
  refine ⟨some ⟨b, off + i, none⟩, c - i, by rw [hlen], by rw [hlen]; omega, by omega, (fun e => by cases e), fun h0 => ?_⟩
  rw [hlen] at h0
  obtain ⟨b', off', ha, hlt, hs, hc⟩ := h4 (by omega)
  cases ha
  refine ⟨b, off + i, rfl, hlt, hs, fun q hq => ?_⟩
  rw [hlen] at hq
  have := hc (i + q) (by omega)
  rw [show off + i + q = off + (i + q) from by omega, this]
  congr 2
  simp only [List.getD, List.getElem?_drop, List.getElem?_take]
  rw [if_pos (by omega)]

def spareL (xs : List Int) : List Int := xs ++ [41, 42, 43, 44]
theorem spareL_length (xs : List Int) : (spareL xs).length = xs.length + 4 := by simp [spareL]
theorem allB4 : AllB [41, 42, 43, 44] := allB_lit rfl

theorem spare_open {w4 : World} {base : Nat} {v4 : Value} {xs : List Int} (h : Own .u8 5 w4 base v4 (xs ++ [41, 42, 43, 44])) : ∃ g cap, v4 = .slice (some ⟨g, 0, none⟩) (xs.length + 4) cap ∧ (xs.length : Int) + 4 ≤ cap ∧ (cap : Int) ≤ 9223372036854775807 ∧ base ≤ g ∧ g < w4.heap.size := by
  have hl : (xs ++ [(41 : Int), 42, 43, 44]).length = xs.length + 4 := by simp
  have hlt := h.lt
  rcases h.2 with ⟨-, hn⟩ | ⟨g, cap, cur, rfl, hbg, hg, hnc, hcm, hcs, htake⟩
  · rw [hl] at hn
    omega
  · rw [hl] at hnc
    unfold maxLen at hcm
    exact ⟨g, cap, by rw [hl], by omega, by omega, hbg, (hlt g rfl).2⟩

set_option maxHeartbeats 1000000 in
set_option maxRecDepth 100000 in
theorem spare_any {S : Nat → Prop} (v : Value) (xs : List Int) (w : World) (h : Rd .u8 S w v xs) (hl : xs.length ≤ 200000) :
    Calls Tryz.prog 12 #[v] w fun e w' => ∃ g cap, e = .returned (.tuple #[.slice (some ⟨g, 0, none⟩) xs.length cap, .slice (some ⟨g, 0, none⟩) (xs.length + 4) cap]) ∧ (xs.length : Int) + 4 ≤ cap ∧ Own .u8 5 w' w.heap.size (.slice (some ⟨g, 0, none⟩) (xs.length + 4) cap) (spareL xs) ∧ Below w.heap.size w w' := by
  obtain ⟨i0, z0, hi, hz, hs, hb0, hc⟩ := info8
  obtain ⟨a, c, rfl, -, -, -⟩ := h.form
  have hb1 : i0.bytes * (xs.length + 4) ≤ 281474976710656 := by rw [hb0]; omega
  have hb2 : xs.length + 4 ≤ maxLen := by unfold maxLen; omega
  have KH := Kept.mk h
  clear h
  go_enter Tryz.func12, Tryz.ntmps12
  go_wp2_with (first | (at_make; refine wpList_make_own _ rfl _ _ 27 rfl w.heap.size 5 i0 z0 1 Tryz.underlying27 hi hz hs .i64 .i64 ((xs.length : Int) + 4) (xs.length + 4) rfl rfl (by simp) hb1 hb2 (Nat.le_refl _) ?_; intro w1 o1 g1; have KB3 := Kept.mk ((Below.refl w.heap.size w).grown g1 (Nat.le_refl _) (by intro k hk; cases hk)); have KO1 : Kept (Own .u8 5 w1 w.heap.size (.slice (some ⟨w.heap.size, 0, none⟩) 0 (xs.length + 4)) []) := ⟨o1⟩; have KR1 := Kept.mk (KH.out.later KB3.out (Nat.le_refl _)); clear o1 g1) | (at_builtin; refine wpList_append_rd _ rfl _ _ 27 rfl .u8 S 1 w.heap.size 5 i0 z0 Tryz.underlying27 hi hz hs hb0 hc (by omega) _ [] rfl KO1.out _ xs rfl KR1.out (by simp; omega) KB3.out.size ?_; intro v2 w2 o2 g2 hat2; have KB4 := Kept.mk (KB3.out.grown g2 KB3.out.size (own_ge KO1.out)); have KO2 := Kept.mk (Own.alloc o2 (.cells (cellsK .u8 [41, 42, 43, 44]).toArray 5)); have KR3 := Kept.mk (Rd.lit .u8 w2 [41, 42, 43, 44] 5 (by decide)); have KB5 := Kept.mk (KB4.out.alloc KB4.out.size (.cells (cellsK .u8 [41, 42, 43, 44]).toArray 5)); clear o2 g2 hat2 KO1 KR1) | (at_builtin; refine wpList_append_rd _ rfl _ _ 27 rfl .u8 (fun g => g = w2.heap.size) 1 w.heap.size 5 i0 z0 Tryz.underlying27 hi hz hs hb0 hc (by omega) _ xs rfl KO2.out _ [41, 42, 43, 44] rfl KR3.out (by simp; omega) KB5.out.size ?_; intro v4 w4 o4 g4 hat4; have KB6 := Kept.mk (KB5.out.grown g4 KB5.out.size (own_ge KO2.out)); obtain ⟨g, cap, hv4, hcp1, hcp2, hg1, hg2⟩ := spare_open o4; subst hv4; have KO4 := Kept.mk o4; clear o4 g4 hat4 KO2 KR3))
  go_ret2
  exact ⟨g, cap, rfl, hcp1, KO4.out, KB6.out⟩

set_option maxHeartbeats 1000000 in
set_option maxRecDepth 100000 in
theorem kept_any {S S' : Nat → Prop} (v : Value) (xs : List Int) (g cap : Nat) (w : World) (h : Rd .u8 S w v xs) (hx : AllB xs) (hcap : (xs.length : Int) + 4 ≤ cap) (hf : Rd .u8 S' w (.slice (some ⟨g, 0, none⟩) (xs.length + 4) cap) (spareL xs)) (hl : xs.length ≤ 200000) :
    Calls Tryz.prog 15 #[v, .slice (some ⟨g, 0, none⟩) (xs.length + 4) cap] w fun e w' => e = .returned (.bool true) ∧ Below w.heap.size w w' := by
  have r1 : Rd .u8 S' w (.slice (some ⟨g, 0, none⟩) xs.length cap) xs := by
    have := hf.piece2 (i := 0) (j := xs.length) (by omega) (by rw [spareL_length]; omega)
    simpa [spareL] using this
  have r2 : Rd .u8 S' w (.slice (some ⟨g, xs.length, none⟩) 4 (cap - xs.length)) [41, 42, 43, 44] := by
    have := hf.piece2 (i := xs.length) (j := xs.length + 4) (by omega) (by rw [spareL_length]; omega)
    simpa [spareL] using this
  obtain ⟨a, c, rfl, -, -, -⟩ := h.form
  have g1 : (xs.length : Int) ≤ cap := by omega
  have g2 : ¬ cap = xs.length := by omega
  have g3 : (xs.length : Int) ≤ (xs.length + 4 : Nat) := by omega
  have K1 := Kept.mk (Sh.same_any _ _ xs xs w (shRd r1 hx) (shRd h hx))
  have hd : decide (xs = xs) = true := by simp
  rw [hd] at K1
  have K2 := Kept.mk (Sh.same_any _ _ [41, 42, 43, 44] [41, 42, 43, 44] (w.alloc (.cells (cellsK .u8 [41, 42, 43, 44]).toArray 5)) (shRd (r2.later ((Below.refl w.heap.size w).alloc (Nat.le_refl _) (.cells (cellsK .u8 [41, 42, 43, 44]).toArray 5)) (Nat.le_refl _)) allB4) (shRd (Rd.lit .u8 w [41, 42, 43, 44] 5 (by decide)) allB4))
  have hd2 : decide (([41, 42, 43, 44] : List Int) = [41, 42, 43, 44]) = true := by simp
  rw [hd2] at K2
  clear hf h r1 r2 hd hd2 hx
  go_enter Tryz.func15, Tryz.ntmps15
  go_wp2_with fail
  refine Calls.mono K1.out (fun e w1 hp => ?_)
  obtain ⟨rfl, rfl⟩ := hp
  go_wp2_with fail
  refine Calls.mono K2.out (fun e w2 hp => ?_)
  obtain ⟨rfl, rfl⟩ := hp
  go_wp2
  go_ret
  exact ⟨rfl, (Below.refl _ _).alloc (Nat.le_refl _) _⟩


theorem Own.wr {k : IntKind} {e : TypeId} {w W : World} {base : Nat} {a : Option Addr} {n c : Nat} {xs : List Int} (h : Own k e w base (.slice a n c) xs) (h0 : 0 < n) (hb : ∀ g, (Value.slice a n c).ownBlock = some g → W.heap[g]? = w.heap[g]?) :
    ∃ g, a = some ⟨g, 0, none⟩ ∧ base ≤ g ∧ g < w.heap.size ∧ ∀ i, i < n → (W.cell? ⟨g, i, none⟩).isSome = true ∧ W.frozen? ⟨g, i, none⟩ = false := by
  have hF := h.far hb
  have hlen : n = xs.length := by
    obtain ⟨a', c', hv, -⟩ := h.rd.form
    injection hv
  rcases hF.2 with ⟨hv, hn⟩ | ⟨g, cap, cur, hv, hbg, hg, hnc, hcm, hcs, htake⟩
  · omega
  · injection hv with h1 h2 h3
    subst h1
    refine ⟨g, rfl, hbg, (h.lt g rfl).2, fun i hi => ⟨?_, ?_⟩⟩
    · have hk := World.ownsRow.cells hF (g := g) rfl i (.int k (xs.getD i 0)) (by simp [cellsK, List.getElem?_eq_getElem (show i < xs.length by omega), List.getD])
      rw [add_plain, Nat.zero_add] at hk
      rw [hk]
      rfl
    · simp [World.frozen?, hg]

structure OnlyS (G : Nat → Prop) (W wr : World) : Prop where
  os : wr.os = W.os
  tape : wr.tape = W.tape
  output : wr.output = W.output
  size : wr.heap.size = W.heap.size
  block : ∀ k, ¬ G k → wr.heap[k]? = W.heap[k]?
  some : ∀ a, (W.cell? a).isSome = true → (wr.cell? a).isSome = true
  froz : ∀ a, wr.frozen? a = W.frozen? a
theorem OnlyS.refl (G : Nat → Prop) (W : World) : OnlyS G W W := ⟨rfl, rfl, rfl, rfl, fun _ _ => rfl, fun _ h => h, fun _ => rfl⟩
theorem OnlyS.set {G : Nat → Prop} {W wr : World} (h : OnlyS G W wr) {g : Nat} (hg : G g) (i : Nat) (u : Value) : OnlyS G W (wr.setCell ⟨g, i, none⟩ u) := by
  refine ⟨h.os, h.tape, h.output, by simpa [World.setCell] using h.size, fun k hk => ?_, fun p hp => ?_, fun p => by rw [World.frozen?_setCell]; exact h.froz p⟩
  · rw [Below.heap_setCell _ _ _ _ (fun e => hk (by rw [e]; exact hg))]
    exact h.block k hk
  · obtain ⟨x, hx⟩ := Option.isSome_iff_exists.1 (h.some p hp)
    obtain ⟨y, hy⟩ := cell?_setCell_some (w := wr) (p := ⟨g, i, none⟩) (x := u) (q := p) (v := x) hx
    rw [hy]
    rfl
theorem OnlyS.below {G : Nat → Prop} {b : Nat} {W wr : World} (h : OnlyS G W wr) (hb : ∀ k, k < b → ¬ G k) : Below b W wr := ⟨h.os, h.tape, h.output, by rw [h.size]; exact Nat.le_refl _, fun k hk => h.block k (hb k hk)⟩
def Wb (G : Nat → Prop) (W : World) (v : Value) : Prop := ∃ a n c, v = .slice a n c ∧ n ≤ 1048576 ∧ (0 < n → ∃ g, a = some ⟨g, 0, none⟩ ∧ G g ∧ ∀ i, i < n → (W.cell? ⟨g, i, none⟩).isSome = true ∧ W.frozen? ⟨g, i, none⟩ = false)
theorem Own.wb {e : TypeId} {w W : World} {base : Nat} {v : Value} {xs : List Int} {G : Nat → Prop} (h : Own .u8 e w base v xs) (hl : xs.length ≤ 1048576) (hb : ∀ g, v.ownBlock = some g → W.heap[g]? = w.heap[g]? ∧ G g) : Wb G W v := by
  obtain ⟨a, c, rfl, -, -, -⟩ := h.rd.form
  refine ⟨a, xs.length, c, rfl, hl, fun h0 => ?_⟩
  obtain ⟨g, hg, -, -, hc⟩ := h.wr (W := W) h0 (fun g hg => (hb g hg).1)
  subst hg
  exact ⟨g, rfl, (hb g rfl).2, hc⟩

theorem OnlyS.sets {G : Nat → Prop} {W : World} {g : Nat} (hg : G g) : ∀ (vs : List Value) (o : Nat) {wr : World}, OnlyS G W wr → OnlyS G W (wr.setCells g o vs)
  | [], _, _, h => h
  | v :: r, o, _, h => OnlyS.sets hg r (o + 1) (h.set hg o v)
theorem owns_wr {w W : World} {base size n : Nat} {e : TypeId} {v : Value} {xs : List Value} (h : w.ownsRow base e size v n xs) (h0 : 0 < n) (hb : ∀ g, v.ownBlock = some g → W.heap[g]? = w.heap[g]?) :
    ∃ g c, v = .slice (some ⟨g, 0, none⟩) n c ∧ base ≤ g ∧ g < w.heap.size ∧ W.there g 0 (n * size) := by
  rcases h.2 with ⟨-, hn⟩ | ⟨g, cap, cur, rfl, hbg, hg, hnc, hcm, hcs, htake⟩
  · omega
  · have hW := hb g rfl
    rw [hg] at hW
    have hlt : g < w.heap.size := by
      rcases Nat.lt_or_ge g w.heap.size with h | h
      · exact h
      · rw [Array.getElem?_eq_none h] at hg
        cases hg
    refine ⟨g, cap, rfl, hbg, hlt, fun i hi => ⟨?_, ?_⟩⟩
    · have hc : i < cur.size := by
        rw [hcs]
        exact Nat.lt_of_lt_of_le hi (Nat.mul_le_mul_right _ hnc)
      simp [World.cell?, hW, hc]
    · simp [World.frozen?, hW]

theorem run_append_P (w : World) (ty : TypeId) (base : Nat) (v : Value) (es fs : List (List Int)) (hown : OwnP w base v es) (x : Value) (hr : RdP w x fs) (hbytes : (es.length + fs.length) * 32 ≤ 140737488355328) (hbase : base ≤ w.heap.size) :
    ∃ v' w', (Builtin.append_ #[36, 36] ty #[v, x]).run Tryz.prog w = .ok v' w' ∧ OwnP w' base v' (es ++ fs) ∧ w.grownBy w' v.ownBlock := by
  obtain ⟨i, z, hi, hz, hs, hb0, hc⟩ := infoP
  obtain ⟨a, c, rfl, hlc, hok, hrd⟩ := hr
  have hall : ∀ e ∈ es ++ fs, IdOk e := fun e he => (List.mem_append.1 he).elim (hown.2 e) (hok e)
  by_cases h0 : 0 < fs.length
  · obtain ⟨b, off, rfl, hlt, hcell⟩ := hrd h0
    obtain ⟨v', w', h1, h2, h3, -, -⟩ := run_append_own_at (P := Tryz.prog) w base 36 ty 31 i z 32 32 Tryz.underlying36 hi hz hs hb0 hc (by decide) v _ _ hown.1 ⟨b, off, none⟩ fs.length c (fs.flatMap (cellsK .u8)) (pflat_len hok)
      (fun j u hj => by
        have hj' : j < fs.length * 32 := by
          rw [← pflat_len hok]
          exact (List.getElem?_eq_some_iff.1 hj).1
        have hq : j / 32 < fs.length := by omega
        have hm : j % 32 < 32 := Nat.mod_lt _ (by decide)
        have hd : j / 32 * 32 + j % 32 = j := by omega
        have hg := pflat_get hok hq hm
        rw [hd, hj] at hg
        have := hcell (j / 32) hq (j % 32) u (by rw [hg]; simp [List.getD, List.getElem?_eq_getElem hq])
        rw [add_plain]
        rw [show off + j = off + j / 32 * 32 + j % 32 from by omega]
        exact this) (pflat_ones fs) (by unfold maxLen; omega) hbytes hbase
    refine ⟨v', w', h1, ⟨?_, hall⟩, h3⟩
    rw [List.flatMap_append, List.length_append]
    exact h2
  · have hx : fs = [] := List.eq_nil_of_length_eq_zero (by omega)
    subst hx
    simp only [List.append_nil, List.length_nil]
    rcases hown.1.2 with ⟨rfl, hn⟩ | ⟨g, cap, cur, rfl, hbg, hg, hnc, hcm, hcs, htake⟩
    · exact ⟨_, w, run_append_zero w 36 ty 31 i Tryz.underlying36 hi none 0 0 (Nat.le_refl _) a c, hown, ⟨rfl, rfl, rfl, Nat.le_refl _, fun _ _ _ => rfl⟩⟩
    · exact ⟨_, w, run_append_zero w 36 ty 31 i Tryz.underlying36 hi _ _ cap hnc a c, hown, ⟨rfl, rfl, rfl, Nat.le_refl _, fun _ _ _ => rfl⟩⟩
theorem wpList_append_PP (w : World) {ops : Array Oper} {rest : List Oper} {o : Oper} {a : Act} {Q : Exit → Act → World → Prop} (hgd : o.guard = none) (s x : Operand)
    (ho : o.op = .call { callee := .builtin .append, args := #[s, x], argTypes := #[36, 36] })
    (base : Nat) (v : Value) (es fs : List (List Int)) (hsv : a.eval s = v) (hown : OwnP w base v es) (xv : Value) (hx : a.eval x = xv) (hr : RdP w xv fs)
    (hbytes : (es.length + fs.length) * 32 ≤ 140737488355328) (hbase : base ≤ w.heap.size)
    (h : ∀ v' w', OwnP w' base v' (es ++ fs) → w.grownBy w' v.ownBlock → wpList Tryz.prog ops Q rest (a.put o.dst v') w') :
    wpList Tryz.prog ops Q (o :: rest) a w := by
  refine wpList_plain hgd fun K hK => ?_
  obtain ⟨v', w', hrun, h2, h3⟩ := run_append_P w o.type base v es fs hown xv hr hbytes hbase
  unfold Oper.wp execOp
  simp only [ho, resolve, invoke, builtin, Sem.run_bind, Sem.run_pure, Result.andThen_ok, List.map_toArray, List.map_cons, List.map_nil, hsv, hx, hrun]
  exact hK _ _ (h v' w' h2 h3)

set_option maxHeartbeats 1000000 in
set_option maxRecDepth 100000 in
theorem twinIds_any (v : Value) (es : List (List Int)) (w : World) (h : RdP w v es) (hl : es.length ≤ 1048576) :
    Calls Tryz.prog 13 #[v] w fun e w' => ∃ u, e = .returned u ∧ OwnP w' w.heap.size u es ∧ Below w.heap.size w w' := by
  have KH := Kept.mk h
  have KO := Kept.mk (OwnP.nil w w.heap.size)
  have KB := Kept.mk (Below.refl w.heap.size w)
  have hb : ([] : List (List Int)).length + es.length = es.length := by simp
  have hb2 : (([] : List (List Int)).length + es.length) * 32 ≤ 140737488355328 := by rw [hb]; omega
  clear h hb
  go_enter Tryz.func13, Tryz.ntmps13
  go_wp2_with (at_builtin; refine wpList_append_PP _ rfl _ _ rfl w.heap.size _ [] es rfl KO.out _ rfl KH.out hb2 (Nat.le_refl _) ?_; intro v2 w2 o2 g2; have KB2 := Kept.mk (KB.out.grown g2 (Nat.le_refl _) (by intro k hk; cases hk)); have KO2 := Kept.mk o2; clear o2 g2)
  go_ret
  exact ⟨v2, rfl, by simpa using KO2.out, KB2.out⟩


theorem own_cut {w : World} {base g cap : Nat} {xs : List Int} (h : Own .u8 5 w base (.slice (some ⟨g, 0, none⟩) (xs.length + 4) cap) (spareL xs)) : Rd .u8 anyB w (.slice (some ⟨g, 0, none⟩) xs.length cap) xs := by
  have := h.rd.any.piece2 (i := 0) (j := xs.length) (by omega) (by rw [spareL_length]; omega)
  simpa [spareL] using this
def Wt (G : Nat → Prop) (W : World) (v : Value) (size n : Nat) : Prop := ∃ a c, v = .slice a n c ∧ n ≤ 9223372036854775807 ∧ (0 < n → ∃ g, a = some ⟨g, 0, none⟩ ∧ G g ∧ W.there g 0 (n * size))
def nineL : List Value := .int .u8 9 :: List.replicate 31 (.int .u8 0)
def nineC : Array Value := nineL.toArray
theorem nine_size : nineC.size = 32 := by simp [nineC, nineL]
theorem nine_info : (Tryz.prog.info? 31).map (·.size) = some nineC.size := by rw [nine_size]; kernel_rfl
theorem nine_one : nineC.all (·.oneCell') = true := by kernel_rfl
set_option maxRecDepth 100000 in
theorem built_nine : Tryz.prog.built 31 [(0, .int .u8 9)] = some nineC := by kernel_rfl
theorem wpList_build9 {P : Program} {ops : Array Oper} {rest : List Oper} {o : Oper} {a : Act} {w : World} {Q : Exit → Act → World → Prop} (hg : o.guard = none) (T : TypeId) (i1 : Nat) (o1 : Operand) (ho : o.op = .build T #[(i1, o1)]) (v1 : Value) (h1 : a.eval o1 = v1) (cells : Array Value) (hb : P.built T [(i1, v1)] = some cells)
    (h : wpList P ops Q rest (a.put o.dst (.agg cells)) w) : wpList P ops Q (o :: rest) a w := by
  refine wpList_plain hg fun K hK => ?_
  have hr := run_build (P := P) w T #[(i1, v1)] _ hb
  unfold Oper.wp execOp
  simp only [ho, Sem.run_bind, List.map_toArray, List.map_cons, List.map_nil, h1, hr, Result.andThen_ok]
  exact hK _ _ h
theorem nine_all : ∃ C : Array Value, C.size = 32 ∧ (Tryz.prog.info? 31).map (·.size) = some C.size ∧ C.all (·.oneCell') = true ∧ Tryz.prog.built 31 [(0, .int .u8 9)] = some C := ⟨nineC, nine_size, nine_info, nine_one, built_nine⟩
theorem owns_wt {G : Nat → Prop} {W : World} {base size n : Nat} {e : TypeId} {v : Value} {xs : List Value} (h : W.ownsRow base e size v n xs) (hG : ∀ g, v.ownBlock = some g → G g) : Wt G W v size n := by
  by_cases h0 : 0 < n
  · obtain ⟨g, c, rfl, -, -, hth⟩ := owns_wr h h0 (fun _ _ => rfl)
    rcases h.2 with ⟨-, hn⟩ | ⟨g', cap, cur, hv, -, -, hnc, hcm, -, -⟩
    · omega
    · cases hv
      exact ⟨_, _, rfl, by unfold maxLen at hcm; omega, fun _ => ⟨g, rfl, hG g rfl, hth⟩⟩
  · rcases h.2 with ⟨rfl, hn⟩ | ⟨g', cap, cur, rfl, -, -, hnc, hcm, -, -⟩
    · subst hn
      exact ⟨_, _, rfl, by omega, fun h => absurd h h0⟩
    · exact ⟨_, _, rfl, by omega, fun h => absurd h h0⟩
set_option maxHeartbeats 8000000 in
set_option maxRecDepth 100000 in
theorem obmemory_walk (v u : Value) (es : List EnC) (c : CmC) (pv : Value) (xs : List Int) (w : World) (hg : Gv w) (hgl : Gl w) (hr : RdE w v es) (hnm : ∀ e ∈ es, e.nm.size ≤ 140737488351232) (hts : es.length ≤ 4096 → tsF es ≤ 100000000) (hln : es.length ≤ 140737488355328)
    (hok : c.ok) (hpv : RdP w pv c.ps) (hpl : c.ps.length ≤ 1048576) (hx : Rd .u8 anyB w u xs) (hA : AllB xs) (hl : xs.length ≤ 140737488355328) :
    Calls Tryz.prog 4 #[v, .agg (c.l pv).toArray, u] w fun e w' => e = .returned (.bool true) ∧ Below w.heap.size w w' := by
  obtain ⟨w0, hw0, hB0, hL0⟩ := CmC.box w c pv
  have KB0 := Kept.mk hB0
  have KAw := Kept.mk (awake_any w0 (hg.later hB0))
  have Kok : Kept (∀ e ∈ es, e.ok) := ⟨by obtain ⟨_, _, _, _, h, _⟩ := hr; exact h⟩
  have KP : Kept (∀ w', Below w.heap.size w w' → Calls Tryz.prog 7 #[v] w' fun e w2 => ∃ v', e = .returned (.tuple #[v', .int .i64 (treE es)]) ∧ Own .u8 5 w2 w'.heap.size v' (putL es) ∧ Below w'.heap.size w' w2) := ⟨fun w' h => putTree_any v es w' (hg.later h) (hr.later h)⟩
  have KD : Kept (∀ w', Below w.heap.size w w' → Calls Tryz.prog 19 #[v] w' fun e w2 => ∃ v', e = .returned (.tuple #[v', .int .i64 (treE es)]) ∧ Own .u8 5 w2 w'.heap.size v' (putL es) ∧ Below w'.heap.size w' w2) := ⟨fun w' h => docPutTree_any v es w' (hg.later h) (hr.later h) hnm hts⟩
  have KPc : Kept (∀ w', Below w.heap.size w w' → Calls Tryz.prog 10 #[.agg (c.l pv).toArray] w' fun e w2 => ∃ v', e = .returned (.tuple #[v', .int .i64 (ceF c)]) ∧ Own .u8 5 w2 w'.heap.size v' (pcmL c) ∧ Below w'.heap.size w' w2) := ⟨fun w' h => putCommit_any c pv w' (hgl.later h) hok (hpv.later h (Nat.le_refl _))⟩
  have KPt : Kept (∀ w' v', Below w.heap.size w w' → Rd .u8 anyB w' v' xs → Calls Tryz.prog 14 #[v'] w' fun e w2 => ∃ v2 R E, e = .returned (.tuple #[v2, .int .i64 E]) ∧ OwnE w2 w'.heap.size v2 R ∧ DtEnd xs R E ∧ Below w'.heap.size w' w2) := ⟨fun w' v' h hr' => (parseTree_any v' xs w' (hg.later h) (hgl.later h) hr').mono fun e w2 hp => by
    obtain ⟨v2, R, E, h1, h2, h3, h4⟩ := hp
    exact ⟨v2, R, E, h1, h2, pt_dp hA h3, h4⟩⟩
  have KDt : Kept (∀ w', Below w.heap.size w w' → Calls Tryz.prog 17 #[u] w' fun e w2 => ∃ v2 R E, e = .returned (.tuple #[v2, .int .i64 E]) ∧ OwnE w2 w'.heap.size v2 R ∧ DtEnd xs R E ∧ Below w'.heap.size w' w2) := ⟨fun w' h => docParseTree_any u xs w' (hg.later h) (hx.later h (Nat.le_refl _)) hA⟩
  have KPp : Kept (∀ w' v', Below w.heap.size w w' → Rd .u8 anyB w' v' xs → Calls Tryz.prog 9 #[v'] w' fun e w2 => ∃ R qv E, e = .returned (.tuple #[.agg (R.l qv).toArray, .int .i64 E]) ∧ OwnP w2 w'.heap.size qv R.ps ∧ DcEnd xs R E ∧ Below w'.heap.size w' w2) := ⟨fun w' v' h hr' => parseCommit_any v' xs w' (hgl.later h) hr'⟩
  have KDp : Kept (∀ w', Below w.heap.size w w' → Calls Tryz.prog 18 #[u] w' fun e w2 => ∃ R qv E, e = .returned (.tuple #[.agg (R.l qv).toArray, .int .i64 E]) ∧ OwnP w2 w'.heap.size qv R.ps ∧ DcEnd xs R E ∧ Below w'.heap.size w' w2) := ⟨fun w' h => docParseCommit_any u xs w' (hgl.later h) (hx.later h (Nat.le_refl _)) hA⟩
  have KRg : Kept (∀ W, Below w0.heap.size w0 W → W.rangeAt w.heap.size 0 (c.l pv)) := ⟨fun W hW => (hL0.far hW hL0.lt).range⟩
  have KCp : Kept (∀ W, Below w0.heap.size w0 W → W.cell? ⟨w.heap.size, 32, none⟩ = some pv) := ⟨fun W hW => (hL0.far hW hL0.lt).cell hok 0 _ rfl⟩
  have KIc : Kept ((Tryz.prog.info? 40).map (·.size) = some (c.l pv).length) := ⟨cm_info hok⟩
  have KTw : Kept (∀ W, Below w.heap.size w W → Calls Tryz.prog 13 #[pv] W fun e w' => ∃ u, e = .returned u ∧ OwnP w' W.heap.size u c.ps ∧ Below W.heap.size W w') := ⟨fun W hW => twinIds_any pv c.ps W (hpv.later hW (Nat.le_refl _)) hpl⟩
  have KSi : Kept (∀ W q, Below w.heap.size w W → RdP W q c.ps → Calls Tryz.prog 16 #[q, pv] W fun e w' => e = .returned (.bool true) ∧ Below W.heap.size W w') := ⟨fun W q hW hq => sameIds_any q pv c.ps W hq (hpv.later hW (Nat.le_refl _)) hpl⟩
  obtain ⟨C9, hC9, hn1, hn2, hn3⟩ := nine_all
  have KNs := Kept.mk hC9
  have KNi := Kept.mk hn1
  have KNo := Kept.mk hn2
  have KNb := Kept.mk hn3
  clear hC9 hn1 hn2 hn3
  have KX := Kept.mk hx
  have KAx := Kept.mk hA
  have KTb := Kept.mk (putL_bytes Kok.out)
  generalize ceF c = TE at *
  generalize pcmL c = PL at *
  generalize c.l pv = CL at *
  obtain ⟨pa, pc, rfl, -⟩ := hr
  obtain ⟨ua, uc, rfl, -, -, -⟩ := hx.form
  have hl' : (xs.length : Int) ≤ 140737488355328 := by omega
  have hn' : (es.length : Int) ≤ 140737488355328 := by omega
  clear hg hgl hnm hts hx hA hok hB0 hL0 hpv hpl
  go_enter Tryz.func4, Tryz.ntmps4
  go_upto_region 1 with fail
  try rw [hw0]
  clear hw0
  go_wp2_with fail
  refine Calls.mono KAw.out (fun e w1 hp => ?_)
  obtain ⟨rfl, hb⟩ := hp
  have K01 := Kept.mk hb
  have KB1 := Kept.mk (KB0.out.trans (hb.mono KB0.out.size))
  have KC1 := Kept.mk (KCp.out w1 hb)
  clear hb KAw
  by_cases hcA : 200 < es.length
  · have h1 : (es.length : Int) > 200 := by omega
    clear hl' hn' hl hln hcA
    go_wp2
    go_ret
    exact ⟨rfl, KB1.out⟩
  have h1 : ¬ (es.length : Int) > 200 := by omega
  by_cases hcB : 5000 < xs.length
  · have h2 : (xs.length : Int) > 5000 := by omega
    clear hl' hn' hl hln hcA hcB
    go_wp2
    go_ret
    exact ⟨rfl, KB1.out⟩
  have h2 : ¬ (xs.length : Int) > 5000 := by omega
  have hxl : xs.length ≤ 5000 := by omega
  have KS0 := Kept.mk (spare_any _ xs w1 (KX.out.later KB1.out (Nat.le_refl _)) (by omega))
  clear hl' hn' hl hln hcA hcB
  go_wp2_with fail
  refine Calls.mono KS0.out (fun e w2 hp => ?_)
  obtain ⟨g0, cap0, rfl, hcap0, ho, hb⟩ := hp
  have Z2 := hb.size
  have K02 := Kept.mk (K01.out.trans (hb.mono K01.out.size))
  have KB2 := Kept.mk (KB1.out.trans (hb.mono KB1.out.size))
  have Kx := Kept.mk ho
  have Lx := ho.lt g0 rfl
  have KC2 := KCp.out w2 K02.out
  clear hb ho KS0 KC1
  go_wp2_with fail
  refine Calls.mono (KTw.out w2 KB2.out) (fun e w3 hp => ?_)
  obtain ⟨qi, rfl, ho, hb⟩ := hp
  have Z3 := hb.size
  have K03 := Kept.mk (K02.out.trans (hb.mono K02.out.size))
  have KB3 := Kept.mk (KB2.out.trans (hb.mono KB2.out.size))
  have Kx := Kept.mk (Kx.out.later hb (Nat.le_refl _))
  have Ki := Kept.mk ho.rdP
  clear hb ho KC2 KTw
  go_wp2_with fail
  refine Calls.mono (KP.out w3 KB3.out) (fun e w4 hp => ?_)
  obtain ⟨va, rfl, ho, hb⟩ := hp
  have Z4 := hb.size
  have K04 := Kept.mk (K03.out.trans (hb.mono K03.out.size))
  have KB4 := Kept.mk (KB3.out.trans (hb.mono KB3.out.size))
  have Kx := Kept.mk (Kx.out.later hb (Nat.le_refl _))
  have Ki := Kept.mk (Ki.out.later hb (Nat.le_refl _))
  have Ka := Kept.mk ho
  have La := Kept.mk ho.lt
  clear hb ho
  have K5 := Kept.mk (KPt.out w4 _ KB4.out (own_cut Kx.out))
  go_wp2_with fail
  refine Calls.mono K5.out (fun e w5 hp => ?_)
  obtain ⟨vb, RE, EE, rfl, ho, hd, hb⟩ := hp
  have Z5 := hb.size
  have K05 := Kept.mk (K04.out.trans (hb.mono K04.out.size))
  have KB5 := Kept.mk (KB4.out.trans (hb.mono KB4.out.size))
  have Kx := Kept.mk (Kx.out.later hb (Nat.le_refl _))
  have Ki := Kept.mk (Ki.out.later hb (Nat.le_refl _))
  have Ka := Kept.mk (Ka.out.later hb (Nat.le_refl _))
  have Kb := Kept.mk ho
  have Lb := Kept.mk ho.lt
  have KDe := Kept.mk hd
  clear hb ho hd K5
  have K5 := Kept.mk (KPp.out w5 _ KB5.out (own_cut Kx.out))
  go_wp2_with fail
  refine Calls.mono K5.out (fun e w6 hp => ?_)
  obtain ⟨RC, cv, EC, rfl, how, hdc, hb⟩ := hp
  have hokR := (dc_ok hdc).1
  obtain ⟨w6a, w7, hS⟩ := cm_store w6 cv hokR
  have hb7 := hb.trans (hS.be.mono hb.size)
  have Z6 := hb.size
  have Z7 := hS.be.size
  have K07 := Kept.mk (K05.out.trans (hb7.mono K05.out.size))
  have KB7 := Kept.mk (KB5.out.trans (hb7.mono KB5.out.size))
  have Kx := Kept.mk (Kx.out.later hb7 (Nat.le_refl _))
  have Ki := Kept.mk (Ki.out.later hb7 (Nat.le_refl _))
  have Ka := Kept.mk (Ka.out.later hb7 (Nat.le_refl _))
  have Kb := Kept.mk (Kb.out.later hb7 (Nat.le_refl _))
  have Kc := Kept.mk (how.later hS.be (Nat.le_refl _))
  have Lc := Kept.mk how.lt
  have KDc := Kept.mk hdc
  have KoR := Kept.mk hokR
  have KI2 : Kept ((Tryz.prog.info? 40).map (·.size) = some (RC.l cv).toArray.size) := ⟨cm_info2 hokR⟩
  have KOl : Kept ((RC.l cv).toArray.all (·.oneCell') = true) := ⟨CmC.all how.one⟩
  have KQa := Kept.mk hS.al
  have KQt := Kept.mk hS.st
  have KQh := Kept.mk hS.th
  have KLc := Kept.mk hS.bl
  clear hb hb7 hdc K5 hokR hS how
  obtain ⟨RL, hRL⟩ : ∃ RL, RC.l cv = RL := ⟨_, rfl⟩
  rw [hRL] at KI2 KOl KQt KQh
  rw [hRL]
  clear hRL
  have K5 := Kept.mk (KPp.out w7 _ KB7.out (own_cut Kx.out))
  go_wp2_with (first | (generalize hOb : Obj.cells (_ : Array Value) 40 = Ob; obtain rfl : Ob = Obj.cells (cm0.l pv0).toArray 40 := (by subst hOb; rfl); clear hOb; rw [KQa.out]; refine wpList_store_mid rfl 40 _ _ rfl w6.heap.size 0 RL.toArray rfl rfl KQh.out KI2.out KOl.out ?_; rw [KQt.out]))
  refine Calls.mono K5.out (fun e w8 hp => ?_)
  clear KI2 KOl KQa KQt KQh
  obtain ⟨RC2, dv, EC2, rfl, how, hdc, hb⟩ := hp
  obtain ⟨rfl, rfl⟩ := dc_one KDc.out hdc
  have hokR := KoR.out
  obtain ⟨w8a, w9, hS⟩ := cm_store w8 dv hokR
  have hb7 := hb.trans (hS.be.mono hb.size)
  have Z8 := hb.size
  have Z9 := hS.be.size
  have K09 := Kept.mk (K07.out.trans (hb7.mono K07.out.size))
  have KB9 := Kept.mk (KB7.out.trans (hb7.mono KB7.out.size))
  have Kx := Kept.mk (Kx.out.later hb7 (Nat.le_refl _))
  have Ki := Kept.mk (Ki.out.later hb7 (Nat.le_refl _))
  have Ka := Kept.mk (Ka.out.later hb7 (Nat.le_refl _))
  have Kb := Kept.mk (Kb.out.later hb7 (Nat.le_refl _))
  have Kc := Kept.mk (Kc.out.later hb7 (Nat.le_refl _))
  have KLc := Kept.mk (KLc.out.far hb7 KLc.out.lt)
  have Kd := Kept.mk (how.later hS.be (Nat.le_refl _))
  have KI2 : Kept ((Tryz.prog.info? 40).map (·.size) = some (RC.l dv).toArray.size) := ⟨cm_info2 hokR⟩
  have KOl : Kept ((RC.l dv).toArray.all (·.oneCell') = true) := ⟨CmC.all how.one⟩
  have KQa := Kept.mk hS.al
  have KQt := Kept.mk hS.st
  have KQh := Kept.mk hS.th
  have KLd := Kept.mk hS.bl
  clear hb hb7 hdc K5 hokR hS how
  obtain ⟨RM, hRL⟩ : ∃ RM, RC.l dv = RM := ⟨_, rfl⟩
  rw [hRL] at KI2 KOl KQt KQh
  rw [hRL]
  clear hRL
  have K5 := Kept.mk (KPt.out w9 _ KB9.out (own_cut Kx.out))
  go_wp2_with (first | (generalize hOb : Obj.cells (_ : Array Value) 40 = Ob; obtain rfl : Ob = Obj.cells (cm0.l pv0).toArray 40 := (by subst hOb; rfl); clear hOb; rw [KQa.out]; refine wpList_store_mid rfl 40 _ _ rfl w8.heap.size 0 RM.toArray rfl rfl KQh.out KI2.out KOl.out ?_; rw [KQt.out]))
  refine Calls.mono K5.out (fun e w10 hp => ?_)
  clear KI2 KOl KQa KQt KQh
  obtain ⟨vl, RE2, EE2, rfl, ho, hd, hb⟩ := hp
  obtain ⟨rfl, rfl⟩ := dp_one KDe.out hd
  have Z10 := hb.size
  have K10 := Kept.mk (K09.out.trans (hb.mono K09.out.size))
  have KB10 := Kept.mk (KB9.out.trans (hb.mono KB9.out.size))
  have Kx := Kept.mk (Kx.out.later hb (Nat.le_refl _))
  have Ki := Kept.mk (Ki.out.later hb (Nat.le_refl _))
  have Ka := Kept.mk (Ka.out.later hb (Nat.le_refl _))
  have Kb := Kept.mk (Kb.out.later hb (Nat.le_refl _))
  have Kc := Kept.mk (Kc.out.later hb (Nat.le_refl _))
  have Kd := Kept.mk (Kd.out.later hb (Nat.le_refl _))
  have KLc := Kept.mk (KLc.out.far hb KLc.out.lt)
  have KLd := Kept.mk (KLd.out.far hb KLd.out.lt)
  have Kl := Kept.mk ho
  have KR1 := Kept.mk (KRg.out w10 K10.out)
  clear hb ho hd K5 KRg
  go_wp2_with (first | (refine wpList_load_mid rfl 40 _ rfl w.heap.size 0 rfl CL _ KR1.out Tryz.underlying40 rfl KIc.out ?_))
  refine Calls.mono (KPc.out w10 KB10.out) (fun e w11 hp => ?_)
  obtain ⟨vc, rfl, -, hb⟩ := hp
  have Z11 := hb.size
  have K11 := Kept.mk (K10.out.trans (hb.mono K10.out.size))
  have KB11 := Kept.mk (KB10.out.trans (hb.mono KB10.out.size))
  have Kx := Kept.mk (Kx.out.later hb (Nat.le_refl _))
  have Ki := Kept.mk (Ki.out.later hb (Nat.le_refl _))
  have Ka := Kept.mk (Ka.out.later hb (Nat.le_refl _))
  have Kb := Kept.mk (Kb.out.later hb (Nat.le_refl _))
  have Kc := Kept.mk (Kc.out.later hb (Nat.le_refl _))
  have Kd := Kept.mk (Kd.out.later hb (Nat.le_refl _))
  have Kl := Kept.mk (Kl.out.later hb (Nat.le_refl _))
  have KLc := Kept.mk (KLc.out.far hb KLc.out.lt)
  have KLd := Kept.mk (KLd.out.far hb KLd.out.lt)
  have KK := Kept.mk (kept_any _ xs g0 cap0 w11 (KX.out.later KB11.out (Nat.le_refl _)) KAx.out hcap0 Kx.out.rd (by omega))
  clear hb KR1 KPc
  go_wp2_with fail
  refine Calls.mono KK.out (fun e w12 hp => ?_)
  obtain ⟨rfl, hb⟩ := hp
  have Z12 := hb.size
  have K12 := Kept.mk (K11.out.trans (hb.mono K11.out.size))
  have KB12 := Kept.mk (KB11.out.trans (hb.mono KB11.out.size))
  have Kx := Kept.mk (Kx.out.later hb (Nat.le_refl _))
  have Ki := Kept.mk (Ki.out.later hb (Nat.le_refl _))
  have Ka := Kept.mk (Ka.out.later hb (Nat.le_refl _))
  have Kb := Kept.mk (Kb.out.later hb (Nat.le_refl _))
  have Kc := Kept.mk (Kc.out.later hb (Nat.le_refl _))
  have Kd := Kept.mk (Kd.out.later hb (Nat.le_refl _))
  have Kl := Kept.mk (Kl.out.later hb (Nat.le_refl _))
  have KLc := Kept.mk (KLc.out.far hb KLc.out.lt)
  have KLd := Kept.mk (KLd.out.far hb KLd.out.lt)
  have hCs := KCp.out w12 K12.out
  have KK := Kept.mk (KSi.out w12 qi KB12.out Ki.out)
  clear hb
  go_wp2_with fail
  refine Calls.mono KK.out (fun e W hp => ?_)
  obtain ⟨rfl, hb⟩ := hp
  have Z13 := hb.size
  have KBW := Kept.mk (KB12.out.trans (hb.mono KB12.out.size))
  have Kx := Kept.mk (Kx.out.later hb (Nat.le_refl _))
  have Ka := Kept.mk (Ka.out.later hb (Nat.le_refl _))
  have Kb := Kept.mk (Kb.out.later hb (Nat.le_refl _))
  have Kc := Kept.mk (Kc.out.later hb (Nat.le_refl _))
  have Kd := Kept.mk (Kd.out.later hb (Nat.le_refl _))
  have Kl := Kept.mk (Kl.out.later hb (Nat.le_refl _))
  have KLc := Kept.mk (KLc.out.far hb KLc.out.lt)
  have KLd := Kept.mk (KLd.out.far hb KLd.out.lt)
  clear hb hCs KK KSi KCp Ki
  obtain ⟨G, hG⟩ : ∃ G : Nat → Prop, (fun k => w1.heap.size ≤ k ∧ k < w6.heap.size) = G := ⟨_, rfl⟩
  have KGw : Kept (∀ k, k < w.heap.size → ¬ G k) := ⟨fun k hk => by rw [← hG]; have := KB1.out.size; simp only; omega⟩
  have KGo : Kept (∀ k, w6.heap.size ≤ k → ¬ G k) := ⟨fun k hk => by rw [← hG]; simp only; omega⟩
  have KGi : ∀ k, w1.heap.size ≤ k → k < w6.heap.size → G k := fun k h1 h2 => by rw [← hG]; exact ⟨h1, h2⟩
  obtain ⟨a1, c1, hv1, n1, t1⟩ := owns_wt (G := G) Kx.out (fun g hg => by have := (show g0 = g by simpa [Value.ownBlock] using hg); exact KGi _ (by omega) (by omega))
  obtain ⟨a2, c2, rfl, n2, t2⟩ := owns_wt (G := G) Ka.out (fun g hg => by have := La.out g hg; exact KGi _ (by omega) (by omega))
  obtain ⟨a3, c3, rfl, n3, t3⟩ := owns_wt (G := G) Kb.out.1 (fun g hg => by have := Lb.out g hg; exact KGi _ (by omega) (by omega))
  obtain ⟨a4, c4, rfl, n4, t4⟩ := owns_wt (G := G) Kc.out.1 (fun g hg => by have := Lc.out g hg; exact KGi _ (by omega) (by omega))
  have KLp : Kept (W.cell? ⟨w6.heap.size, 32, none⟩ = some (.slice a4 RC.ps.length c4)) := ⟨KLc.out.cell KoR.out 0 _ rfl⟩
  rw [hv1]
  have hs8 : w6.heap.size ≤ w8.heap.size := by omega
  have hs7 : w6.heap.size ≤ w7.heap.size := by omega
  have hs9 : w6.heap.size ≤ w9.heap.size := by omega
  generalize hN1 : (spareL xs).length = N1 at *
  generalize hN2 : (putL es).length = N2 at n2 t2 Ka ⊢
  generalize hN3 : RE.length = N3 at n3 t3 Kb ⊢
  generalize hN4 : RC.ps.length = N4 at n4 t4 Kc KLp ⊢
  have T1 := Kept.mk t1
  have T2 := Kept.mk t2
  have T3 := Kept.mk t3
  have T4 := Kept.mk t4
  clear t1 t2 t3 t4 hG KGi Kx Ka Kb Kc KLc hv1 Z2 Z3 Z4 Z5 Z6 Z7 Z8 Z9 Z10 Z11 Z12 Z13 Lx
  go_wp2
  go_loopw [20, 90] (fun _ s90 wr => ∃ j : Nat, j ≤ N1 ∧ s90 = .int .i64 j ∧ OnlyS G W wr) (fun _ s90 _ => N1 - (intOf s90).toNat)
  case atStart => exact ⟨0, by omega, rfl, OnlyS.refl _ _⟩
  case round =>
    obtain ⟨j, hj, rfl, hO⟩ := hrel
    by_cases hjn : j < N1
    · have hjo : decide (j < N1) = true := by simp; omega
      have hji : (j : Int) < (N1 : Int) := by omega
      obtain ⟨gg, rfl, hGg, hc⟩ := T1.out (by omega)
      have hc1 := hc j (by omega)
      rw [Nat.zero_add] at hc1
      obtain ⟨y, hy⟩ := Option.isSome_iff_exists.1 (hO.some _ hc1.1)
      have hfz : wr.frozen? ⟨gg, j, none⟩ = false := by rw [hO.froz]; exact hc1.2
      have KO2 := Kept.mk hO
      have KGg := Kept.mk hGg
      clear hO hc hjn hGg hc1
      go_wp2
      exact ⟨⟨j + 1, by omega, rfl, KO2.out.set KGg.out j _⟩, by simp [intOf]; omega⟩
    · have hjo : decide (j < N1) = false := by simp; omega
      have hji : ¬ (j : Int) < (N1 : Int) := by omega
      have KO := Kept.mk hO
      clear hO hjn
      go_wp2
      go_loopw [21, 99] (fun _ s99 wr => ∃ j : Nat, j ≤ N2 ∧ s99 = .int .i64 j ∧ OnlyS G W wr) (fun _ s99 _ => N2 - (intOf s99).toNat)
      case atStart => exact ⟨0, by omega, rfl, KO.out⟩
      case round =>
        clear KO
        obtain ⟨j, hj, rfl, hO⟩ := hrel
        by_cases hjn : j < N2
        · have hjo : decide (j < N2) = true := by simp; omega
          have hji : (j : Int) < (N2 : Int) := by omega
          obtain ⟨gg, rfl, hGg, hc⟩ := T2.out (by omega)
          have hc1 := hc (j) (by omega)
          rw [Nat.zero_add] at hc1
          obtain ⟨y, hy⟩ := Option.isSome_iff_exists.1 (hO.some _ hc1.1)
          have hfz : wr.frozen? ⟨gg, j, none⟩ = false := by rw [hO.froz]; exact hc1.2
          have KO2 := Kept.mk hO
          have KGg := Kept.mk hGg
          clear hO hc hjn hGg hc1
          go_wp2
          exact ⟨⟨j + 1, by omega, rfl, KO2.out.set KGg.out (j) _⟩, by simp [intOf]; omega⟩
        · have hjo : decide (j < N2) = false := by simp; omega
          have hji : ¬ (j : Int) < (N2 : Int) := by omega
          have KO := Kept.mk hO
          clear hO hjn
          go_wp2
          go_loopw [22, 108] (fun _ s108 wr => ∃ j : Nat, j ≤ N3 ∧ s108 = .int .i64 j ∧ OnlyS G W wr) (fun _ s108 _ => N3 - (intOf s108).toNat)
          case atStart => exact ⟨0, by omega, rfl, KO.out⟩
          case round =>
            clear KO
            obtain ⟨j, hj, rfl, hO⟩ := hrel
            by_cases hjn : j < N3
            · have hjo : decide (j < N3) = true := by simp; omega
              have hji : (j : Int) < (N3 : Int) := by omega
              obtain ⟨gg, rfl, hGg, hc⟩ := T3.out (by omega)
              have hc1 := hc (j * 34 + 1) (by omega)
              rw [Nat.zero_add] at hc1
              obtain ⟨y, hy⟩ := Option.isSome_iff_exists.1 (hO.some _ hc1.1)
              have hfz : wr.frozen? ⟨gg, j * 34 + 1, none⟩ = false := by rw [hO.froz]; exact hc1.2
              have KO2 := Kept.mk hO
              have KGg := Kept.mk hGg
              clear hO hc hjn hGg hc1
              go_wp2
              exact ⟨⟨j + 1, by omega, rfl, KO2.out.set KGg.out (j * 34 + 1) _⟩, by simp [intOf]; omega⟩
            · have hjo : decide (j < N3) = false := by simp; omega
              have hji : ¬ (j : Int) < (N3 : Int) := by omega
              have KO := Kept.mk hO
              clear hO hjn
              have hcp : wr.cell? ⟨w6.heap.size, 32, none⟩ = some (.slice a4 N4 c4) := by
                rw [World.cell?_of_block (w := W) (a := ⟨w6.heap.size, 32, none⟩) (KO.out.block w6.heap.size (KGo.out _ (Nat.le_refl _)))]
                exact KLp.out
              go_wp2
              go_loopw [23, 119] (fun _ s119 wr => ∃ j : Nat, j ≤ N4 ∧ s119 = .int .i64 j ∧ OnlyS G W wr) (fun _ s119 _ => N4 - (intOf s119).toNat)
              case atStart => exact ⟨0, by omega, rfl, KO.out⟩
              case round =>
                clear KO
                obtain ⟨j, hj, rfl, hO⟩ := hrel
                by_cases hjn : j < N4
                · have hjo : decide (j < N4) = true := by simp; omega
                  have hji : (j : Int) < (N4 : Int) := by omega
                  obtain ⟨gg, rfl, hGg, hc⟩ := T4.out (by omega)
                  have KO2 := Kept.mk hO
                  have KGg := Kept.mk hGg
                  have hcp : wr.cell? ⟨w6.heap.size, 32, none⟩ = some (.slice (some ⟨gg, 0, none⟩) N4 c4) := by
                    rw [World.cell?_of_block (w := W) (a := ⟨w6.heap.size, 32, none⟩) (hO.block w6.heap.size (KGo.out _ (Nat.le_refl _)))]
                    exact KLp.out
                  have KTh : Kept (wr.there gg (j * 32) C9.size) := ⟨fun q hq => by
                    rw [KNs.out] at hq
                    have h := hc (j * 32 + q) (by omega)
                    rw [Nat.zero_add] at h
                    exact ⟨hO.some _ h.1, by rw [hO.froz]; exact h.2⟩⟩
                  clear hO hc hjn hGg
                  go_wp2_with (first | (refine wpList_build9 rfl 31 0 _ rfl _ rfl C9 KNb.out ?_) | (refine wpList_store_mid rfl 31 _ _ rfl gg (j * 32) C9 rfl rfl KTh.out KNi.out KNo.out ?_))
                  exact ⟨⟨j + 1, by omega, rfl, OnlyS.sets KGg.out _ _ KO2.out⟩, by simp [intOf]; omega⟩
                · have hjo : decide (j < N4) = false := by simp; omega
                  have hji : ¬ (j : Int) < (N4 : Int) := by omega
                  have KO := Kept.mk hO
                  clear hO hjn
                  have hBr := KBW.out.trans (KO.out.below (b := w.heap.size) KGw.out)
                  have KBr := Kept.mk hBr
                  have KLd : Kept (CmB wr w8.heap.size RC dv) := ⟨by
                    have h := KLd.out
                    unfold CmB at h ⊢
                    rw [KO.out.block _ (KGo.out _ hs8)]
                    exact h⟩
                  have Kd := Kept.mk (Kd.out.far (w' := wr) fun g hg => KO.out.block g (KGo.out _ (by have := (Kd.out.lt g hg).1; omega)))
                  have Kl := Kept.mk (Kl.out.far (w' := wr) fun g hg => KO.out.block g (KGo.out _ (by have := (Kl.out.lt g hg).1; omega)))
                  have KE := Kept.mk (KDt.out wr hBr)
                  clear KO hBr hcp hj hjo KGw KGo KLp T1 T2 T3 T4 KBW
                  go_wp2_with fail
                  refine Calls.mono KE.out (fun e w20 hp => ?_)
                  obtain ⟨vw, R20, E20, rfl, ho, hd, hb⟩ := hp
                  obtain ⟨rfl, rfl⟩ := dp_one KDe.out hd
                  have KB20 := Kept.mk (KBr.out.trans (hb.mono KBr.out.size))
                  have Kd := Kept.mk (Kd.out.later hb (Nat.le_refl _))
                  have Kl := Kept.mk (Kl.out.later hb (Nat.le_refl _))
                  have KLd := Kept.mk (KLd.out.far hb KLd.out.lt)
                  have Kw := Kept.mk ho
                  clear hb ho hd KE
                  have KE := Kept.mk (KDp.out w20 KB20.out)
                  go_wp2_with fail
                  refine Calls.mono KE.out (fun e w21 hp => ?_)
                  obtain ⟨RC3, bv, EC3, rfl, how, hdc, hb⟩ := hp
                  obtain ⟨rfl, rfl⟩ := dc_one KDc.out hdc
                  have hokR := KoR.out
                  obtain ⟨w21a, w22, hS⟩ := cm_store w21 bv hokR
                  have hb7 := hb.trans (hS.be.mono hb.size)
                  have KB22 := Kept.mk (KB20.out.trans (hb7.mono KB20.out.size))
                  have Kd := Kept.mk (Kd.out.later hb7 (Nat.le_refl _))
                  have Kl := Kept.mk (Kl.out.later hb7 (Nat.le_refl _))
                  have Kw := Kept.mk (Kw.out.later hb7 (Nat.le_refl _))
                  have KLd := Kept.mk (KLd.out.far hb7 KLd.out.lt)
                  have Kk := Kept.mk (how.later hS.be (Nat.le_refl _))
                  have KI2 : Kept ((Tryz.prog.info? 40).map (·.size) = some (RC.l bv).toArray.size) := ⟨cm_info2 hokR⟩
                  have KOl : Kept ((RC.l bv).toArray.all (·.oneCell') = true) := ⟨CmC.all how.one⟩
                  have KQa := Kept.mk hS.al
                  have KQt := Kept.mk hS.st
                  have KQh := Kept.mk hS.th
                  have KLk := Kept.mk hS.bl
                  clear hb hb7 hdc KE hokR hS how
                  obtain ⟨RN, hRL⟩ : ∃ RN, RC.l bv = RN := ⟨_, rfl⟩
                  rw [hRL] at KI2 KOl KQt KQh
                  rw [hRL]
                  clear hRL
                  have KE := Kept.mk (KP.out w22 KB22.out)
                  go_wp2_with (first | (generalize hOb : Obj.cells (_ : Array Value) 40 = Ob; obtain rfl : Ob = Obj.cells (cm0.l pv0).toArray 40 := (by subst hOb; rfl); clear hOb; rw [KQa.out]; refine wpList_store_mid rfl 40 _ _ rfl w21.heap.size 0 RN.toArray rfl rfl KQh.out KI2.out KOl.out ?_; rw [KQt.out]))
                  refine Calls.mono KE.out (fun e w23 hp => ?_)
                  clear KI2 KOl KQa KQt KQh
                  obtain ⟨vg, rfl, ho, hb⟩ := hp
                  have KB23 := Kept.mk (KB22.out.trans (hb.mono KB22.out.size))
                  have Kd := Kept.mk (Kd.out.later hb (Nat.le_refl _))
                  have Kl := Kept.mk (Kl.out.later hb (Nat.le_refl _))
                  have Kw := Kept.mk (Kw.out.later hb (Nat.le_refl _))
                  have Kk := Kept.mk (Kk.out.later hb (Nat.le_refl _))
                  have KLd := Kept.mk (KLd.out.far hb KLd.out.lt)
                  have KLk := Kept.mk (KLk.out.far hb KLk.out.lt)
                  have Kg := Kept.mk ho
                  clear hb ho KE
                  go_wp2_with fail
                  refine Calls.mono (KD.out w23 KB23.out) (fun e w24 hp => ?_)
                  obtain ⟨vh, rfl, ho, hb⟩ := hp
                  have KB24 := Kept.mk (KB23.out.trans (hb.mono KB23.out.size))
                  have Kd := Kept.mk (Kd.out.later hb (Nat.le_refl _))
                  have Kl := Kept.mk (Kl.out.later hb (Nat.le_refl _))
                  have Kw := Kept.mk (Kw.out.later hb (Nat.le_refl _))
                  have Kk := Kept.mk (Kk.out.later hb (Nat.le_refl _))
                  have Kg := Kept.mk (Kg.out.later hb (Nat.le_refl _))
                  have KLd := Kept.mk (KLd.out.far hb KLd.out.lt)
                  have KLk := Kept.mk (KLk.out.far hb KLk.out.lt)
                  have Kh := Kept.mk ho
                  have KE := Kept.mk (sameE_any vl vw RE w24 Kl.out.rdE Kw.out.rdE (by have := dp_len KDe.out; omega))
                  clear hb ho KD KP
                  go_wp2_with fail
                  refine Calls.mono KE.out (fun e w25 hp => ?_)
                  obtain ⟨rfl, hb⟩ := hp
                  have KB25 := Kept.mk (KB24.out.trans (hb.mono KB24.out.size))
                  have Kd := Kept.mk (Kd.out.later hb (Nat.le_refl _))
                  have Kk := Kept.mk (Kk.out.later hb (Nat.le_refl _))
                  have Kg := Kept.mk (Kg.out.later hb (Nat.le_refl _))
                  have Kh := Kept.mk (Kh.out.later hb (Nat.le_refl _))
                  have KLd := Kept.mk (KLd.out.far hb KLd.out.lt)
                  have KLk := Kept.mk (KLk.out.far hb KLk.out.lt)
                  have KE := Kept.mk (sameCommit_any RC dv bv w25 KoR.out Kd.out.rdP Kk.out.rdP (by have := (dc_ok KDc.out).2; omega))
                  have KRa := Kept.mk KLd.out.range
                  have KRb := Kept.mk KLk.out.range
                  have KI3 : Kept ((Tryz.prog.info? 40).map (·.size) = some (RC.l dv).length) := ⟨cm_info KoR.out⟩
                  have KI4 : Kept ((Tryz.prog.info? 40).map (·.size) = some (RC.l bv).length) := ⟨cm_info KoR.out⟩
                  obtain ⟨RD, hRD⟩ : ∃ RD, RC.l dv = RD := ⟨_, rfl⟩
                  obtain ⟨RB, hRB⟩ : ∃ RB, RC.l bv = RB := ⟨_, rfl⟩
                  rw [hRD, hRB] at KE
                  rw [hRD] at KRa KI3
                  rw [hRB] at KRb KI4
                  clear hRD hRB hb
                  go_wp2_with (first | (refine BigFrame.wpList_want rfl (fun K hK => wp_load_mid 40 _ rfl w8.heap.size 0 rfl RD _ KRa.out Tryz.underlying40 rfl KI3.out (hK _ _ ?_)); clear hK K) | (refine BigFrame.wpList_want rfl (fun K hK => wp_load_mid 40 _ rfl w21.heap.size 0 rfl RB _ KRb.out Tryz.underlying40 rfl KI4.out (hK _ _ ?_)); clear hK K))
                  refine Calls.mono KE.out (fun e w26 hp => ?_)
                  obtain ⟨rfl, hb⟩ := hp
                  have KB26 := Kept.mk (KB25.out.trans (hb.mono KB25.out.size))
                  have Kg := Kept.mk (Kg.out.later hb (Nat.le_refl _))
                  have Kh := Kept.mk (Kh.out.later hb (Nat.le_refl _))
                  have KE := Kept.mk (Sh.same_any vg vh (putL es) (putL es) w26 (shRd Kg.out.rd KTb.out) (shRd Kh.out.rd KTb.out))
                  rw [decide_eq_true rfl] at KE
                  clear hb
                  go_wp2_with fail
                  refine Calls.mono KE.out (fun e w27 hp => ?_)
                  obtain ⟨rfl, hw⟩ := hp
                  have hw := hw.symm
                  subst hw
                  go_wp2
                  go_ret
                  exact ⟨rfl, KB26.out⟩
end Go.Proofs.YtkbalngddlhlpaaGreatDoor
