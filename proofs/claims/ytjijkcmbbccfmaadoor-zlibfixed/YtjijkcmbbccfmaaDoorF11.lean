/-
  The document's bits in memory; bit.
-/
import Derived.Test.YtjijkcmbbccfmaaDoorF7
import Derived.Laws.OwnMore
namespace Go.Proofs.YtjijkcmbbccfmaaDoor
open Go.RowKit

/-- The document's block of bits. -/
def DQ (w : World) (rb : Nat) (outV : Value) (n : Int) : Prop :=
  w.heap[rb]? = some (.cells #[outV, .int .i64 n] 110)
section
variable {w : World} {rb : Nat} {outV : Value} {n : Int}
theorem DQ.lt (h : DQ w rb outV n) : rb < w.heap.size := by
  rcases Nat.lt_or_ge rb w.heap.size with h' | h'
  · exact h'
  · unfold DQ at h
    rw [Array.getElem?_eq_none h'] at h
    cases h
theorem DQ.c0 (h : DQ w rb outV n) : w.cell? ⟨rb, 0, none⟩ = some outV := by unfold DQ at h; simp [World.cell?, h]
theorem DQ.c1 (h : DQ w rb outV n) : w.cell? ⟨rb, 1, none⟩ = some (.int .i64 n) := by unfold DQ at h; simp [World.cell?, h]
theorem DQ.fz (h : DQ w rb outV n) (i : Nat) : w.frozen? ⟨rb, i, none⟩ = false := by unfold DQ at h; simp [World.frozen?, h]
theorem DQ.s0 (h : DQ w rb outV n) (u : Value) : DQ (w.setCell ⟨rb, 0, none⟩ u) rb u n := by
  unfold DQ at h ⊢
  simp only [World.setCell, Array.getElem?_modify, h]
  simp
theorem DQ.s1 (h : DQ w rb outV n) (m : Int) : DQ (w.setCell ⟨rb, 1, none⟩ (.int .i64 m)) rb outV m := by
  unfold DQ at h ⊢
  simp only [World.setCell, Array.getElem?_modify, h]
  simp
theorem DQ.far {w' : World} (h : DQ w rb outV n) (hb : w'.heap[rb]? = w.heap[rb]?) : DQ w' rb outV n := by
  unfold DQ at h ⊢
  rw [hb]
  exact h
end

/-- The document's writer: the bits L are put out. -/
structure Bt (W0 w : World) (rb : Nat) (ob : Option Nat) (L : List Int) : Prop where
  blk : ∃ outV, DQ w rb outV L.length ∧ Own .u8 5 w W0.heap.size outV (packF L) ∧ outV.ownBlock = ob
  ib : IsBits L
  bel : Below W0.heap.size W0 w
  hb : W0.heap.size ≤ rb
  ho : ob ≠ some rb
  lb : L.length ≤ 1073741824
section
variable {W0 w : World} {rb : Nat} {ob : Option Nat} {L : List Int}
theorem Bt.ob_ge (h : Bt W0 w rb ob L) : ∀ k, ob = some k → W0.heap.size ≤ k ∧ k < w.heap.size := by
  intro k hk
  obtain ⟨outV, _, own, hob⟩ := h.blk
  exact own.lt k (by rw [hob]; exact hk)
theorem Bt.rb_lt (h : Bt W0 w rb ob L) : rb < w.heap.size := by
  obtain ⟨_, hB, -⟩ := h.blk
  exact hB.lt
theorem Bt.far {w' : World} (h : Bt W0 w rb ob L) (hf : Below w.heap.size w w') : Bt W0 w' rb ob L := by
  obtain ⟨outV, hB, own, hob⟩ := h.blk
  exact ⟨⟨outV, hB.far (hf.block _ hB.lt), own.later hf (Nat.le_refl _), hob⟩, h.ib, h.bel.trans (hf.mono h.bel.size), h.hb, h.ho, h.lb⟩
end
def AfterB (W0 w w' : World) (rb : Nat) (ob : Option Nat) (L : List Int) (e : Ending) : Prop :=
  e = .returned (.tuple #[]) ∧ ∃ ob', Bt W0 w' rb ob' L ∧ Mq rb ob ob' w w'
theorem AfterB.next {W0 w w1 w2 : World} {rb : Nat} {ob ob1 : Option Nat} {L : List Int} {e : Ending} (h : Mq rb ob ob1 w w1) (k : AfterB W0 w1 w2 rb ob1 L e) : AfterB W0 w w2 rb ob L e := by
  obtain ⟨rfl, ob', h1, h3⟩ := k
  exact ⟨rfl, ob', h1, h.trans h3⟩

theorem or_bit8 (V v : Int) (r : Nat) (h0 : 0 ≤ V) (h1 : V < 2 ^ r) (hr : r < 8) (hv : v = 0 ∨ v = 1) : bits .or .u8 V (v * 2 ^ r % 256) = V + 2 ^ r * v ∧ 0 ≤ V + 2 ^ r * v ∧ V + 2 ^ r * v < 256 := by
  have hp : (2 : Int) ^ r ≤ 2 ^ 7 := by
    have : (2 : Nat) ^ r ≤ 2 ^ 7 := Nat.pow_le_pow_right (by omega) (by omega)
    exact_mod_cast this
  have hp0 : (0 : Int) < 2 ^ r := Int.pow_pos (by omega)
  simp only [Int.reducePow] at hp
  have hq : ((2 : Int) ^ r) = ((2 ^ r : Nat) : Int) := by simp
  have hl : V.toNat < 2 ^ r := by
    have : V < ((2 ^ r : Nat) : Int) := by rw [← hq]; exact h1
    omega
  rcases hv with rfl | rfl
  · refine ⟨?_, by omega, by omega⟩
    rw [Int.zero_mul, Int.mul_zero, Int.add_zero, show (0 : Int) % 256 = 0 from rfl, u8_or V 0 h0 (by omega) (by omega) (by omega)]
    simp
    omega
  · refine ⟨?_, by omega, by omega⟩
    rw [Int.one_mul, Int.mul_one, Int.emod_eq_of_lt (by omega) (by omega), u8_or V _ h0 (by omega) (by omega) (by omega), Nat.or_comm]
    have hz : ((2 : Int) ^ r).toNat % 2 ^ r = 0 := by rw [hq, Int.toNat_natCast]; exact Nat.mod_self _
    rw [nat_join r _ _ hz hl]
    omega
/-- A bit more, in bytes. -/
theorem pack_bit (L : List Int) (v : Int) (k r : Nat) (hk : L.length = 8 * k + r) (hr : r < 8) :
    packF (L ++ [v]) = packF (L.take (8 * k)) ++ [valL (L.drop (8 * k)) + 2 ^ r * v] ∧ packF L = packF (L.take (8 * k)) ++ (if r = 0 then [] else [valL (L.drop (8 * k))]) := by
  have e : L ++ [v] = L.take (8 * k) ++ (L.drop (8 * k) ++ [v]) := by rw [← List.append_assoc, List.take_append_drop]
  constructor
  · rw [e, packF_append k _ _ (by simp; omega), packF_one (l := L.drop (8 * k) ++ [v]) (by simp) (by simp; omega), valL_append, List.length_drop, show L.length - 8 * k = r from by omega]
    simp [valL]
  · have h2 := packF_append k (L.take (8 * k)) (L.drop (8 * k)) (by simp; omega)
    rw [List.take_append_drop] at h2
    rw [h2]
    by_cases h0 : r = 0
    · rw [if_pos h0, List.drop_of_length_le (by omega), packF_nil]
    · rw [if_neg h0, packF_one (l := L.drop (8 * k)) (by simp; omega) (by simp; omega)]

open Go.RowKit

theorem Own.setq {k : IntKind} {e : TypeId} {w : World} {base g n c : Nat} {xs : List Int} (h : Own k e w base (.slice (some ⟨g, 0, none⟩) n c) xs) (j : Nat) (x : Int) : Own k e (w.setCell ⟨g, j, none⟩ (.int k x)) base (.slice (some ⟨g, 0, none⟩) n c) (xs.set j x) := by
  have hn : n = xs.length := by
    obtain ⟨a', c', hv, -⟩ := h.rd.form
    injection hv
  subst hn
  have := World.ownsRow.stored h j (.int k x)
  unfold Own
  rw [List.length_set]
  have e2 : cellsK k (xs.set j x) = (cellsK k xs).set j (.int k x) := by simp [cellsK, List.map_set]
  rw [e2]
  exact this.1

/-- Where what is owned lies. -/
theorem Own.addrq {k : IntKind} {e : TypeId} {w : World} {base n c : Nat} {a : Option Addr} {xs : List Int} (h : Own k e w base (.slice a n c) xs) (h0 : 0 < xs.length) :
    ∃ g, a = some ⟨g, 0, none⟩ ∧ n = xs.length ∧ base ≤ g ∧ g < w.heap.size ∧ (∀ i, i < xs.length → w.cell? ⟨g, i, none⟩ = some (.int k (xs.getD i 0))) ∧ ∀ i, w.frozen? ⟨g, i, none⟩ = false := by
  have hlen : n = xs.length := by
    obtain ⟨a', c', hv, -⟩ := h.rd.form
    injection hv
  rcases h.2 with ⟨hv, hn⟩ | ⟨g, cap, cur, hv, hbg, hg, hnc, hcm, hcs, htake⟩
  · omega
  · injection hv with h1 h2 h3
    subst h1
    refine ⟨g, rfl, hlen, hbg, (h.lt g rfl).2, fun i hi => ?_, fun i => by simp [World.frozen?, hg]⟩
    have hk := World.ownsRow.cells h (g := g) rfl i (.int k (xs.getD i 0)) (by simp [cellsK, List.getElem?_eq_getElem hi, List.getD])
    rw [add_plain, Nat.zero_add] at hk
    exact hk
theorem getD_end (xs : List Int) (C : Int) : (xs ++ [C]).getD xs.length 0 = C := by simp [List.getD]
theorem set_end (xs : List Int) (C D : Int) : (xs ++ [C]).set xs.length D = xs ++ [D] := by simp

theorem Fq.own {rb g : Nat} {w w1 : World} (h : Fq rb (some g) w w1) (i : Nat) (u : Value) : Fq rb (some g) w (w1.setCell ⟨g, i, none⟩ u) :=
  h.trans ⟨rfl, rfl, rfl, by simp [World.setCell], fun k _ _ hk => Below.heap_setCell _ _ _ _ (fun e => hk (by rw [e]))⟩
/-- Behind the stores. -/
theorem bit_end {W0 w w1 : World} {rb g oc N k : Nat} {ob : Option Nat} {A L : List Int} {V X v : Int} (hT : Bt W0 w rb ob L) (hM : Mq rb ob (some g) w w1) (hR : DQ w1 rb (.slice (some ⟨g, 0, none⟩) (A.length + 1) oc) N)
    (hO : Own .u8 5 w1 W0.heap.size (.slice (some ⟨g, 0, none⟩) (A.length + 1) oc) (A ++ [V])) (hN : L.length = N) (hAl : A.length = k) (hp : packF (L ++ [v]) = A ++ [X]) (hbits : IsBits (L ++ [v])) (hl : L.length + 1 ≤ 1073741824) (hgr : g ≠ rb) (hbg : W0.heap.size ≤ g) (hbel : Below W0.heap.size W0 w1) :
    AfterB W0 w ((w1.setCell ⟨g, k, none⟩ (.int .u8 X)).setCell ⟨rb, 1, none⟩ (.int .i64 ((N : Int) + 1))) rb ob (L ++ [v]) (.returned (.tuple #[])) := by
  subst hAl
  have hFF := ((Fq.refl rb (some g) w1).own A.length (.int .u8 X)).set 1 (.int .i64 ((N : Int) + 1))
  refine ⟨rfl, some g, ⟨⟨.slice (some ⟨g, 0, none⟩) (A.length + 1) oc, ?_, ?_, rfl⟩, hbits, ?_, hT.hb, fun e => hgr (by simpa using e), by simp; omega⟩, hM.trans hFF.mv⟩
  · rw [List.length_append, List.length_singleton, hN, show ((N + 1 : Nat) : Int) = (N : Int) + 1 from by omega]
    exact (hR.far (w' := w1.setCell ⟨g, A.length, none⟩ (.int .u8 X)) (Below.heap_setCell _ _ _ _ (Ne.symm hgr))).s1 _
  · rw [hp]
    have h1 := hO.setq A.length X
    rw [set_end] at h1
    exact h1.far fun q hq => Below.heap_setCell _ _ _ _ (fun (e : q = rb) => hgr ((show g = q from by simpa [Value.ownBlock] using hq).trans e))
  · exact hFF.below hbel hT.hb (fun q hq => by simp at hq; omega) hbel.size

set_option maxHeartbeats 1000000 in
set_option maxRecDepth 100000 in
theorem bit_any {W0 w : World} {rb : Nat} {ob : Option Nat} {L : List Int} (v : Int) (hv : v = 0 ∨ v = 1) (h : Bt W0 w rb ob L) (hl : L.length + 1 ≤ 1073741824) :
    Calls Tryd.prog 78 #[.pointer (some ⟨rb, 0, none⟩), .int .i64 v] w fun e w' => AfterB W0 w w' rb ob (L ++ [v]) e := by
  obtain ⟨i0, z0, hi, hz, hs, hb, hc⟩ := info8
  obtain ⟨outV, hB, own, hob⟩ := h.blk
  obtain ⟨k, r, hk, hr⟩ : ∃ k r, L.length = 8 * k + r ∧ r < 8 := ⟨L.length / 8, L.length % 8, by omega, by omega⟩
  obtain ⟨p1, p2⟩ := pack_bit L v k r hk hr
  have hvr := valL_range (h.ib.drop (8 * k))
  rw [List.length_drop, show L.length - 8 * k = r from by omega] at hvr
  have hor := or_bit8 _ v r hvr.1 hvr.2 hr hv
  have hvb : v < 2 ∧ 0 ≤ v := by omega
  have hAl : (packF (L.take (8 * k))).length = k := by
    rw [packF_len _ _ (Nat.le_refl _), List.length_take]
    omega
  have hbits : IsBits (L ++ [v]) := h.ib.append (fun b hb => by rw [show b = v from by simpa using hb]; exact hv)
  obtain ⟨N, hN⟩ : ∃ N, L.length = N := ⟨_, rfl⟩
  rw [hN] at hB hk
  have hmod : (N : Int) % 8 = (r : Int) := by omega
  have hmodN : (N : Int).tmod 8 = (r : Int) := by rw [Int.tmod_eq_emod_of_nonneg (by omega)]; omega
  have hwz := h.bel.size
  by_cases h0 : r = 0
  · subst h0
    rw [if_pos rfl, List.append_nil] at p2
    rw [p2] at own
    have hV0 : valL (L.drop (8 * k)) = 0 := by rw [List.drop_of_length_le (by omega)]; rfl
    obtain ⟨A, hA⟩ : ∃ A, packF (L.take (8 * k)) = A := ⟨_, rfl⟩
    rw [hV0] at hor p1
    rw [hA] at own p1 hAl
    obtain ⟨oa, oc, rfl, -, -, -⟩ := own.rd.form
    rw [hAl] at hB own hob
    have c0 := hB.c0
    have c1 := hB.c1
    have f0 := hB.fz 0
    have f1 := hB.fz 1
    have hkb : (k : Int) ≤ 134217728 := by omega
    have hkn : k ≤ 134217728 := by omega
    have hNb : (N : Int) ≤ 1073741824 := by omega
    have KN := Kept.mk hN
    have hr1 := Kept.mk (Rd.one .u8 w 0 5)
    have KOa := Kept.mk (own.alloc (.cells #[.int .u8 0] 5))
    have KG : Kept (∀ (v1 : Value) (w1 : World), Own .u8 5 w1 W0.heap.size v1 (A ++ [0]) → (w.alloc (.cells #[.int .u8 0] 5)).grownBy w1 (Value.slice oa k oc).ownBlock → (v1.ownBlock = (Value.slice oa k oc).ownBlock ∨ v1.ownBlock = some (w.alloc (.cells #[.int .u8 0] 5)).heap.size) →
        ∃ g nc, v1 = .slice (some ⟨g, 0, none⟩) (k + 1) nc ∧ DQ w1 rb (.slice oa k oc) N ∧ Mq rb ob (some g) w w1 ∧ w1.cell? ⟨g, k, none⟩ = some (.int .u8 0) ∧ w1.frozen? ⟨g, k, none⟩ = false ∧ g ≠ rb ∧ W0.heap.size ≤ g ∧ Own .u8 5 w1 W0.heap.size (.slice (some ⟨g, 0, none⟩) (k + 1) nc) (A ++ [0])) := ⟨fun v1 w1 hown hg hat => by
      have hlt := hB.lt
      obtain ⟨na, nc, rfl, -, -, -⟩ := hown.rd.form
      obtain ⟨g, rfl, -, hbg, hgl, hcells, hfz⟩ := hown.addrq (by simp)
      have e1 : (A ++ [0]).length = k + 1 := by rw [List.length_append, hAl]; rfl
      rw [e1] at hown hat hcells ⊢
      have cg := hcells k (by omega)
      rw [← hAl, getD_end, hAl] at cg
      have hF : Fq rb ob w w1 := ((Fq.refl rb ob w).alloc (.cells #[.int .u8 0] 5)).trans ⟨hg.os, hg.tape, hg.output, hg.size, fun q hq _ h5 => hg.block q hq (by rw [hob]; exact h5)⟩
      have hg1 : some g = ob ∨ ∃ q, some g = some q ∧ w.heap.size ≤ q := by
        rcases hat with e | e
        · exact Or.inl (by rw [← hob, ← e]; rfl)
        · refine Or.inr ⟨g, rfl, ?_⟩
          have e2 : g = (w.alloc (.cells #[.int .u8 0] 5)).heap.size := by simpa [Value.ownBlock] using e
          simp at e2
          omega
      have hgr : g ≠ rb := by
        rintro rfl
        rcases hg1 with e | ⟨q, e, hq⟩
        · exact h.ho e.symm
        · simp at e
          omega
      refine ⟨g, nc, rfl, hB.far ?_, ⟨hF, hg1⟩, cg, hfz k, hgr, hbg, hown⟩
      rw [hg.block rb (by simp; omega) (fun e => h.ho (by rw [← hob, ← e]))]
      exact Below.heap_alloc w _ rb hlt⟩
    have KH := Kept.mk h
    have KO := Kept.mk own
    have KB := Kept.mk hob
    have Kor := Kept.mk hor
    have Kp := Kept.mk p1
    have KAl := Kept.mk hAl
    have KHA : Kept (A.length + 1 = k + 1) := ⟨by omega⟩
    clear h own hob hB hor p1 p2 hvr hV0 hA hk hN hAl
    go_enter Tryd.func78, Tryd.ntmps78
    go_upto_region 2 with (at_builtin; refine wpList_append_rd _ rfl _ _ 22 rfl .u8 anyB 1 W0.heap.size 5 i0 z0 Tryd.underlying22 hi hz hs hb hc (by omega) (.slice oa k oc) A rfl KOa.out _ [0] rfl hr1.out (by rw [KAl.out]; simp; omega) (by simp; omega) ?_; intro v1 w1 hown hgrow hat; obtain ⟨g, nc, rfl, hR1, hM1, cg, fg, hgr, hbg, hO1⟩ := KG.out v1 w1 hown hgrow hat; have c01 := hR1.c0; have f01 := hR1.fz 0; have c11 := hR1.c1; have f11 := hR1.fz 1; have KR1 := Kept.mk hR1; have KM1 := Kept.mk hM1; have KO1 := Kept.mk hO1; clear hR1 hM1 hO1 hown hgrow hat)
    obtain ⟨w2, hw2, hR2, hM2, cg2, fg2, hO2⟩ : ∃ w2, w1.setCell ⟨rb, 0, none⟩ (.slice (some ⟨g, 0, none⟩) (k + 1) nc) = w2 ∧ DQ w2 rb (.slice (some ⟨g, 0, none⟩) (k + 1) nc) N ∧ Mq rb ob (some g) w w2 ∧ w2.cell? ⟨g, k, none⟩ = some (.int .u8 0) ∧ w2.frozen? ⟨g, k, none⟩ = false ∧ Own .u8 5 w2 W0.heap.size (.slice (some ⟨g, 0, none⟩) (k + 1) nc) (A ++ [0]) := by
      have hbl : (w1.setCell ⟨rb, 0, none⟩ (.slice (some ⟨g, 0, none⟩) (k + 1) nc)).heap[g]? = w1.heap[g]? := Below.heap_setCell _ _ _ _ hgr
      refine ⟨_, rfl, KR1.out.s0 _, KM1.out.set 0 _, ?_, ?_, KO1.out.far fun q hq => Below.heap_setCell _ _ _ _ (fun (e : q = rb) => hgr ((show g = q from by simpa [Value.ownBlock] using hq).trans e))⟩
      · rw [World.cell?_of_block (w := w1) (a := ⟨g, k, none⟩) hbl]
        exact cg
      · rw [World.frozen?_of_block (w := w1) (a := ⟨g, k, none⟩) hbl]
        exact fg
    rw [hw2]
    have c02 := hR2.c0
    have c12 := hR2.c1
    have f12 := hR2.fz 1
    have KR2 := Kept.mk hR2
    have KM2 := Kept.mk hM2
    have KO2 := Kept.mk hO2
    clear hw2 hR2 hM2 hO2 c0 c1 f0 f1 c01 c11 f01 f11 cg fg
    refine wp_region_last _ 22 (by kernel_rfl) (by kernel_rfl) rfl rfl ?_
    simp only [List.take_succ_cons, List.take_zero]
    repeat (first | go_big_quiet_step (fail) | quiet_step (fail))
    refine wpQuiet_nil ?_
    intro m
    go_wp2
    have h1 := Kor.out.1
    rw [show v * 2 ^ 0 % 256 = v from by rw [Int.pow_zero, Int.mul_one]; omega] at h1
    rw [h1]
    refine bodyPost_end (results_none rfl _ _ _) rfl ?_
    have hO2 := KO2.out
    have hR2 := KR2.out
    rw [← KHA.out] at hO2 hR2
    exact bit_end KH.out (ob := ob) (w1 := w2.drewN m) (KM2.out.drewN m) hR2 hO2 KN.out KAl.out Kp.out hbits hl hgr hbg (below_drewN (KM2.out.fr.below KH.out.bel KH.out.hb (fun q hq => (KH.out.ob_ge q hq).1) hwz) m)
  · rw [if_neg h0] at p2
    rw [p2] at own
    obtain ⟨V, hV⟩ : ∃ V, valL (L.drop (8 * k)) = V := ⟨_, rfl⟩
    obtain ⟨A, hA⟩ : ∃ A, packF (L.take (8 * k)) = A := ⟨_, rfl⟩
    rw [hV] at own hor p1
    rw [hA] at own p1 hAl
    obtain ⟨oa, oc, rfl, -, -, -⟩ := own.rd.form
    obtain ⟨g, rfl, -, hbg, hgl, hcells, hfz⟩ := own.addrq (by simp)
    have cg := hcells A.length (by simp)
    rw [getD_end] at cg
    have fg := hfz A.length
    have c0 := hB.c0
    have c1 := hB.c1
    have f1 := hB.fz 1
    have hgr : g ≠ rb := fun e => h.ho (by rw [← hob, e]; rfl)
    have hlen : (A ++ [V]).length = A.length + 1 := by simp
    rw [hlen, hAl] at c0
    rw [hAl] at cg fg
    have KAl := Kept.mk hAl
    have hr0 : ¬ (r : Int) = 0 := by omega
    have hkb : (k : Int) ≤ 134217728 := by omega
    have hNb : (N : Int) ≤ 1073741824 := by omega
    have KN := Kept.mk hN
    have KH := Kept.mk h
    have KO := Kept.mk own
    have KB := Kept.mk hob
    have KR := Kept.mk hB
    have Kor := Kept.mk hor
    have Kp := Kept.mk p1
    clear h own hob hB hor p1 p2 hcells hfz hvr hV hA hlen hk hN hAl
    go_enter Tryd.func78, Tryd.ntmps78
    go_upto_region 2 with fail
    refine wp_region_last _ 22 (by kernel_rfl) (by kernel_rfl) rfl rfl ?_
    simp only [List.take_succ_cons, List.take_zero]
    repeat (first | go_big_quiet_step (fail) | quiet_step (fail))
    refine wpQuiet_nil ?_
    intro m
    go_wp2
    rw [Kor.out.1]
    refine bodyPost_end (results_none rfl _ _ _) rfl ?_
    have hO2 := KO.out
    have hR2 := KR.out
    simp only [List.length_append, List.length_singleton] at hO2 hR2
    refine bit_end KH.out (ob := ob) (w1 := w.drewN m) ?_ hR2 hO2 KN.out KAl.out Kp.out hbits hl hgr hbg (below_drewN KH.out.bel m)
    exact ⟨(Fq.refl rb ob w).drewN m, Or.inl KB.out⟩

open Go.RowKit

theorem and_oneF (E : Int) (h0 : 0 ≤ E) (h1 : E ≤ 65535) : bits .and .i64 E 1 = E % 2 := by
  have h := and_low E.toNat 1 (by omega) (by omega)
  rw [Int.toNat_of_nonneg h0] at h
  rw [show (2 : Int) ^ 1 - 1 = 1 from rfl] at h
  rw [h]
  omega

set_option maxHeartbeats 1000000 in
set_option maxRecDepth 100000 in
theorem dnumber4_any {W0 w : World} {rb : Nat} {ob : Option Nat} {L : List Int} (v n : Nat) (hv : v < 65536) (hn : n ≤ 16) (h : Bt W0 w rb ob L) (hl : L.length + n ≤ 1073741824) :
    Calls Tryd.prog 79 #[.pointer (some ⟨rb, 0, none⟩), .int .i64 v, .int .i64 n] w fun e w' => AfterB W0 w w' rb ob (L ++ bitsL v n) e := by
  have KH := Kept.mk h
  clear h
  go_enter Tryd.func79, Tryd.ntmps79
  go_wp2
  go_loopw [6] (fun iv wr => ∃ (i : Nat) (ob' : Option Nat), iv = .int .i64 i ∧ i ≤ n ∧ Bt W0 wr rb ob' (L ++ bitsL v i) ∧ Mq rb ob ob' w wr) (fun iv _ => n - (intOf iv).toNat)
  case atStart => exact ⟨0, ob, rfl, by omega, by simpa [bitsL] using KH.out, Mq.refl _ _ _⟩
  case round =>
    obtain ⟨i, ob1, rfl, hi, hB, hM⟩ := hrel
    have KM := Kept.mk hM
    have KB := Kept.mk hB
    clear hM hB
    by_cases hlt : i < n
    · have hlti : (i : Int) < (n : Int) := by omega
      have hp0 : (0 : Int) < 2 ^ i := Int.pow_pos (by omega)
      have hd0 : 0 ≤ (v : Int) / 2 ^ i := Int.ediv_nonneg (by omega) (by omega)
      have hd1 : (v : Int) / 2 ^ i ≤ 65535 := Int.le_trans (Int.ediv_le_self _ (by omega)) (by omega)
      have hand := and_oneF _ hd0 hd1
      have KC := Kept.mk (bit_any ((v : Int) / 2 ^ i % 2) (by omega) KB.out (by rw [List.length_append, bitsL_length]; omega))
      have hi16 : (i : Int) < 16 := by omega
      go_wp2_with (go_at_call 78; refine Calls.mono KC.out (fun e w2 hp => ?_); obtain ⟨rfl, ob2, hB2, hM2⟩ := hp; have KB2 := Kept.mk hB2; have KM2 := Kept.mk hM2; clear hB2 hM2)
      go_roundw
      case rel =>
        refine ⟨i + 1, ob2, rfl, by omega, ?_, KM.out.trans KM2.out⟩
        have h2 := KB2.out
        rw [List.append_assoc] at h2
        exact h2
      case measure => simp [intOf]; omega
    · have hin : i = n := by omega
      subst hin
      go_wp2
      refine bodyPost_end (results_none rfl _ _ _) rfl ?_
      exact ⟨rfl, ob1, KB.out, KM.out⟩

open Go.RowKit

theorem bitsL_get (v : Int) : ∀ (n c : Nat), c < n → (bitsL v n)[c]? = some (v / 2 ^ c % 2)
  | 0, c, h => by omega
  | n + 1, c, h => by
    rw [bitsL]
    by_cases hc : c < n
    · rw [List.getElem?_append_left (by rw [bitsL_length]; exact hc)]
      exact bitsL_get v n c hc
    · obtain rfl : c = n := by omega
      rw [List.getElem?_append_right (by rw [bitsL_length]; exact Nat.le_refl _), bitsL_length]
      simp
theorem bitsL_drop (v : Int) (n c : Nat) (h : c < n) : (bitsL v n).drop c = (v / 2 ^ c % 2) :: (bitsL v n).drop (c + 1) := by
  have h1 := bitsL_get v n c h
  obtain ⟨h2, h3⟩ := List.getElem?_eq_some_iff.1 h1
  rw [List.drop_eq_getElem_cons h2, h3]

set_option maxHeartbeats 1000000 in
set_option maxRecDepth 100000 in
theorem dcode_any {W0 w : World} {rb : Nat} {ob : Option Nat} {L : List Int} (v n : Nat) (hv : v < 65536) (hn : n ≤ 16) (h : Bt W0 w rb ob L) (hl : L.length + n ≤ 1073741824) :
    Calls Tryd.prog 89 #[.pointer (some ⟨rb, 0, none⟩), .int .i64 v, .int .i64 n] w fun e w' => AfterB W0 w w' rb ob (L ++ codeL v n) e := by
  have KH := Kept.mk h
  clear h
  go_enter Tryd.func89, Tryd.ntmps89
  go_wp2
  go_loopw [6] (fun iv wr => ∃ (c : Nat) (ob' : Option Nat), iv = .int .i64 ((c : Int) - 1) ∧ c ≤ n ∧ Bt W0 wr rb ob' (L ++ ((bitsL v n).drop c).reverse) ∧ Mq rb ob ob' w wr) (fun iv _ => (intOf iv + 1).toNat)
  case atStart => exact ⟨n, ob, rfl, by omega, by rw [List.drop_of_length_le (by rw [bitsL_length]; exact Nat.le_refl _)]; simpa using KH.out, Mq.refl _ _ _⟩
  case round =>
    obtain ⟨c, ob1, rfl, hc, hB, hM⟩ := hrel
    have KM := Kept.mk hM
    have KB := Kept.mk hB
    clear hM hB
    by_cases h0 : c = 0
    · subst h0
      go_wp2
      refine bodyPost_end (results_none rfl _ _ _) rfl ?_
      exact ⟨rfl, ob1, KB.out, KM.out⟩
    · obtain ⟨i, rfl⟩ : ∃ i, c = i + 1 := ⟨c - 1, by omega⟩
      have hci : ((i + 1 : Nat) : Int) - 1 = (i : Int) := by omega
      rw [hci]
      have hp0 : (0 : Int) < 2 ^ i := Int.pow_pos (by omega)
      have hd0 : 0 ≤ (v : Int) / 2 ^ i := Int.ediv_nonneg (by omega) (by omega)
      have hd1 : (v : Int) / 2 ^ i ≤ 65535 := Int.le_trans (Int.ediv_le_self _ (by omega)) (by omega)
      have hand := and_oneF _ hd0 hd1
      have KC := Kept.mk (bit_any ((v : Int) / 2 ^ i % 2) (by omega) KB.out (by rw [List.length_append, List.length_reverse, List.length_drop, bitsL_length]; omega))
      have hi16 : (i : Int) < 16 := by omega
      go_wp2_with (go_at_call 78; refine Calls.mono KC.out (fun e w2 hp => ?_); obtain ⟨rfl, ob2, hB2, hM2⟩ := hp; have KB2 := Kept.mk hB2; have KM2 := Kept.mk hM2; clear hB2 hM2)
      go_roundw
      case rel =>
        refine ⟨i, ob2, rfl, by omega, ?_, KM.out.trans KM2.out⟩
        have h2 := KB2.out
        rw [bitsL_drop (v : Int) n i (by omega), List.reverse_cons, ← List.append_assoc]
        exact h2
      case measure => simp [intOf]

open Go.RowKit

set_option maxHeartbeats 1000000 in
set_option maxRecDepth 100000 in
theorem dsymbol4_any {W0 w : World} {rb : Nat} {ob : Option Nat} {L : List Int} (s : Nat) (hs : s < 288) (h : Bt W0 w rb ob L) (hl : L.length + 9 ≤ 1073741824) :
    Calls Tryd.prog 81 #[.pointer (some ⟨rb, 0, none⟩), .int .i64 s] w fun e w' => AfterB W0 w w' rb ob (L ++ symL s) e := by
  unfold symL
  by_cases h1 : s < 144
  · rw [if_pos h1]
    have KC := Kept.mk (dcode_any (48 + s) 8 (by omega) (by omega) h (by omega))
    have hd1 : decide ((s : Int) < 144) = true := by simp; omega
    clear h
    go_enter Tryd.func81, Tryd.ntmps81
    go_wp2_with (go_at_call 89; refine Calls.mono KC.out (fun e w2 hp => ?_); obtain ⟨rfl, hW⟩ := hp; have KW := Kept.mk hW; clear hW)
    refine bodyPost_end (results_none rfl _ _ _) rfl ?_
    exact ⟨rfl, KW.out⟩
  · rw [if_neg h1]
    have hd1 : decide ((s : Int) < 144) = false := by simp; omega
    by_cases h2 : s < 256
    · rw [if_pos h2]
      have KC := Kept.mk (dcode_any (400 + s - 144) 9 (by omega) (by omega) h (by omega))
      rw [show ((400 + s - 144 : Nat) : Int) = 400 + (s : Int) - 144 from by omega] at KC
      have hd2 : decide ((s : Int) < 256) = true := by simp; omega
      clear h
      go_enter Tryd.func81, Tryd.ntmps81
      go_wp2_with (go_at_call 89; refine Calls.mono KC.out (fun e w2 hp => ?_); obtain ⟨rfl, hW⟩ := hp; have KW := Kept.mk hW; clear hW)
      refine bodyPost_end (results_none rfl _ _ _) rfl ?_
      exact ⟨rfl, KW.out⟩
    · rw [if_neg h2]
      have hd2 : decide ((s : Int) < 256) = false := by simp; omega
      by_cases h3 : s < 280
      · rw [if_pos h3]
        have KC := Kept.mk (dcode_any (s - 256) 7 (by omega) (by omega) h (by omega))
        rw [show ((s - 256 : Nat) : Int) = (s : Int) - 256 from by omega] at KC
        have hd3 : decide ((s : Int) < 280) = true := by simp; omega
        clear h
        go_enter Tryd.func81, Tryd.ntmps81
        go_wp2_with (go_at_call 89; refine Calls.mono KC.out (fun e w2 hp => ?_); obtain ⟨rfl, hW⟩ := hp; have KW := Kept.mk hW; clear hW)
        refine bodyPost_end (results_none rfl _ _ _) rfl ?_
        exact ⟨rfl, KW.out⟩
      · rw [if_neg h3]
        have KC := Kept.mk (dcode_any (192 + s - 280) 8 (by omega) (by omega) h (by omega))
        rw [show ((192 + s - 280 : Nat) : Int) = 192 + (s : Int) - 280 from by omega] at KC
        have hd3 : decide ((s : Int) < 280) = false := by simp; omega
        clear h
        go_enter Tryd.func81, Tryd.ntmps81
        go_wp2_with (go_at_call 89; refine Calls.mono KC.out (fun e w2 hp => ?_); obtain ⟨rfl, hW⟩ := hp; have KW := Kept.mk hW; clear hW)
        refine bodyPost_end (results_none rfl _ _ _) rfl ?_
        exact ⟨rfl, KW.out⟩

open Go.RowKit

theorem pow2_le4 {a b : Nat} (h : a ≤ b) : (2 : Int) ^ a ≤ 2 ^ b := by
  have : (2 : Nat) ^ a ≤ 2 ^ b := Nat.pow_le_pow_right (by omega) h
  exact_mod_cast this
/-- Of a symbol the least length, and how many bits more. -/
def dlen4 (s : Int) : Int × Nat :=
  if s = 285 then (258, 0) else if s < 265 then (s - 254, 0) else (3 + (4 + (s - 261) % 4) * 2 ^ ((s - 261) / 4).toNat, ((s - 261) / 4).toNat)
/-- Of a symbol the least distance, and how many bits more. -/
def ddist4 (s : Int) : Int × Nat :=
  if s < 4 then (s + 1, 0) else (1 + (2 + s % 2) * 2 ^ (s / 2 - 1).toNat, (s / 2 - 1).toNat)

set_option maxHeartbeats 1000000 in
set_option maxRecDepth 100000 in
theorem dLength4_any (w : World) (s : Int) (hs0 : 257 ≤ s) (hs1 : s ≤ 285) :
    Calls Tryd.prog 76 #[.int .i64 s] w fun e w' => e = .returned (.tuple #[.int .i64 (dlen4 s).1, .int .i64 (dlen4 s).2]) ∧ w' = w := by
  by_cases h1 : s = 285
  · subst h1
    have KE : Kept (dlen4 285 = (258, 0)) := ⟨rfl⟩
    go_enter Tryd.func76, Tryd.ntmps76
    go_wp2
    go_ret2
    rw [KE.out]
    exact ⟨rfl, rfl⟩
  · by_cases h2 : s < 265
    · have KE : Kept (dlen4 s = (s - 254, 0)) := ⟨by unfold dlen4; rw [if_neg h1, if_pos h2]⟩
      have hb : (s == 285) = false := by simp only [beq_eq_false_iff_ne]; exact h1
      go_enter Tryd.func76, Tryd.ntmps76
      go_wp2
      go_ret2
      rw [KE.out]
      exact ⟨rfl, rfl⟩
    · obtain ⟨k, hk⟩ : ∃ k : Nat, (s - 261) / 4 = (k : Int) := ⟨((s - 261) / 4).toNat, by omega⟩
      have KE : Kept (dlen4 s = (3 + (4 + (s - 261) % 4) * 2 ^ k, k)) := ⟨by unfold dlen4; rw [if_neg h1, if_neg h2, hk, Int.toNat_natCast]⟩
      have hb : (s == 285) = false := by simp only [beq_eq_false_iff_ne]; exact h1
      have hk5 : k ≤ 5 := by omega
      have hr : 0 ≤ (s - 261) % 4 ∧ (s - 261) % 4 < 4 := by omega
      have hd3 : (s - 261).tdiv 4 = (k : Int) := by rw [Int.tdiv_eq_ediv_of_nonneg (by omega)]; exact hk
      have hd4 : (s - 261).tmod 4 = (s - 261) % 4 := Int.tmod_eq_emod_of_nonneg (by omega)
      have hp : (2 : Int) ^ k ≤ 32 := pow2_le4 (b := 5) hk5
      have hp0 : (0 : Int) < 2 ^ k := Int.pow_pos (by omega)
      have hx : (4 + (s - 261) % 4) * 2 ^ k ≤ 8 * 32 := Int.mul_le_mul (by omega) hp (by omega) (by omega)
      have hx0 : 0 ≤ (4 + (s - 261) % 4) * 2 ^ k := Int.mul_nonneg (by omega) (by omega)
      go_enter Tryd.func76, Tryd.ntmps76
      go_wp2
      go_ret2
      rw [KE.out]
      exact ⟨rfl, rfl⟩

set_option maxHeartbeats 1000000 in
set_option maxRecDepth 100000 in
theorem dDistance4_any (w : World) (s : Int) (hs0 : 0 ≤ s) (hs1 : s ≤ 29) :
    Calls Tryd.prog 77 #[.int .i64 s] w fun e w' => e = .returned (.tuple #[.int .i64 (ddist4 s).1, .int .i64 (ddist4 s).2]) ∧ w' = w := by
  by_cases h2 : s < 4
  · have KE : Kept (ddist4 s = (s + 1, 0)) := ⟨by unfold ddist4; rw [if_pos h2]⟩
    go_enter Tryd.func77, Tryd.ntmps77
    go_wp2
    go_ret2
    rw [KE.out]
    exact ⟨rfl, rfl⟩
  · obtain ⟨k, hk⟩ : ∃ k : Nat, s / 2 - 1 = (k : Int) := ⟨(s / 2 - 1).toNat, by omega⟩
    have KE : Kept (ddist4 s = (1 + (2 + s % 2) * 2 ^ k, k)) := ⟨by unfold ddist4; rw [if_neg h2, hk, Int.toNat_natCast]⟩
    have hk5 : k ≤ 13 := by omega
    have hr : 0 ≤ s % 2 ∧ s % 2 < 2 := by omega
    have hd3 : s.tdiv 2 = s / 2 := Int.tdiv_eq_ediv_of_nonneg (by omega)
    have hd4 : s.tmod 2 = s % 2 := Int.tmod_eq_emod_of_nonneg (by omega)
    have hp : (2 : Int) ^ k ≤ 8192 := pow2_le4 (b := 13) hk5
    have hp0 : (0 : Int) < 2 ^ k := Int.pow_pos (by omega)
    have hx : (2 + s % 2) * 2 ^ k ≤ 4 * 8192 := Int.mul_le_mul (by omega) hp (by omega) (by omega)
    have hx0 : 0 ≤ (2 + s % 2) * 2 ^ k := Int.mul_nonneg (by omega) (by omega)
    go_enter Tryd.func77, Tryd.ntmps77
    go_wp2
    go_ret2
    rw [KE.out]
    exact ⟨rfl, rfl⟩
end Go.Proofs.YtjijkcmbbccfmaaDoor
