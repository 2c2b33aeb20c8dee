/-
  Walks: the document's bit.
-/
import Derived.Test.YtjijkcmbbccfmaaF11
import Derived.Laws.OwnMore
namespace Go.Proofs.Ytjijkcmbbccfmaa
open Go.RowKit

theorem Own.setq {k : IntKind} {e : TypeId} {w : World} {base g n c : Nat} {xs : List Int} (h : Own k e w base (.slice (some ⟨g, 0, none⟩) n c) xs) (j : Nat) (x : Int) : Own k e (w.setCell ⟨g, j, none⟩ (.int k x)) base (.slice (some ⟨g, 0, none⟩) n c) (xs.set j x) := by
  have hn : n = xs.length := by
    obtain ⟨a', c', hv, -⟩ := h.rd.form
    injection hv
  subst hn
  have := World.ownsRow.stored h j (.int k x)
  unfold Own
  rw [List.length_set]
  have e2 : cellsK k (xs.set j x) = (cellsK k xs).set j (.int k x) := by simp [cellsK, List.map_set]
  rw [e2]
  exact this.1

/-- Where what is owned lies. -/
theorem Own.addrq {k : IntKind} {e : TypeId} {w : World} {base n c : Nat} {a : Option Addr} {xs : List Int} (h : Own k e w base (.slice a n c) xs) (h0 : 0 < xs.length) :
    ∃ g, a = some ⟨g, 0, none⟩ ∧ n = xs.length ∧ base ≤ g ∧ g < w.heap.size ∧ (∀ i, i < xs.length → w.cell? ⟨g, i, none⟩ = some (.int k (xs.getD i 0))) ∧ ∀ i, w.frozen? ⟨g, i, none⟩ = false := by
  have hlen : n = xs.length := by
    obtain ⟨a', c', hv, -⟩ := h.rd.form
    injection hv
  rcases h.2 with ⟨hv, hn⟩ | ⟨g, cap, cur, hv, hbg, hg, hnc, hcm, hcs, htake⟩
  · omega
  · injection hv with h1 h2 h3
    subst h1
    refine ⟨g, rfl, hlen, hbg, (h.lt g rfl).2, fun i hi => ?_, fun i => by simp [World.frozen?, hg]⟩
    have hk := World.ownsRow.cells h (g := g) rfl i (.int k (xs.getD i 0)) (by simp [cellsK, List.getElem?_eq_getElem hi, List.getD])
    rw [add_plain, Nat.zero_add] at hk
    exact hk
theorem getD_end (xs : List Int) (C : Int) : (xs ++ [C]).getD xs.length 0 = C := by simp [List.getD]
theorem set_end (xs : List Int) (C D : Int) : (xs ++ [C]).set xs.length D = xs ++ [D] := by simp

theorem Fq.own {rb g : Nat} {w w1 : World} (h : Fq rb (some g) w w1) (i : Nat) (u : Value) : Fq rb (some g) w (w1.setCell ⟨g, i, none⟩ u) :=
  h.trans ⟨rfl, rfl, rfl, by simp [World.setCell], fun k _ _ hk => Below.heap_setCell _ _ _ _ (fun e => hk (by rw [e]))⟩
/-- Behind the stores. -/
theorem bit_end {W0 w w1 : World} {rb g oc N k : Nat} {ob : Option Nat} {A L : List Int} {V X v : Int} (hT : Bt W0 w rb ob L) (hM : Mq rb ob (some g) w w1) (hR : DQ w1 rb (.slice (some ⟨g, 0, none⟩) (A.length + 1) oc) N)
    (hO : Own .u8 5 w1 W0.heap.size (.slice (some ⟨g, 0, none⟩) (A.length + 1) oc) (A ++ [V])) (hN : L.length = N) (hAl : A.length = k) (hp : packF (L ++ [v]) = A ++ [X]) (hbits : IsBits (L ++ [v])) (hl : L.length + 1 ≤ 1073741824) (hgr : g ≠ rb) (hbg : W0.heap.size ≤ g) (hbel : Below W0.heap.size W0 w1) :
    AfterB W0 w ((w1.setCell ⟨g, k, none⟩ (.int .u8 X)).setCell ⟨rb, 1, none⟩ (.int .i64 ((N : Int) + 1))) rb ob (L ++ [v]) (.returned (.tuple #[])) := by
  subst hAl
  have hFF := ((Fq.refl rb (some g) w1).own A.length (.int .u8 X)).set 1 (.int .i64 ((N : Int) + 1))
  refine ⟨rfl, some g, ⟨⟨.slice (some ⟨g, 0, none⟩) (A.length + 1) oc, ?_, ?_, rfl⟩, hbits, ?_, hT.hb, fun e => hgr (by simpa using e), by simp; omega⟩, hM.trans hFF.mv⟩
  · rw [List.length_append, List.length_singleton, hN, show ((N + 1 : Nat) : Int) = (N : Int) + 1 from by omega]
    exact (hR.far (w' := w1.setCell ⟨g, A.length, none⟩ (.int .u8 X)) (Below.heap_setCell _ _ _ _ (Ne.symm hgr))).s1 _
  · rw [hp]
    have h1 := hO.setq A.length X
    rw [set_end] at h1
    exact h1.far fun q hq => Below.heap_setCell _ _ _ _ (fun (e : q = rb) => hgr ((show g = q from by simpa [Value.ownBlock] using hq).trans e))
  · exact hFF.below hbel hT.hb (fun q hq => by simp at hq; omega) hbel.size

set_option maxHeartbeats 1000000 in
set_option maxRecDepth 100000 in
theorem bit_any {W0 w : World} {rb : Nat} {ob : Option Nat} {L : List Int} (v : Int) (hv : v = 0 ∨ v = 1) (h : Bt W0 w rb ob L) (hl : L.length + 1 ≤ 1073741824) :
    Calls Try.prog 34 #[.pointer (some ⟨rb, 0, none⟩), .int .i64 v] w fun e w' => AfterB W0 w w' rb ob (L ++ [v]) e := by
  obtain ⟨i0, z0, hi, hz, hs, hb, hc⟩ := info8
  obtain ⟨outV, hB, own, hob⟩ := h.blk
  obtain ⟨k, r, hk, hr⟩ : ∃ k r, L.length = 8 * k + r ∧ r < 8 := ⟨L.length / 8, L.length % 8, by omega, by omega⟩
  obtain ⟨p1, p2⟩ := pack_bit L v k r hk hr
  have hvr := valL_range (h.ib.drop (8 * k))
  rw [List.length_drop, show L.length - 8 * k = r from by omega] at hvr
  have hor := or_bit8 _ v r hvr.1 hvr.2 hr hv
  have hvb : v < 2 ∧ 0 ≤ v := by omega
  have hAl : (packF (L.take (8 * k))).length = k := by
    rw [packF_len _ _ (Nat.le_refl _), List.length_take]
    omega
  have hbits : IsBits (L ++ [v]) := h.ib.append (fun b hb => by rw [show b = v from by simpa using hb]; exact hv)
  obtain ⟨N, hN⟩ : ∃ N, L.length = N := ⟨_, rfl⟩
  rw [hN] at hB hk
  have hmod : (N : Int) % 8 = (r : Int) := by omega
  have hmodN : (N : Int).tmod 8 = (r : Int) := by rw [Int.tmod_eq_emod_of_nonneg (by omega)]; omega
  have hwz := h.bel.size
  by_cases h0 : r = 0
  · subst h0
    rw [if_pos rfl, List.append_nil] at p2
    rw [p2] at own
    have hV0 : valL (L.drop (8 * k)) = 0 := by rw [List.drop_of_length_le (by omega)]; rfl
    obtain ⟨A, hA⟩ : ∃ A, packF (L.take (8 * k)) = A := ⟨_, rfl⟩
    rw [hV0] at hor p1
    rw [hA] at own p1 hAl
    obtain ⟨oa, oc, rfl, -, -, -⟩ := own.rd.form
    rw [hAl] at hB own hob
    have c0 := hB.c0
    have c1 := hB.c1
    have f0 := hB.fz 0
    have f1 := hB.fz 1
    have hkb : (k : Int) ≤ 134217728 := by omega
    have hkn : k ≤ 134217728 := by omega
    have hNb : (N : Int) ≤ 1073741824 := by omega
    have KN := Kept.mk hN
    have hr1 := Kept.mk (Rd.one .u8 w 0 5)
    have KOa := Kept.mk (own.alloc (.cells #[.int .u8 0] 5))
    have KG : Kept (∀ (v1 : Value) (w1 : World), Own .u8 5 w1 W0.heap.size v1 (A ++ [0]) → (w.alloc (.cells #[.int .u8 0] 5)).grownBy w1 (Value.slice oa k oc).ownBlock → (v1.ownBlock = (Value.slice oa k oc).ownBlock ∨ v1.ownBlock = some (w.alloc (.cells #[.int .u8 0] 5)).heap.size) →
        ∃ g nc, v1 = .slice (some ⟨g, 0, none⟩) (k + 1) nc ∧ DQ w1 rb (.slice oa k oc) N ∧ Mq rb ob (some g) w w1 ∧ w1.cell? ⟨g, k, none⟩ = some (.int .u8 0) ∧ w1.frozen? ⟨g, k, none⟩ = false ∧ g ≠ rb ∧ W0.heap.size ≤ g ∧ Own .u8 5 w1 W0.heap.size (.slice (some ⟨g, 0, none⟩) (k + 1) nc) (A ++ [0])) := ⟨fun v1 w1 hown hg hat => by
      have hlt := hB.lt
      obtain ⟨na, nc, rfl, -, -, -⟩ := hown.rd.form
      obtain ⟨g, rfl, -, hbg, hgl, hcells, hfz⟩ := hown.addrq (by simp)
      have e1 : (A ++ [0]).length = k + 1 := by rw [List.length_append, hAl]; rfl
      rw [e1] at hown hat hcells ⊢
      have cg := hcells k (by omega)
      rw [← hAl, getD_end, hAl] at cg
      have hF : Fq rb ob w w1 := ((Fq.refl rb ob w).alloc (.cells #[.int .u8 0] 5)).trans ⟨hg.os, hg.tape, hg.output, hg.size, fun q hq _ h5 => hg.block q hq (by rw [hob]; exact h5)⟩
      have hg1 : some g = ob ∨ ∃ q, some g = some q ∧ w.heap.size ≤ q := by
        rcases hat with e | e
        · exact Or.inl (by rw [← hob, ← e]; rfl)
        · refine Or.inr ⟨g, rfl, ?_⟩
          have e2 : g = (w.alloc (.cells #[.int .u8 0] 5)).heap.size := by simpa [Value.ownBlock] using e
          simp at e2
          omega
      have hgr : g ≠ rb := by
        rintro rfl
        rcases hg1 with e | ⟨q, e, hq⟩
        · exact h.ho e.symm
        · simp at e
          omega
      refine ⟨g, nc, rfl, hB.far ?_, ⟨hF, hg1⟩, cg, hfz k, hgr, hbg, hown⟩
      rw [hg.block rb (by simp; omega) (fun e => h.ho (by rw [← hob, ← e]))]
      exact Below.heap_alloc w _ rb hlt⟩
    have KH := Kept.mk h
    have KO := Kept.mk own
    have KB := Kept.mk hob
    have Kor := Kept.mk hor
    have Kp := Kept.mk p1
    have KAl := Kept.mk hAl
    have KHA : Kept (A.length + 1 = k + 1) := ⟨by omega⟩
    clear h own hob hB hor p1 p2 hvr hV0 hA hk hN hAl
    go_enter Try.func34, Try.ntmps34
    go_upto_region 2 with (at_builtin; refine wpList_append_rd _ rfl _ _ 22 rfl .u8 anyB 1 W0.heap.size 5 i0 z0 Try.underlying22 hi hz hs hb hc (by omega) (.slice oa k oc) A rfl KOa.out _ [0] rfl hr1.out (by rw [KAl.out]; simp; omega) (by simp; omega) ?_; intro v1 w1 hown hgrow hat; obtain ⟨g, nc, rfl, hR1, hM1, cg, fg, hgr, hbg, hO1⟩ := KG.out v1 w1 hown hgrow hat; have c01 := hR1.c0; have f01 := hR1.fz 0; have c11 := hR1.c1; have f11 := hR1.fz 1; have KR1 := Kept.mk hR1; have KM1 := Kept.mk hM1; have KO1 := Kept.mk hO1; clear hR1 hM1 hO1 hown hgrow hat)
    obtain ⟨w2, hw2, hR2, hM2, cg2, fg2, hO2⟩ : ∃ w2, w1.setCell ⟨rb, 0, none⟩ (.slice (some ⟨g, 0, none⟩) (k + 1) nc) = w2 ∧ DQ w2 rb (.slice (some ⟨g, 0, none⟩) (k + 1) nc) N ∧ Mq rb ob (some g) w w2 ∧ w2.cell? ⟨g, k, none⟩ = some (.int .u8 0) ∧ w2.frozen? ⟨g, k, none⟩ = false ∧ Own .u8 5 w2 W0.heap.size (.slice (some ⟨g, 0, none⟩) (k + 1) nc) (A ++ [0]) := by
      have hbl : (w1.setCell ⟨rb, 0, none⟩ (.slice (some ⟨g, 0, none⟩) (k + 1) nc)).heap[g]? = w1.heap[g]? := Below.heap_setCell _ _ _ _ hgr
      refine ⟨_, rfl, KR1.out.s0 _, KM1.out.set 0 _, ?_, ?_, KO1.out.far fun q hq => Below.heap_setCell _ _ _ _ (fun (e : q = rb) => hgr ((show g = q from by simpa [Value.ownBlock] using hq).trans e))⟩
      · rw [World.cell?_of_block (w := w1) (a := ⟨g, k, none⟩) hbl]
        exact cg
      · rw [World.frozen?_of_block (w := w1) (a := ⟨g, k, none⟩) hbl]
        exact fg
    rw [hw2]
    have c02 := hR2.c0
    have c12 := hR2.c1
    have f12 := hR2.fz 1
    have KR2 := Kept.mk hR2
    have KM2 := Kept.mk hM2
    have KO2 := Kept.mk hO2
    clear hw2 hR2 hM2 hO2 c0 c1 f0 f1 c01 c11 f01 f11 cg fg
    refine wp_region_last _ 22 (by kernel_rfl) (by kernel_rfl) rfl rfl ?_
    simp only [List.take_succ_cons, List.take_zero]
    repeat (first | go_big_quiet_step (fail) | quiet_step (fail))
    refine wpQuiet_nil ?_
    intro m
    go_wp2
    have h1 := Kor.out.1
    rw [show v * 2 ^ 0 % 256 = v from by rw [Int.pow_zero, Int.mul_one]; omega] at h1
    rw [h1]
    refine bodyPost_end (results_none rfl _ _ _) rfl ?_
    have hO2 := KO2.out
    have hR2 := KR2.out
    rw [← KHA.out] at hO2 hR2
    exact bit_end KH.out (ob := ob) (w1 := w2.drewN m) (KM2.out.drewN m) hR2 hO2 KN.out KAl.out Kp.out hbits hl hgr hbg (below_drewN (KM2.out.fr.below KH.out.bel KH.out.hb (fun q hq => (KH.out.ob_ge q hq).1) hwz) m)
  · rw [if_neg h0] at p2
    rw [p2] at own
    obtain ⟨V, hV⟩ : ∃ V, valL (L.drop (8 * k)) = V := ⟨_, rfl⟩
    obtain ⟨A, hA⟩ : ∃ A, packF (L.take (8 * k)) = A := ⟨_, rfl⟩
    rw [hV] at own hor p1
    rw [hA] at own p1 hAl
    obtain ⟨oa, oc, rfl, -, -, -⟩ := own.rd.form
    obtain ⟨g, rfl, -, hbg, hgl, hcells, hfz⟩ := own.addrq (by simp)
    have cg := hcells A.length (by simp)
    rw [getD_end] at cg
    have fg := hfz A.length
    have c0 := hB.c0
    have c1 := hB.c1
    have f1 := hB.fz 1
    have hgr : g ≠ rb := fun e => h.ho (by rw [← hob, e]; rfl)
    have hlen : (A ++ [V]).length = A.length + 1 := by simp
    rw [hlen, hAl] at c0
    rw [hAl] at cg fg
    have KAl := Kept.mk hAl
    have hr0 : ¬ (r : Int) = 0 := by omega
    have hkb : (k : Int) ≤ 134217728 := by omega
    have hNb : (N : Int) ≤ 1073741824 := by omega
    have KN := Kept.mk hN
    have KH := Kept.mk h
    have KO := Kept.mk own
    have KB := Kept.mk hob
    have KR := Kept.mk hB
    have Kor := Kept.mk hor
    have Kp := Kept.mk p1
    clear h own hob hB hor p1 p2 hcells hfz hvr hV hA hlen hk hN hAl
    go_enter Try.func34, Try.ntmps34
    go_upto_region 2 with fail
    refine wp_region_last _ 22 (by kernel_rfl) (by kernel_rfl) rfl rfl ?_
    simp only [List.take_succ_cons, List.take_zero]
    repeat (first | go_big_quiet_step (fail) | quiet_step (fail))
    refine wpQuiet_nil ?_
    intro m
    go_wp2
    rw [Kor.out.1]
    refine bodyPost_end (results_none rfl _ _ _) rfl ?_
    have hO2 := KO.out
    have hR2 := KR.out
    simp only [List.length_append, List.length_singleton] at hO2 hR2
    refine bit_end KH.out (ob := ob) (w1 := w.drewN m) ?_ hR2 hO2 KN.out KAl.out Kp.out hbits hl hgr hbg (below_drewN KH.out.bel m)
    exact ⟨(Fq.refl rb ob w).drewN m, Or.inl KB.out⟩
end Go.Proofs.Ytjijkcmbbccfmaa
