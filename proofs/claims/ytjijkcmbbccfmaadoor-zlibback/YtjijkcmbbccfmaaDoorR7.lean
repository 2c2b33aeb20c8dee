/-
  Walks: lengths.
-/
import Derived.Test.YtjijkcmbbccfmaaDoorR6
namespace Go.Proofs.YtjijkcmbbccfmaaDoor
open Go.RowKit

theorem Fr.grown {rb : Nat} {ob row : Option Nat} {w wr w1 : World} {o : Obj} (h : Fr rb ob w wr) (hg : (wr.alloc o).grownBy w1 row) (hr : ∀ g, row = some g → w.heap.size ≤ g) : Fr rb ob w w1 := by
  have hz := h.size
  have hs := hg.size
  simp at hs
  exact ⟨hg.os.trans h.os, hg.tape.trans h.tape, hg.output.trans h.output, by omega, fun k hk h1 h2 => by
    rw [hg.block k (by simp; omega) (fun e => by have := hr k e.symm; omega), Below.heap_alloc _ _ _ (by omega)]
    exact h.block k hk h1 h2⟩
theorem grown_keep {wr w1 : World} {o : Obj} {row : Option Nat} {m : Nat} (hg : (wr.alloc o).grownBy w1 row) (hr : ∀ g, row = some g → m ≤ g) (k : Nat) (hk : k < m) (hk2 : k < wr.heap.size) : w1.heap[k]? = wr.heap[k]? := by
  rw [hg.block k (by simp; omega) (fun e => by have := hr k e.symm; omega), Below.heap_alloc _ _ _ hk2]
theorem Rdr.grown {W0 wr w1 : World} {rb : Nat} {ob row : Option Nat} {inV : Value} {p out : List Int} {most t m : Nat} {o : Obj} (h : Rdr W0 wr rb ob inV p most out t) (hg : (wr.alloc o).grownBy w1 row) (hr : ∀ g, row = some g → m ≤ g) (h1 : rb < m) (h2 : ∀ k, ob = some k → k < m) (h3 : W0.heap.size ≤ m) : Rdr W0 w1 rb ob inV p most out t :=
  h.keep (grown_keep hg hr rb h1 h.rb_lt) (fun k hk => grown_keep hg hr k (h2 k hk) (h.ob_ge k hk).2) ((h.bel.alloc h.bel.size o).grown hg (by have := h.bel.size; simp; omega) (fun g e => by have := hr g e; omega))

def AfterL (W0 w w' : World) (rb : Nat) (ob : Option Nat) (inV : Value) (p : List Int) (most : Nat) (out : List Int) (r : Rs (List Int)) (e : Ending) : Prop :=
  match r with
  | .ok L t' => ∃ v, e = .returned (.tuple #[v, .int .i64 0]) ∧ Rd .i64 (fun g => w.heap.size ≤ g) w' v L ∧ Rdr W0 w' rb ob inV p most out t' ∧ Fr rb ob w w'
  | .bad er => e = .returned (.tuple #[.slice none 0 0, .int .i64 er.v]) ∧ Below W0.heap.size W0 w' ∧ Fr rb ob w w'

section
variable {W0 w : World} {rb : Nat} {ob : Option Nat} {inV : Value} {p out : List Int} {most t : Nat}
theorem times_ok {s v : Int} {t' : Nat} (hq : timesF p s t = .ok v t') (h0 : 16 ≤ s) (h1 : s ≤ 18) (h : Rdr W0 w rb ob inV p most out t) :
    Calls Tryd.prog 87 #[.pointer (some ⟨rb, 0, none⟩), .int .i64 s] w fun e w' => e = .returned (.tuple #[.int .i64 v, .int .i64 0]) ∧ Rdr W0 w' rb ob inV p most out t' ∧ Fr rb ob w w' := by
  have := times_any s h0 h1 h
  rw [hq] at this
  exact this
theorem times_bad {s : Int} {er : Er} (hq : timesF p s t = .bad er) (h0 : 16 ≤ s) (h1 : s ≤ 18) (h : Rdr W0 w rb ob inV p most out t) :
    Calls Tryd.prog 87 #[.pointer (some ⟨rb, 0, none⟩), .int .i64 s] w fun e w' => e = .returned (.tuple #[.int .i64 0, .int .i64 er.v]) ∧ Below W0.heap.size W0 w' ∧ Fr rb ob w w' := by
  have := times_any s h0 h1 h
  rw [hq] at this
  exact this
theorem timesF_ok {s v : Int} {t' : Nat} (hq : timesF p s t = .ok v t') (h0 : 16 ≤ s) (h1 : s ≤ 18) : 3 ≤ v ∧ v ≤ 138 ∧ t ≤ t' ∧ t' ≤ 8 * p.length := by
  unfold timesF at hq
  rcases (by omega : s = 16 ∨ s = 17 ∨ s = 18) with rfl | rfl | rfl
  · simp only [Int.reduceEq, if_false] at hq
    rcases hn : numF p 2 t with ⟨l, t1⟩ | er
    · rw [hn] at hq
      obtain ⟨a, b, c, d⟩ := numF_ok hn
      simp only [Int.reducePow] at b
      cases hq
      omega
    · rw [hn] at hq; cases hq
  · simp only [Int.reduceEq, if_false, if_true] at hq
    rcases hn : numF p 3 t with ⟨l, t1⟩ | er
    · rw [hn] at hq
      obtain ⟨a, b, c, d⟩ := numF_ok hn
      simp only [Int.reducePow] at b
      cases hq
      omega
    · rw [hn] at hq; cases hq
  · simp only [Int.reduceEq, if_false, if_true] at hq
    rcases hn : numF p 7 t with ⟨l, t1⟩ | er
    · rw [hn] at hq
      obtain ⟨a, b, c, d⟩ := numF_ok hn
      simp only [Int.reducePow] at b
      cases hq
      omega
    · rw [hn] at hq; cases hq
end

theorem getLastD_eq (L : List Int) : L.getLastD 0 = L.getD (L.length - 1) 0 := by
  rw [List.getLastD_eq_getLast?, List.getLast?_eq_getElem?]
  rfl

set_option maxHeartbeats 4000000 in
set_option maxRecDepth 100000 in
theorem lengths_any {W0 w : World} {rb : Nat} {ob : Option Nat} {inV : Value} {p out : List Int} {most t : Nat} {c : Cd} {cv sv : Value} (n : Nat) (hn : n ≤ 400) (hok : CdOk c 19) (hc : CdR rb ob w (.agg #[cv, sv]) c) (h : Rdr W0 w rb ob inV p most out t) :
    Calls Tryd.prog 71 #[.pointer (some ⟨rb, 0, none⟩), .agg #[cv, sv], .int .i64 n] w fun e w' => AfterL W0 w w' rb ob inV p most out (lensF p c n t) e := by
  obtain ⟨i0, z0, hi, hz, hs, hb, hc0⟩ := info64
  have hrb := h.rb_lt
  have hbs := h.bel.size
  have hrb0 := h.hb
  have KOB := Kept.mk h.ob_ge
  obtain ⟨cv', sv', hcs, hcv, hsv⟩ := hc.form
  cases hcs
  obtain ⟨ca, cc, rfl, -, -, -⟩ := hcv.form
  obtain ⟨sa, sc, rfl, -, -, -⟩ := hsv.form
  have KC := Kept.mk hc
  have K1 := Kept.mk (h.far ((Below.refl w.heap.size w).alloc (Nat.le_refl _) (.cells #[.slice ca c.counts.length cc, .slice sa c.symbols.length sc] 69)))
  have KO := Kept.mk hok
  clear h hcv hsv hc hok
  go_enter Tryd.func71, Tryd.ntmps71
  go_wp2
  go_loopw [8, 9, 10, 11, 12] (fun s8 _ _ _ _ wr => ∃ (f tk : Nat) (L : List Int) (q : Value), s8 = q ∧ L.length ≤ n ∧ n ≤ L.length + f ∧ AllIn 0 16 L ∧ lensGo p c n f L tk = lensF p c n t ∧ Own .i64 3 wr (w.heap.size + 1) q L ∧ CB wr w.heap.size (.slice ca c.counts.length cc) (.slice sa c.symbols.length sc) 69 ∧ Rdr W0 wr rb ob inV p most out tk ∧ Fr rb ob w wr) (fun s8 _ _ _ _ _ => n - lenOf s8)
  case atStart => exact ⟨n, t, [], _, rfl, by simp, by simp, AllIn.nil, rfl, Own.nil _ _ _ _, heap_alloc_new w _, K1.out, (Fr.refl rb ob w).alloc _⟩
  case round =>
    obtain ⟨f, tk, L, q, rfl, hLn, hf, hLi, hlg, how, hcb, hR, hF⟩ := hrel
    obtain ⟨qa, qc, rfl, -, -, -⟩ := how.rd.form
    have b0 := hcb.c0
    have b1 := hcb.c1
    have hzr := hcb.lt
    have hobk : ∀ j, w.heap.size ≤ j → some j ≠ ob := fun j hj e => by have := (KOB.out j e.symm).2; omega
    have KOJ := Kept.mk hobk
    have KA := Kept.mk hLi
    have KLG := Kept.mk hlg
    have KQ := Kept.mk how
    have KCB := Kept.mk hcb
    have KR := Kept.mk hR
    have KF := Kept.mk hF
    clear hLi hlg how hcb hR hF K1 hobk
    by_cases hlt : L.length < n
    · have hlti : (L.length : Int) < (n : Int) := by omega
      obtain ⟨f, rfl⟩ : ∃ f', f = f' + 1 := ⟨f - 1, by omega⟩
      have hG := KLG.out
      rw [lensGo, if_pos hlt] at hG
      have hcr : CdR rb ob wr (.agg #[.slice ca c.counts.length cc, .slice sa c.symbols.length sc]) c := KC.out.mv KF.out.mv
      rcases hq : symF p c tk with ⟨s, t1⟩ | er
      · rw [hq] at hG
        dsimp only at hG
        obtain ⟨s0, s1, -, -⟩ := symF_ok KO.out (by omega) hq
        have KN := Kept.mk (symbol_ok hq KO.out hcr KR.out)
        by_cases h15 : s ≤ 15
        · rw [if_pos h15] at hG
          have KG := Kept.mk hG
          clear hG hq hcr
          go_wp2_with fail
          refine Calls.mono KN.out (fun e w2 hp => ?_)
          obtain ⟨rfl, hR2, hF2⟩ := hp
          have how2 : Own .i64 3 w2 (w.heap.size + 1) (.slice qa L.length qc) L := KQ.out.far fun g hg => hF2.block g (KQ.out.lt g hg).2 (by have := (KQ.out.lt g hg).1; omega) (KOJ.out _ (by have := (KQ.out.lt g hg).1; omega))
          have hcb2 := KCB.out.far (hF2.block _ hzr (by omega) (KOJ.out _ (Nat.le_refl _)))
          have hz2 := hcb2.lt
          have hrd := Kept.mk (Rd.one .i64 w2 s 3)
          have how3 := Kept.mk (how2.alloc (.cells #[.int .i64 s] 3))
          have KQ2 := Kept.mk how2
          have KCB2 := Kept.mk hcb2
          have KR2 := Kept.mk hR2
          have KF2 := Kept.mk (KF.out.trans hF2)
          clear hR2 hF2 how2 hcb2
          go_wp2_with (at_builtin; refine wpList_append_rd _ rfl _ _ 49 rfl .i64 anyB 8 (w.heap.size + 1) 3 i0 z0 Tryd.underlying49 hi hz hs hb hc0 (by omega) (.slice qa L.length qc) L rfl how3.out _ [s] rfl hrd.out (by simp; omega) (by simp; omega) ?_; intro v' w3 hown hgrow hat; have KO3 := Kept.mk hown; have KG3 := Kept.mk hgrow; clear hown hgrow hat)
          go_roundw
          case rel =>
            refine ⟨f, t1, L ++ [s], v', rfl, by simp; omega, by simp; omega, KA.out.append (AllIn.one s0 (by omega)), KG.out, KO3.out, KCB2.out.far (grown_keep (m := w.heap.size + 1) KG3.out (fun g e => (KQ2.out.lt g e).1) _ (by omega) hz2), KR2.out.grown (m := w.heap.size + 1) KG3.out (fun g e => (KQ2.out.lt g e).1) (by omega) (fun k hk => by have := (KOB.out k hk).2; omega) (by omega), KF2.out.grown KG3.out (fun g e => by have := (KQ2.out.lt g e).1; omega)⟩
          case measure =>
            obtain ⟨_, _, e, -, -, -⟩ := KO3.out.rd.form
            rw [e]
            simp [lenOf]
            omega
        · rw [if_neg h15] at hG
          by_cases hnil : s = 16 ∧ L = []
          · rw [if_pos hnil] at hG
            have KE : Kept (lensF p c n t = .bad .form) := ⟨hG.symm⟩
            obtain ⟨rfl, rfl⟩ := hnil
            clear hG hq hcr
            go_wp2_with fail
            refine Calls.mono KN.out (fun e w2 hp => ?_)
            obtain ⟨rfl, hR2, hF2⟩ := hp
            have KR2 := Kept.mk hR2
            have KF2 := Kept.mk (KF.out.trans hF2)
            clear hR2 hF2
            go_wp2
            go_ret2
            unfold AfterL
            rw [KE.out]
            exact ⟨rfl, KR2.out.bel, KF2.out⟩
          · rw [if_neg hnil] at hG
            rcases hq2 : timesF p s t1 with ⟨n2, t2⟩ | er
            · rw [hq2] at hG
              dsimp only at hG
              obtain ⟨m0, m1, -, -⟩ := timesF_ok hq2 (by omega) (by omega)
              obtain ⟨m, rfl⟩ := Int.eq_ofNat_of_zero_le (show 0 ≤ n2 by omega)
              by_cases hmany : (n : Int) < (L.length : Int) + (m : Int)
              · rw [if_pos hmany] at hG
                have KE : Kept (lensF p c n t = .bad .form) := ⟨hG.symm⟩
                clear hG hq hcr
                by_cases h16 : s = 16
                · have hL0 : ¬ (L.length : Int) = 0 := fun e => hnil ⟨h16, List.eq_nil_of_length_eq_zero (by omega)⟩
                  subst h16
                  go_wp2_with fail
                  refine Calls.mono KN.out (fun e w2 hp => ?_)
                  obtain ⟨rfl, hR2, hF2⟩ := hp
                  have how2 : Own .i64 3 w2 (w.heap.size + 1) (.slice qa L.length qc) L := KQ.out.far fun g hg => hF2.block g (KQ.out.lt g hg).2 (by have := (KQ.out.lt g hg).1; omega) (KOJ.out _ (by have := (KQ.out.lt g hg).1; omega))
                  have hcb2 := KCB.out.far (hF2.block _ hzr (by omega) (KOJ.out _ (Nat.le_refl _)))
                  have hz2 := hcb2.lt
                  have KQ2 := Kept.mk how2
                  have KCB2 := Kept.mk hcb2
                  have KR2 := Kept.mk hR2
                  have KF2 := Kept.mk (KF.out.trans hF2)
                  clear hR2 hF2 how2 hcb2
                  have KT := Kept.mk (times_ok hq2 (by omega) (by omega) KR2.out)
                  go_wp2_with fail
                  refine Calls.mono KT.out (fun e w3 hp => ?_)
                  obtain ⟨rfl, hR3, hF3⟩ := hp
                  have how3 : Own .i64 3 w3 (w.heap.size + 1) (.slice qa L.length qc) L := KQ2.out.far fun g hg => hF3.block g (KQ2.out.lt g hg).2 (by have := (KQ2.out.lt g hg).1; omega) (KOJ.out _ (by have := (KQ2.out.lt g hg).1; omega))
                  have hcb3 := KCB2.out.far (hF3.block _ hz2 (by omega) (KOJ.out _ (Nat.le_refl _)))
                  have hz3 := hcb3.lt
                  have KQ3 := Kept.mk how3
                  have KCB3 := Kept.mk hcb3
                  have KR3 := Kept.mk hR3
                  have KF3 := Kept.mk (KF2.out.trans hF3)
                  clear hR3 hF3 how3 hcb3
                  go_wp2
                  go_ret2
                  unfold AfterL
                  rw [KE.out]
                  exact ⟨rfl, KR3.out.bel, KF3.out⟩
                · go_wp2_with fail
                  refine Calls.mono KN.out (fun e w2 hp => ?_)
                  obtain ⟨rfl, hR2, hF2⟩ := hp
                  have how2 : Own .i64 3 w2 (w.heap.size + 1) (.slice qa L.length qc) L := KQ.out.far fun g hg => hF2.block g (KQ.out.lt g hg).2 (by have := (KQ.out.lt g hg).1; omega) (KOJ.out _ (by have := (KQ.out.lt g hg).1; omega))
                  have hcb2 := KCB.out.far (hF2.block _ hzr (by omega) (KOJ.out _ (Nat.le_refl _)))
                  have hz2 := hcb2.lt
                  have KQ2 := Kept.mk how2
                  have KCB2 := Kept.mk hcb2
                  have KR2 := Kept.mk hR2
                  have KF2 := Kept.mk (KF.out.trans hF2)
                  clear hR2 hF2 how2 hcb2
                  have KT := Kept.mk (times_ok hq2 (by omega) (by omega) KR2.out)
                  go_wp2_with fail
                  refine Calls.mono KT.out (fun e w3 hp => ?_)
                  obtain ⟨rfl, hR3, hF3⟩ := hp
                  have how3 : Own .i64 3 w3 (w.heap.size + 1) (.slice qa L.length qc) L := KQ2.out.far fun g hg => hF3.block g (KQ2.out.lt g hg).2 (by have := (KQ2.out.lt g hg).1; omega) (KOJ.out _ (by have := (KQ2.out.lt g hg).1; omega))
                  have hcb3 := KCB2.out.far (hF3.block _ hz2 (by omega) (KOJ.out _ (Nat.le_refl _)))
                  have hz3 := hcb3.lt
                  have KQ3 := Kept.mk how3
                  have KCB3 := Kept.mk hcb3
                  have KR3 := Kept.mk hR3
                  have KF3 := Kept.mk (KF2.out.trans hF3)
                  clear hR3 hF3 how3 hcb3
                  go_wp2
                  go_ret2
                  unfold AfterL
                  rw [KE.out]
                  exact ⟨rfl, KR3.out.bel, KF3.out⟩
              · rw [if_neg hmany, Int.toNat_natCast] at hG
                by_cases h16 : s = 16
                · have hL0 : ¬ (L.length : Int) = 0 := fun e => hnil ⟨h16, List.eq_nil_of_length_eq_zero (by omega)⟩
                  subst h16
                  rw [if_pos rfl, getLastD_eq] at hG
                  have hag := KA.out.getD (by omega) (L.length - 1)
                  have KAG := Kept.mk hag
                  have KG := Kept.mk hG
                  clear hG hq hcr hag
                  go_wp2_with fail
                  refine Calls.mono KN.out (fun e w2 hp => ?_)
                  obtain ⟨rfl, hR2, hF2⟩ := hp
                  have how2 : Own .i64 3 w2 (w.heap.size + 1) (.slice qa L.length qc) L := KQ.out.far fun g hg => hF2.block g (KQ.out.lt g hg).2 (by have := (KQ.out.lt g hg).1; omega) (KOJ.out _ (by have := (KQ.out.lt g hg).1; omega))
                  have hcb2 := KCB.out.far (hF2.block _ hzr (by omega) (KOJ.out _ (Nat.le_refl _)))
                  have hz2 := hcb2.lt
                  have KQ2 := Kept.mk how2
                  have KCB2 := Kept.mk hcb2
                  have KR2 := Kept.mk hR2
                  have KF2 := Kept.mk (KF.out.trans hF2)
                  clear hR2 hF2 how2 hcb2
                  have KT := Kept.mk (times_ok hq2 (by omega) (by omega) KR2.out)
                  go_wp2_with fail
                  refine Calls.mono KT.out (fun e w3 hp => ?_)
                  obtain ⟨rfl, hR3, hF3⟩ := hp
                  have how3 : Own .i64 3 w3 (w.heap.size + 1) (.slice qa L.length qc) L := KQ2.out.far fun g hg => hF3.block g (KQ2.out.lt g hg).2 (by have := (KQ2.out.lt g hg).1; omega) (KOJ.out _ (by have := (KQ2.out.lt g hg).1; omega))
                  have hcb3 := KCB2.out.far (hF3.block _ hz2 (by omega) (KOJ.out _ (Nat.le_refl _)))
                  have hz3 := hcb3.lt
                  have KQ3 := Kept.mk how3
                  have KCB3 := Kept.mk hcb3
                  have KR3 := Kept.mk hR3
                  have KF3 := Kept.mk (KF2.out.trans hF3)
                  clear hR3 hF3 how3 hcb3
                  obtain ⟨qb, qo, qc2, he, -, -, -, -, hcells⟩ := KQ3.out.rd.open (by omega)
                  simp only [Value.slice.injEq, true_and] at he
                  obtain ⟨rfl, rfl⟩ := he
                  have hcl := hcells (L.length - 1) (by omega)
                  have hidx : (L.length : Int) - 1 = ((L.length - 1 : Nat) : Int) := by omega
                  have hidx2 : ((L.length - 1 : Nat) : Int) < (L.length : Int) := by omega
                  generalize L.getD (L.length - 1) 0 = ag at *
                  clear hcells
                  go_wp2
                  clear hidx hidx2 hcl hL0
                  rename World => wz
                  go_loopw [63, 8] (fun s63 s8 wr => ∃ (i : Nat) (q : Value) (M : List Int), i ≤ m ∧ s63 = .int .i64 i ∧ s8 = q ∧ M = L ++ List.replicate i ag ∧ Own .i64 3 wr (w.heap.size + 1) q M ∧ CB wr w.heap.size (.slice ca c.counts.length cc) (.slice sa c.symbols.length sc) 69 ∧ Rdr W0 wr rb ob inV p most out t2 ∧ Fr rb ob w wr) (fun s63 _ _ => m - (intOf s63).toNat)
                  case atStart => exact ⟨0, _, L, by omega, rfl, rfl, by simp, KQ3.out, KCB3.out, KR3.out, KF3.out⟩
                  case round =>
                    obtain ⟨i, q, M, hi2, rfl, rfl, hM, how, hcb, hR, hF⟩ := hrel
                    obtain ⟨ma, mc, rfl, -, -, -⟩ := how.rd.form
                    have hML : M.length = L.length + i := by rw [hM]; simp
                    have hzr2 := hcb.lt
                    have KM := Kept.mk hM
                    have KQ4 := Kept.mk how
                    have KCB4 := Kept.mk hcb
                    have KR4 := Kept.mk hR
                    have KF4 := Kept.mk hF
                    clear hM how hcb hR hF
                    by_cases hlt2 : i < m
                    · have hlti2 : (i : Int) < (m : Int) := by omega
                      have hrd := Kept.mk (Rd.one .i64 wr ag 3)
                      have how3 := Kept.mk (KQ4.out.alloc (.cells #[.int .i64 ag] 3))
                      go_wp2_with (at_builtin; refine wpList_append_rd _ rfl _ _ 49 rfl .i64 anyB 8 (w.heap.size + 1) 3 i0 z0 Tryd.underlying49 hi hz hs hb hc0 (by omega) (.slice ma M.length mc) M rfl how3.out _ [ag] rfl hrd.out (by simp; omega) (by simp; omega) ?_; intro v' w5 hown hgrow hat; have KO5 := Kept.mk hown; have KG5 := Kept.mk hgrow; clear hown hgrow hat)
                      go_roundw
                      case rel =>
                        refine ⟨i + 1, v', M ++ [ag], by omega, by go_num, rfl, ?_, KO5.out, KCB4.out.far (grown_keep (m := w.heap.size + 1) KG5.out (fun g e => (KQ4.out.lt g e).1) _ (by omega) hzr2), KR4.out.grown (m := w.heap.size + 1) KG5.out (fun g e => (KQ4.out.lt g e).1) (by omega) (fun k hk => by have := (KOB.out k hk).2; omega) (by omega), KF4.out.grown KG5.out (fun g e => by have := (KQ4.out.lt g e).1; omega)⟩
                        rw [KM.out, List.append_assoc, List.replicate_succ']
                      case measure => simp [intOf]; omega
                    · have him : i = m := by omega
                      have KG2 : Kept (lensGo p c n f M t2 = lensF p c n t) := ⟨by rw [KM.out, him]; exact KG.out⟩
                      have KA2 : Kept (AllIn 0 16 M) := ⟨by rw [KM.out]; exact KA.out.append (fun x hx => by have := List.eq_of_mem_replicate hx; subst this; exact KAG.out)⟩
                      go_wp2
                      go_roundw
                      case rel => exact ⟨f, t2, M, _, rfl, by omega, by omega, KA2.out, KG2.out, KQ4.out, KCB4.out, KR4.out, KF4.out⟩
                      case measure => simp [lenOf]; omega
                · rw [if_neg h16] at hG
                  rcases (by omega : s = 17 ∨ s = 18) with rfl | rfl
                  · have KAG : Kept ((0 : Int) ≤ 0 ∧ (0 : Int) < 16) := ⟨by omega⟩
                    have KG := Kept.mk hG
                    clear hG hq hcr
                    go_wp2_with fail
                    refine Calls.mono KN.out (fun e w2 hp => ?_)
                    obtain ⟨rfl, hR2, hF2⟩ := hp
                    have how2 : Own .i64 3 w2 (w.heap.size + 1) (.slice qa L.length qc) L := KQ.out.far fun g hg => hF2.block g (KQ.out.lt g hg).2 (by have := (KQ.out.lt g hg).1; omega) (KOJ.out _ (by have := (KQ.out.lt g hg).1; omega))
                    have hcb2 := KCB.out.far (hF2.block _ hzr (by omega) (KOJ.out _ (Nat.le_refl _)))
                    have hz2 := hcb2.lt
                    have KQ2 := Kept.mk how2
                    have KCB2 := Kept.mk hcb2
                    have KR2 := Kept.mk hR2
                    have KF2 := Kept.mk (KF.out.trans hF2)
                    clear hR2 hF2 how2 hcb2
                    have KT := Kept.mk (times_ok hq2 (by omega) (by omega) KR2.out)
                    go_wp2_with fail
                    refine Calls.mono KT.out (fun e w3 hp => ?_)
                    obtain ⟨rfl, hR3, hF3⟩ := hp
                    have how3 : Own .i64 3 w3 (w.heap.size + 1) (.slice qa L.length qc) L := KQ2.out.far fun g hg => hF3.block g (KQ2.out.lt g hg).2 (by have := (KQ2.out.lt g hg).1; omega) (KOJ.out _ (by have := (KQ2.out.lt g hg).1; omega))
                    have hcb3 := KCB2.out.far (hF3.block _ hz2 (by omega) (KOJ.out _ (Nat.le_refl _)))
                    have hz3 := hcb3.lt
                    have KQ3 := Kept.mk how3
                    have KCB3 := Kept.mk hcb3
                    have KR3 := Kept.mk hR3
                    have KF3 := Kept.mk (KF2.out.trans hF3)
                    clear hR3 hF3 how3 hcb3
                    go_wp2
                    rename World => wz
                    go_loopw [63, 8] (fun s63 s8 wr => ∃ (i : Nat) (q : Value) (M : List Int), i ≤ m ∧ s63 = .int .i64 i ∧ s8 = q ∧ M = L ++ List.replicate i 0 ∧ Own .i64 3 wr (w.heap.size + 1) q M ∧ CB wr w.heap.size (.slice ca c.counts.length cc) (.slice sa c.symbols.length sc) 69 ∧ Rdr W0 wr rb ob inV p most out t2 ∧ Fr rb ob w wr) (fun s63 _ _ => m - (intOf s63).toNat)
                    case atStart => exact ⟨0, _, L, by omega, rfl, rfl, by simp, KQ3.out, KCB3.out, KR3.out, KF3.out⟩
                    case round =>
                      obtain ⟨i, q, M, hi2, rfl, rfl, hM, how, hcb, hR, hF⟩ := hrel
                      obtain ⟨ma, mc, rfl, -, -, -⟩ := how.rd.form
                      have hML : M.length = L.length + i := by rw [hM]; simp
                      have hzr2 := hcb.lt
                      have KM := Kept.mk hM
                      have KQ4 := Kept.mk how
                      have KCB4 := Kept.mk hcb
                      have KR4 := Kept.mk hR
                      have KF4 := Kept.mk hF
                      clear hM how hcb hR hF
                      by_cases hlt2 : i < m
                      · have hlti2 : (i : Int) < (m : Int) := by omega
                        have hrd := Kept.mk (Rd.one .i64 wr 0 3)
                        have how3 := Kept.mk (KQ4.out.alloc (.cells #[.int .i64 0] 3))
                        go_wp2_with (at_builtin; refine wpList_append_rd _ rfl _ _ 49 rfl .i64 anyB 8 (w.heap.size + 1) 3 i0 z0 Tryd.underlying49 hi hz hs hb hc0 (by omega) (.slice ma M.length mc) M rfl how3.out _ [0] rfl hrd.out (by simp; omega) (by simp; omega) ?_; intro v' w5 hown hgrow hat; have KO5 := Kept.mk hown; have KG5 := Kept.mk hgrow; clear hown hgrow hat)
                        go_roundw
                        case rel =>
                          refine ⟨i + 1, v', M ++ [0], by omega, by go_num, rfl, ?_, KO5.out, KCB4.out.far (grown_keep (m := w.heap.size + 1) KG5.out (fun g e => (KQ4.out.lt g e).1) _ (by omega) hzr2), KR4.out.grown (m := w.heap.size + 1) KG5.out (fun g e => (KQ4.out.lt g e).1) (by omega) (fun k hk => by have := (KOB.out k hk).2; omega) (by omega), KF4.out.grown KG5.out (fun g e => by have := (KQ4.out.lt g e).1; omega)⟩
                          rw [KM.out, List.append_assoc, List.replicate_succ']
                        case measure => simp [intOf]; omega
                      · have him : i = m := by omega
                        have KG2 : Kept (lensGo p c n f M t2 = lensF p c n t) := ⟨by rw [KM.out, him]; exact KG.out⟩
                        have KA2 : Kept (AllIn 0 16 M) := ⟨by rw [KM.out]; exact KA.out.append (fun x hx => by have := List.eq_of_mem_replicate hx; subst this; exact KAG.out)⟩
                        go_wp2
                        go_roundw
                        case rel => exact ⟨f, t2, M, _, rfl, by omega, by omega, KA2.out, KG2.out, KQ4.out, KCB4.out, KR4.out, KF4.out⟩
                        case measure => simp [lenOf]; omega
                  · have KAG : Kept ((0 : Int) ≤ 0 ∧ (0 : Int) < 16) := ⟨by omega⟩
                    have KG := Kept.mk hG
                    clear hG hq hcr
                    go_wp2_with fail
                    refine Calls.mono KN.out (fun e w2 hp => ?_)
                    obtain ⟨rfl, hR2, hF2⟩ := hp
                    have how2 : Own .i64 3 w2 (w.heap.size + 1) (.slice qa L.length qc) L := KQ.out.far fun g hg => hF2.block g (KQ.out.lt g hg).2 (by have := (KQ.out.lt g hg).1; omega) (KOJ.out _ (by have := (KQ.out.lt g hg).1; omega))
                    have hcb2 := KCB.out.far (hF2.block _ hzr (by omega) (KOJ.out _ (Nat.le_refl _)))
                    have hz2 := hcb2.lt
                    have KQ2 := Kept.mk how2
                    have KCB2 := Kept.mk hcb2
                    have KR2 := Kept.mk hR2
                    have KF2 := Kept.mk (KF.out.trans hF2)
                    clear hR2 hF2 how2 hcb2
                    have KT := Kept.mk (times_ok hq2 (by omega) (by omega) KR2.out)
                    go_wp2_with fail
                    refine Calls.mono KT.out (fun e w3 hp => ?_)
                    obtain ⟨rfl, hR3, hF3⟩ := hp
                    have how3 : Own .i64 3 w3 (w.heap.size + 1) (.slice qa L.length qc) L := KQ2.out.far fun g hg => hF3.block g (KQ2.out.lt g hg).2 (by have := (KQ2.out.lt g hg).1; omega) (KOJ.out _ (by have := (KQ2.out.lt g hg).1; omega))
                    have hcb3 := KCB2.out.far (hF3.block _ hz2 (by omega) (KOJ.out _ (Nat.le_refl _)))
                    have hz3 := hcb3.lt
                    have KQ3 := Kept.mk how3
                    have KCB3 := Kept.mk hcb3
                    have KR3 := Kept.mk hR3
                    have KF3 := Kept.mk (KF2.out.trans hF3)
                    clear hR3 hF3 how3 hcb3
                    go_wp2
                    rename World => wz
                    go_loopw [63, 8] (fun s63 s8 wr => ∃ (i : Nat) (q : Value) (M : List Int), i ≤ m ∧ s63 = .int .i64 i ∧ s8 = q ∧ M = L ++ List.replicate i 0 ∧ Own .i64 3 wr (w.heap.size + 1) q M ∧ CB wr w.heap.size (.slice ca c.counts.length cc) (.slice sa c.symbols.length sc) 69 ∧ Rdr W0 wr rb ob inV p most out t2 ∧ Fr rb ob w wr) (fun s63 _ _ => m - (intOf s63).toNat)
                    case atStart => exact ⟨0, _, L, by omega, rfl, rfl, by simp, KQ3.out, KCB3.out, KR3.out, KF3.out⟩
                    case round =>
                      obtain ⟨i, q, M, hi2, rfl, rfl, hM, how, hcb, hR, hF⟩ := hrel
                      obtain ⟨ma, mc, rfl, -, -, -⟩ := how.rd.form
                      have hML : M.length = L.length + i := by rw [hM]; simp
                      have hzr2 := hcb.lt
                      have KM := Kept.mk hM
                      have KQ4 := Kept.mk how
                      have KCB4 := Kept.mk hcb
                      have KR4 := Kept.mk hR
                      have KF4 := Kept.mk hF
                      clear hM how hcb hR hF
                      by_cases hlt2 : i < m
                      · have hlti2 : (i : Int) < (m : Int) := by omega
                        have hrd := Kept.mk (Rd.one .i64 wr 0 3)
                        have how3 := Kept.mk (KQ4.out.alloc (.cells #[.int .i64 0] 3))
                        go_wp2_with (at_builtin; refine wpList_append_rd _ rfl _ _ 49 rfl .i64 anyB 8 (w.heap.size + 1) 3 i0 z0 Tryd.underlying49 hi hz hs hb hc0 (by omega) (.slice ma M.length mc) M rfl how3.out _ [0] rfl hrd.out (by simp; omega) (by simp; omega) ?_; intro v' w5 hown hgrow hat; have KO5 := Kept.mk hown; have KG5 := Kept.mk hgrow; clear hown hgrow hat)
                        go_roundw
                        case rel =>
                          refine ⟨i + 1, v', M ++ [0], by omega, by go_num, rfl, ?_, KO5.out, KCB4.out.far (grown_keep (m := w.heap.size + 1) KG5.out (fun g e => (KQ4.out.lt g e).1) _ (by omega) hzr2), KR4.out.grown (m := w.heap.size + 1) KG5.out (fun g e => (KQ4.out.lt g e).1) (by omega) (fun k hk => by have := (KOB.out k hk).2; omega) (by omega), KF4.out.grown KG5.out (fun g e => by have := (KQ4.out.lt g e).1; omega)⟩
                          rw [KM.out, List.append_assoc, List.replicate_succ']
                        case measure => simp [intOf]; omega
                      · have him : i = m := by omega
                        have KG2 : Kept (lensGo p c n f M t2 = lensF p c n t) := ⟨by rw [KM.out, him]; exact KG.out⟩
                        have KA2 : Kept (AllIn 0 16 M) := ⟨by rw [KM.out]; exact KA.out.append (fun x hx => by have := List.eq_of_mem_replicate hx; subst this; exact KAG.out)⟩
                        go_wp2
                        go_roundw
                        case rel => exact ⟨f, t2, M, _, rfl, by omega, by omega, KA2.out, KG2.out, KQ4.out, KCB4.out, KR4.out, KF4.out⟩
                        case measure => simp [lenOf]; omega
            · rw [hq2] at hG
              have KE : Kept (lensF p c n t = .bad er) := ⟨hG.symm⟩
              have her := er.rng
              have hne : ¬ er.v = 0 := by omega
              clear hG hq hcr
              by_cases h16 : s = 16
              · have hL0 : ¬ (L.length : Int) = 0 := fun e => hnil ⟨h16, List.eq_nil_of_length_eq_zero (by omega)⟩
                subst h16
                go_wp2_with fail
                refine Calls.mono KN.out (fun e w2 hp => ?_)
                obtain ⟨rfl, hR2, hF2⟩ := hp
                have KT := Kept.mk (times_bad hq2 (by omega) (by omega) hR2)
                have KF2 := Kept.mk (KF.out.trans hF2)
                clear hR2 hF2
                go_wp2_with fail
                refine Calls.mono KT.out (fun e w3 hp => ?_)
                obtain ⟨rfl, hR3, hF3⟩ := hp
                have KR3 := Kept.mk hR3
                have KF3 := Kept.mk (KF2.out.trans hF3)
                clear hR3 hF3
                go_wp2
                go_ret2
                unfold AfterL
                rw [KE.out]
                exact ⟨rfl, KR3.out, KF3.out⟩
              · go_wp2_with fail
                refine Calls.mono KN.out (fun e w2 hp => ?_)
                obtain ⟨rfl, hR2, hF2⟩ := hp
                have KT := Kept.mk (times_bad hq2 (by omega) (by omega) hR2)
                have KF2 := Kept.mk (KF.out.trans hF2)
                clear hR2 hF2
                go_wp2_with fail
                refine Calls.mono KT.out (fun e w3 hp => ?_)
                obtain ⟨rfl, hR3, hF3⟩ := hp
                have KR3 := Kept.mk hR3
                have KF3 := Kept.mk (KF2.out.trans hF3)
                clear hR3 hF3
                go_wp2
                go_ret2
                unfold AfterL
                rw [KE.out]
                exact ⟨rfl, KR3.out, KF3.out⟩
      · rw [hq] at hG
        have KE : Kept (lensF p c n t = .bad er) := ⟨hG.symm⟩
        have KN := Kept.mk (symbol_bad hq KO.out hcr KR.out)
        have her := er.rng
        have hne : ¬ er.v = 0 := by omega
        clear hG hq hcr
        go_wp2_with fail
        refine Calls.mono KN.out (fun e w2 hp => ?_)
        obtain ⟨rfl, hR2, hF2⟩ := hp
        have KR2 := Kept.mk hR2
        have KF2 := Kept.mk (KF.out.trans hF2)
        clear hR2 hF2
        go_wp2
        go_ret2
        unfold AfterL
        rw [KE.out]
        exact ⟨rfl, KR2.out, KF2.out⟩
    · have KE : Kept (lensF p c n t = .ok L tk) := ⟨by rw [← KLG.out]; cases f <;> simp [lensGo, hlt]⟩
      go_wp2
      go_ret2
      unfold AfterL
      rw [KE.out]
      exact ⟨_, rfl, KQ.out.rd.weak fun g _ e => by have := (KQ.out.lt g e).1; omega, KR.out, KF.out⟩
end Go.Proofs.YtjijkcmbbccfmaaDoor
