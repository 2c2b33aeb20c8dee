/-
  Walks: symbol.
-/
import Derived.Test.YthbcloplhjmkkaaDoorR3
import Derived.Test.YthbcloplhjmkkaaDoorB
namespace Go.Proofs.YthbcloplhjmkkaaDoor
open Go.RowKit

/-- Codes in order: as many symbols as the counts say, below n. -/
structure CdOk (c : Cd) (n : Int) : Prop where
  len0 : 1 ≤ c.counts.length
  len1 : c.counts.length ≤ 16
  pos : AllIn 0 1000 c.counts
  sum : c.counts.tail.sum = c.symbols.length
  sym : AllIn 0 n c.symbols
  few : c.symbols.length ≤ 1000

/-- Codes in memory, apart from the reader's blocks. -/
def Sep (rb : Nat) (ob : Option Nat) : Nat → Prop := fun b => b ≠ rb ∧ some b ≠ ob
structure CdR (rb : Nat) (ob : Option Nat) (w : World) (v : Value) (c : Cd) : Prop where
  form : ∃ cv sv, v = .agg #[cv, sv] ∧ Rd .i64 (Sep rb ob) w cv c.counts ∧ Rd .i64 (Sep rb ob) w sv c.symbols
theorem Rd.mv {k : IntKind} {rb : Nat} {ob ob' : Option Nat} {w w' : World} {v : Value} {xs : List Int} (h : Rd k (Sep rb ob) w v xs) (m : Mv rb ob ob' w w') : Rd k (Sep rb ob') w' v xs := by
  refine h.far m.fr.size fun b hb hs => ⟨⟨hs.1, ?_⟩, m.fr.block b hb hs.1 hs.2⟩
  rcases m.at_ with e | ⟨g, e, hg⟩
  · rw [e]; exact hs.2
  · rw [e]; intro e'; simp at e'; omega
theorem CdR.mv {rb : Nat} {ob ob' : Option Nat} {w w' : World} {v : Value} {c : Cd} (h : CdR rb ob w v c) (m : Mv rb ob ob' w w') : CdR rb ob' w' v c := by
  obtain ⟨cv, sv, hv, h1, h2⟩ := h.form
  exact ⟨cv, sv, hv, h1.mv m, h2.mv m⟩

theorem sum_nonneg : ∀ (l : List Int), AllIn 0 1000 l → 0 ≤ l.sum
  | [], _ => by simp
  | x :: l, h => by
    have h1 := h x (by simp)
    have h2 := sum_nonneg l (fun y hy => h y (by simp [hy]))
    simp only [List.sum_cons]
    omega

theorem numF_one (p : List Int) (t : Nat) (b : Int) (t' : Nat) (h : numF p 1 t = .ok b t') : 0 ≤ b ∧ b ≤ 1 ∧ t' = t + 1 := by
  unfold numF at h
  split at h
  · cases h
    have := valF_range p 1 t
    simp at this
    exact ⟨this.1, by omega, rfl⟩
  · cases h

set_option maxHeartbeats 2000000 in
set_option maxRecDepth 100000 in
theorem symbol_any {W0 w : World} {rb : Nat} {ob : Option Nat} {inV : Value} {p out : List Int} {most t : Nat} {c : Cd} {n : Int} {cV : Value} (hok : CdOk c n) (hc : CdR rb ob w cV c) (h : Rdr W0 w rb ob inV p most out t) :
    Calls Tryd.prog 28 #[.pointer (some ⟨rb, 0, none⟩), cV] w fun e w' => After W0 w w' rb ob inV p most out (symF p c t) e encI zeroI := by
  obtain ⟨cv, sv, rfl, hcv, hsv⟩ := hc.form
  obtain ⟨cb, co, cc, rfl, hcb, hcc, hcm, hcs, hcells⟩ := hcv.open (by have := hok.len0; omega)
  have hl0 := hok.len0
  have hl1 := hok.len1
  have hlt := h.blk
  obtain ⟨_, _, _, hB, -⟩ := hlt
  have hrb := hB.lt
  have hoblt := h.ob_ge
  have hbx : ∀ wr, Fr rb ob (w.alloc (.cells #[.slice (some ⟨cb, co, none⟩) c.counts.length cc, sv] 51)) wr → wr.cell? ⟨w.heap.size, 1, none⟩ = some sv := by
    intro wr hf
    rw [World.cell?_of_block (w := w.alloc (.cells #[.slice (some ⟨cb, co, none⟩) c.counts.length cc, sv] 51)) (a := ⟨w.heap.size, 1, none⟩) (hf.block w.heap.size (by simp) (by omega) (fun e => by have := (hoblt _ e.symm).2; omega))]
    simp
  have hw1 : Rdr W0 (w.alloc (.cells #[.slice (some ⟨cb, co, none⟩) c.counts.length cc, sv] 51)) rb ob inV p most out t := h.far ((Below.refl _ w).alloc (Nat.le_refl _) _)
  have hcel : ∀ wr, Fr rb ob (w.alloc (.cells #[.slice (some ⟨cb, co, none⟩) c.counts.length cc, sv] 51)) wr → ∀ i, i < c.counts.length → wr.cell? ⟨cb, co + i, none⟩ = some (.int .i64 (c.counts.getD i 0)) := by
    intro wr hf i hi
    rw [World.cell?_of_block (w := w) (a := ⟨cb, co + i, none⟩), hcells i hi]
    show wr.heap[cb]? = w.heap[cb]?
    rw [hf.block cb (by simp; omega) hcs.1 hcs.2, Below.heap_alloc _ _ _ hcb]
  have KX := Kept.mk hbx
  have KC := Kept.mk hcel
  have KH := Kept.mk h
  have K1 := Kept.mk hw1
  have KK := Kept.mk hok
  have KS := Kept.mk hsv
  clear hbx hcel h hw1 hok hc hcv hcells hB hsv hcs
  by_cases hc1 : cc = 1
  · subst hc1
    have hl : c.counts.length = 1 := by omega
    have KL := Kept.mk hl
    have hx : ¬ (0 : Int) < ((c.counts.length - 1 : Nat) : Int) := by omega
    clear hl
    go_enter Tryd.func28, Tryd.ntmps28
    go_wp2
    go_loopw [16] (fun i wr => i = .int .i64 0 ∧ wr = w.alloc (.cells #[.slice (some ⟨cb, co, none⟩) c.counts.length 1, sv] 51)) (fun _ _ => 0)
    case atStart => exact ⟨rfl, rfl⟩
    case round =>
      obtain ⟨rfl, rfl⟩ := hrel
      go_wp2
      go_ret2
      unfold After
      have e : symF p c t = .bad .form := by
        unfold symF
        have : c.counts.tail = [] := List.eq_nil_of_length_eq_zero (by simp [KL.out])
        rw [this, symGo]
      rw [e]
      exact ⟨rfl, KH.out.bel.alloc KH.out.bel.size _, (Fr.refl rb ob w).alloc _⟩
  · go_enter Tryd.func28, Tryd.ntmps28
    go_wp2
    go_loopw [6, 7, 16] (fun s6 s7 s16 wr => ∃ (k tk : Nat) (past at_ : Int), k ≤ c.counts.length - 1 ∧ s6 = .int .i64 past ∧ s7 = .int .i64 at_ ∧ s16 = .int .i64 k ∧ 0 ≤ past ∧ past < 2 ^ k ∧ 0 ≤ at_ ∧ at_ + (c.counts.tail.drop k).sum = c.symbols.length ∧ symGo p c.symbols (c.counts.tail.drop k) past at_ tk = symF p c t ∧ Rdr W0 wr rb ob inV p most out tk ∧ Fr rb ob (w.alloc (.cells #[.slice (some ⟨cb, co, none⟩) c.counts.length cc, sv] 51)) wr) (fun _ _ s16 _ => c.counts.length - 1 - (intOf s16).toNat)
    case atStart => exact ⟨0, t, 0, 0, by omega, rfl, rfl, rfl, by omega, by simp, by omega, by rw [List.drop_zero, KK.out.sum]; simp, by rw [List.drop_zero]; rfl, K1.out, Fr.refl _ _ _⟩
    case round =>
      obtain ⟨k, tk, past, at_, hk, rfl, rfl, rfl, hp0, hp1, ha0, hsum, hsym, hR, hF⟩ := hrel
      have KR := Kept.mk hR
      have KF := Kept.mk hF
      have KSY := Kept.mk hsym
      have KSU := Kept.mk hsum
      clear hR hF hsym hsum
      have hpk : (2 : Int) ^ k ≤ 32768 := by
        have : (2 : Nat) ^ k ≤ 2 ^ 15 := Nat.pow_le_pow_right (by omega) (by omega)
        exact_mod_cast this
      by_cases hlt : k < c.counts.length - 1
      · have hdrop : c.counts.tail.drop k = c.counts.getD (k + 1) 0 :: c.counts.tail.drop (k + 1) := by
          rw [List.drop_eq_getElem_cons (by simp; omega)]
          simp [List.getD, List.getElem?_eq_getElem (show k + 1 < c.counts.length by omega)]
        have hcn := KK.out.pos.getD (by omega) (k + 1)
        have hci := KC.out _ KF.out (k + 1) (by omega)
        have hrest := sum_nonneg (c.counts.tail.drop (k + 1)) (fun y hy => KK.out.pos y (List.mem_of_mem_tail (List.mem_of_mem_drop hy)))
        have hS := KSU.out
        have hG := KSY.out
        rw [hdrop] at hS hG
        simp only [List.sum_cons] at hS
        rw [symGo] at hG
        have hfew := KK.out.few
        have hnum := number_any 1 (by omega) KR.out
        have hx1 : co + (k + 1) = co + 1 + k := by omega
        rw [hx1] at hci
        have KD := Kept.mk hdrop
        generalize c.counts.getD (k + 1) 0 = cn at *
        clear hdrop
        have hki : (k : Int) < ((c.counts.length - 1 : Nat) : Int) := by omega
        rcases hq : numF p 1 tk with ⟨b, t1⟩ | er
        · obtain ⟨hb0, hb1, rfl⟩ := numF_one p tk b t1 hq
          rw [hq] at hnum hG
          dsimp only at hG
          simp only [After, encI] at hnum
          have KN := Kept.mk hnum
          have KG := Kept.mk hG
          have hor := or_bit past b hp0 (by omega) hb0 hb1
          clear hnum hG
          by_cases hin : 2 * past + b < cn
          · obtain ⟨sb, so, sc, rfl, hsb, hsc, hscm, hss, hscell⟩ := KS.out.open (by omega)
            have hidx : ∃ j : Nat, at_ + (2 * past + b) = j ∧ j < c.symbols.length := ⟨(at_ + (2 * past + b)).toNat, by omega, by omega⟩
            obtain ⟨j, hj, hjl⟩ := hidx
            have hcj := hscell j hjl
            have KCJ : Kept (∀ w1, Fr rb ob wr w1 → w1.cell? ⟨sb, so + j, none⟩ = some (.int .i64 (c.symbols.getD j 0))) := ⟨fun w1 hF1 => by
              rw [World.cell?_of_block (w := w) (a := ⟨sb, so + j, none⟩), hcj]
              show w1.heap[sb]? = w.heap[sb]?
              rw [(KF.out.trans hF1).block sb (by simp; omega) hss.1 hss.2, Below.heap_alloc _ _ _ hsb]⟩
            have hji : (j : Int) < (c.symbols.length : Int) := by omega
            have hG := KG.out
            rw [if_pos hin, hj, Int.toNat_natCast] at hG
            have KG2 := Kept.mk hG
            clear hscell hcj KG hG hsc hscm hss
            generalize c.symbols.getD j 0 = y at *
            go_wp2_with (go_at_call 39; refine Calls.mono KN.out (fun e w1 hp => ?_); obtain ⟨rfl, hR1, hF1⟩ := hp; have cx := KX.out _ (KF.out.trans hF1); have cy := KCJ.out _ hF1; have KR1 := Kept.mk hR1; have KF1 := Kept.mk hF1; clear hR1 hF1)
            go_ret2
            unfold After
            rw [← KG2.out]
            exact ⟨rfl, KR1.out, ((Fr.refl rb ob w).alloc _).trans (KF.out.trans KF1.out)⟩
          · have hG := KG.out
            rw [if_neg hin] at hG
            have KG2 := Kept.mk hG
            clear KG hG
            go_wp2_with (go_at_call 39; refine Calls.mono KN.out (fun e w1 hp => ?_); obtain ⟨rfl, hR1, hF1⟩ := hp; have KR1 := Kept.mk hR1; have KF1 := Kept.mk hF1; clear hR1 hF1)
            go_roundw
            case rel =>
              refine ⟨k + 1, tk + 1, 2 * past + b - cn, at_ + cn, by omega, rfl, rfl, by go_num, by omega, ?_, by omega, by omega, KG2.out, KR1.out, KF.out.trans KF1.out⟩
              rw [Int.pow_succ]
              omega
            case measure => simp [intOf]; omega
        · rw [hq] at hnum hG
          dsimp only at hG
          simp only [After, zeroI] at hnum
          have KN := Kept.mk hnum
          have KG := Kept.mk hG
          have her := er.rng
          have hne : ¬ er.v = 0 := by omega
          clear hnum hG
          go_wp2_with (go_at_call 39; refine Calls.mono KN.out (fun e w1 hp => ?_); obtain ⟨rfl, hR1, hF1⟩ := hp; have KR1 := Kept.mk hR1; have KF1 := Kept.mk hF1; clear hR1 hF1)
          go_ret2
          unfold After
          rw [← KG.out]
          exact ⟨rfl, KR1.out, ((Fr.refl rb ob w).alloc _).trans (KF.out.trans KF1.out)⟩
      · go_wp2
        go_ret2
        unfold After
        have e : symF p c t = .bad .form := by
          rw [← KSY.out]
          have : c.counts.tail.drop k = [] := List.eq_nil_of_length_eq_zero (by simp; omega)
          rw [this, symGo]
        rw [e]
        exact ⟨rfl, KR.out.bel, ((Fr.refl rb ob w).alloc _).trans KF.out⟩
end Go.Proofs.YthbcloplhjmkkaaDoor
