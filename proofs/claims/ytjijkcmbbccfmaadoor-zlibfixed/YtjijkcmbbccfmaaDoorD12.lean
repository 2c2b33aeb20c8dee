/-
  The document's reader: a symbol of a table; the order; the lengths of way 1.
-/
import Derived.Test.YtjijkcmbbccfmaaDoorD11
import Derived.Test.YtjijkcmbbccfmaaDoorC3
namespace Go.Proofs.YtjijkcmbbccfmaaDoor
open Go.RowKit

/-- The table of lengths, as tabled hands it back. -/
def tabV (sv : Value) (L : List Int) : Value := .agg (sv :: (csF L 16 0).map (Value.int .i64)).toArray
theorem dsymbol_tab {W0 w : World} {rb : Nat} {ob : Option Nat} {inV : Value} {p out : List Int} {most t : Nat} {E : Int} {R : Rs Int} {L : List Int} {sv : Value} (hlen : L.length ≤ 400)
    (hs : Rd .i64 (Sep rb ob) w sv (symsF L 15)) (hR : PreD R (symF p (mkCd L) t) E) (h : Bts W0 w rb ob inV p most out t E) :
    Calls Tryd.prog 55 #[.pointer (some ⟨rb, 0, none⟩), tabV sv L] w fun e w' => ∃ v t' E', e = .returned (.int .i64 v) ∧ StD R v t' E' ∧ (E' ≠ 0 → v = 0) ∧ Bts W0 w' rb ob inV p most out t' E' ∧ Fr rb ob w w' := by
  have hcs := list16 (csF L 16 0) (csF_length L 16 0)
  have hd : (csF L 16 0).drop 1 = (csF L 16 0).tail := by rw [List.drop_one]
  rw [← dGo_sym, ← hd] at hR
  have hsum : ((csF L 16 0).drop 1).sum = (symsF L 15).length := by
    obtain ⟨cs, h1, -⟩ := cntsF_head L 15
    have h2 := cntsF_sum L 15
    rw [cs_cnts]
    rw [h1] at h2 ⊢
    rw [List.sum_cons] at h2
    show cs.sum = _
    omega
  have hin : AllIn 0 1000 (csF L 16 0) := by
    rw [cs_cnts]
    intro y hy
    have := cntsF_in L 15 y hy
    omega
  have hfew : (symsF L 15).length ≤ 1000 := by have := symsF_length 15 L; omega
  have := dsymbol_lit (sv := sv) _ _ _ _ _ _ _ _ _ _ _ _ _ _ _ _ (csF L 16 0) hcs hin hsum hfew hs hR h
  unfold tabV
  rw [hcs]
  exact this

set_option maxHeartbeats 1000000 in
set_option maxRecDepth 100000 in
theorem dorder_any (w : World) : Calls Tryd.prog 57 #[] w fun e w' => e = .returned (.slice (some ⟨w.heap.size, 0, none⟩) 19 19) ∧ Rd .i64 (fun b => b = w.heap.size) w' (.slice (some ⟨w.heap.size, 0, none⟩) 19 19) orderL ∧ Below w.heap.size w w' := by
  go_enter Tryd.func57, Tryd.ntmps57
  go_wp2
  go_ret
  refine ⟨rfl, ?_, (Below.refl _ _).alloc (Nat.le_refl _) _⟩
  have hb : Blk (w.alloc (.cells (cellsK .i64 orderL).toArray 3)) w.heap.size orderL := heap_alloc_new w _
  exact hb.rd (by decide)

set_option maxHeartbeats 1000000 in
set_option maxRecDepth 100000 in
theorem dfixed_any (w : World) : Calls Tryd.prog 29 #[] w fun e w' => ∃ lv dv, e = .returned (.tuple #[lv, dv]) ∧ Rd .i64 (fun b => w.heap.size ≤ b) w' lv fixedL ∧ Rd .i64 (fun b => w.heap.size ≤ b) w' dv fixedD ∧ Below w.heap.size w w' := by
  obtain ⟨i0, z0, hi, hz, hs, hb, hc⟩ := info64
  go_enter Tryd.func29, Tryd.ntmps29
  go_wp2
  go_loopw [2, 4, 5] (fun s2 s4 _ wr => ∃ (k : Nat) (q : Value) (LL : List Int), k ≤ 288 ∧ s4 = .int .i64 k ∧ s2 = q ∧ LL = fixedL.take k ∧ Own .i64 3 wr w.heap.size q LL ∧ Below w.heap.size w wr) (fun _ s4 _ _ => 288 - (intOf s4).toNat)
  case atStart => exact ⟨0, _, [], by omega, rfl, rfl, rfl, Own.nil _ _ _ _, Below.refl _ _⟩
  case round =>
    obtain ⟨k, q, LL, hk, rfl, rfl, hLL, howq, hbel⟩ := hrel
    have hwz : w.heap.size ≤ wr.heap.size := hbel.size
    have hll : LL.length ≤ 288 := by rw [hLL, List.length_take]; omega
    have KL := Kept.mk hLL
    clear hLL
    by_cases hlt : k < 288
    · have hlti : (k : Int) < 288 := by omega
      by_cases h1 : k < 144
      · have h1i : (k : Int) < 144 := by omega
        have h1j : ¬ (144 : Int) ≤ (k : Int) := by omega
        have h1k : ¬ (256 : Int) ≤ (k : Int) := by omega
        obtain ⟨na, nc, rfl, -, hl2, hcm2⟩ := howq.rd.form
        clear hl2 hcm2
        have hrd := Kept.mk (Rd.one .i64 wr 8 3)
        have how := Kept.mk (howq.alloc (.cells #[.int .i64 8] 3))
        have KQ := Kept.mk howq
        have KB := Kept.mk hbel
        clear howq hbel
        go_wp2_with (at_builtin; refine wpList_append_rd _ rfl _ _ 49 rfl .i64 anyB 8 w.heap.size 3 i0 z0 Tryd.underlying49 hi hz hs hb hc (by omega) (.slice na LL.length nc) LL rfl how.out _ [8] rfl hrd.out (by simp; omega) (by simp; omega) ?_; intro v' w1 hown hgrow hat; have KO1 := Kept.mk hown; have KG1 := Kept.mk hgrow; clear hown hgrow hat)
        go_roundw
        case rel => exact ⟨k + 1, v', LL ++ [8], by omega, by go_num, rfl, by rw [KL.out]; exact (fixL_snoc k hlt 8 (by simp [fixAt, h1])).symm, KO1.out, (KB.out.alloc (by omega) _).grown KG1.out (by simp; omega) (fun g e => by have := (KQ.out.lt g e).1; omega)⟩
        case measure => simp [intOf]; omega
      · have h1i : (144 : Int) ≤ (k : Int) := by omega
        by_cases h2 : k < 256
        · have h2i : (k : Int) < 256 := by omega
          have h2j : ¬ (256 : Int) ≤ (k : Int) := by omega
          obtain ⟨na, nc, rfl, -, hl2, hcm2⟩ := howq.rd.form
          clear hl2 hcm2
          have hrd := Kept.mk (Rd.one .i64 wr 9 3)
          have how := Kept.mk (howq.alloc (.cells #[.int .i64 9] 3))
          have KQ := Kept.mk howq
          have KB := Kept.mk hbel
          clear howq hbel
          go_wp2_with (at_builtin; refine wpList_append_rd _ rfl _ _ 49 rfl .i64 anyB 8 w.heap.size 3 i0 z0 Tryd.underlying49 hi hz hs hb hc (by omega) (.slice na LL.length nc) LL rfl how.out _ [9] rfl hrd.out (by simp; omega) (by simp; omega) ?_; intro v' w1 hown hgrow hat; have KO1 := Kept.mk hown; have KG1 := Kept.mk hgrow; clear hown hgrow hat)
          go_roundw
          case rel => exact ⟨k + 1, v', LL ++ [9], by omega, by go_num, rfl, by rw [KL.out]; exact (fixL_snoc k hlt 9 (by simp [fixAt, h1, h2])).symm, KO1.out, (KB.out.alloc (by omega) _).grown KG1.out (by simp; omega) (fun g e => by have := (KQ.out.lt g e).1; omega)⟩
          case measure => simp [intOf]; omega
        · have h2i : ¬ (k : Int) < 256 := by omega
          have h2j : (256 : Int) ≤ (k : Int) := by omega
          by_cases h3 : k < 280
          · have h3i : (k : Int) < 280 := by omega
            obtain ⟨na, nc, rfl, -, hl2, hcm2⟩ := howq.rd.form
            clear hl2 hcm2
            have hrd := Kept.mk (Rd.one .i64 wr 7 3)
            have how := Kept.mk (howq.alloc (.cells #[.int .i64 7] 3))
            have KQ := Kept.mk howq
            have KB := Kept.mk hbel
            clear howq hbel
            go_wp2_with (at_builtin; refine wpList_append_rd _ rfl _ _ 49 rfl .i64 anyB 8 w.heap.size 3 i0 z0 Tryd.underlying49 hi hz hs hb hc (by omega) (.slice na LL.length nc) LL rfl how.out _ [7] rfl hrd.out (by simp; omega) (by simp; omega) ?_; intro v' w1 hown hgrow hat; have KO1 := Kept.mk hown; have KG1 := Kept.mk hgrow; clear hown hgrow hat)
            go_roundw
            case rel => exact ⟨k + 1, v', LL ++ [7], by omega, by go_num, rfl, by rw [KL.out]; exact (fixL_snoc k hlt 7 (by simp [fixAt, h1, h2, h3])).symm, KO1.out, (KB.out.alloc (by omega) _).grown KG1.out (by simp; omega) (fun g e => by have := (KQ.out.lt g e).1; omega)⟩
            case measure => simp [intOf]; omega
          · have h3i : ¬ (k : Int) < 280 := by omega
            obtain ⟨na, nc, rfl, -, hl2, hcm2⟩ := howq.rd.form
            clear hl2 hcm2
            have hrd := Kept.mk (Rd.one .i64 wr 8 3)
            have how := Kept.mk (howq.alloc (.cells #[.int .i64 8] 3))
            have KQ := Kept.mk howq
            have KB := Kept.mk hbel
            clear howq hbel
            go_wp2_with (at_builtin; refine wpList_append_rd _ rfl _ _ 49 rfl .i64 anyB 8 w.heap.size 3 i0 z0 Tryd.underlying49 hi hz hs hb hc (by omega) (.slice na LL.length nc) LL rfl how.out _ [8] rfl hrd.out (by simp; omega) (by simp; omega) ?_; intro v' w1 hown hgrow hat; have KO1 := Kept.mk hown; have KG1 := Kept.mk hgrow; clear hown hgrow hat)
            go_roundw
            case rel => exact ⟨k + 1, v', LL ++ [8], by omega, by go_num, rfl, by rw [KL.out]; exact (fixL_snoc k hlt 8 (by simp [fixAt, h1, h2, h3])).symm, KO1.out, (KB.out.alloc (by omega) _).grown KG1.out (by simp; omega) (fun g e => by have := (KQ.out.lt g e).1; omega)⟩
            case measure => simp [intOf]; omega
    · obtain ⟨k1, hk1⟩ : ∃ k1, k1 = k := ⟨_, rfl⟩
      rw [← hk1] at KL
      have KE : Kept (k1 = 288) := ⟨by omega⟩
      clear hk1
      have KQ := Kept.mk howq
      have KB := Kept.mk hbel
      obtain ⟨qa, qc, rfl, -, -, -⟩ := howq.rd.form
      clear howq hbel
      go_wp2
      rename World => wz
      go_loopw [3, 6] (fun s2 s29 wr => ∃ (k : Nat) (q : Value) (DD : List Int), k ≤ 32 ∧ s29 = .int .i64 k ∧ s2 = q ∧ DD = fixedD.take k ∧ Own .i64 3 wr wz.heap.size q DD ∧ Below wz.heap.size wz wr) (fun _ s29 _ => 32 - (intOf s29).toNat)
      case atStart => exact ⟨0, _, [], by omega, rfl, rfl, rfl, Own.nil _ _ _ _, Below.refl _ _⟩
      case round =>
        obtain ⟨k, q, DD, hk2, rfl, rfl, hDD, howq, hbel⟩ := hrel
        have hwz2 : wz.heap.size ≤ wr.heap.size := hbel.size
        have hdl : DD.length ≤ 32 := by rw [hDD, List.length_take]; omega
        have KL2 := Kept.mk hDD
        clear hDD
        by_cases hlt2 : k < 32
        · have hlti : (k : Int) < 32 := by omega
          obtain ⟨na, nc, rfl, -, hl2, hcm2⟩ := howq.rd.form
          clear hl2 hcm2
          have hrd := Kept.mk (Rd.one .i64 wr 5 3)
          have how := Kept.mk (howq.alloc (.cells #[.int .i64 5] 3))
          have KQ2 := Kept.mk howq
          have KB2 := Kept.mk hbel
          clear howq hbel
          go_wp2_with (at_builtin; refine wpList_append_rd _ rfl _ _ 49 rfl .i64 anyB 8 wz.heap.size 3 i0 z0 Tryd.underlying49 hi hz hs hb hc (by omega) (.slice na DD.length nc) DD rfl how.out _ [5] rfl hrd.out (by simp; omega) (by simp; omega) ?_; intro v' w1 hown hgrow hat; have KO1 := Kept.mk hown; have KG1 := Kept.mk hgrow; clear hown hgrow hat)
          go_roundw
          case rel => exact ⟨k + 1, v', DD ++ [5], by omega, by go_num, rfl, by rw [KL2.out]; exact (fixD_snoc k hlt2).symm, KO1.out, (KB2.out.alloc (by omega) _).grown KG1.out (by simp; omega) (fun g e => by have := (KQ2.out.lt g e).1; omega)⟩
          case measure => simp [intOf]; omega
        · obtain rfl : k = 32 := by omega
          obtain ⟨na, nc, rfl, -, hl2, hcm2⟩ := howq.rd.form
          have hL : LL = fixedL := by rw [KL.out, KE.out]; exact List.take_of_length_le (by rw [fixL_length]; omega)
          have hD : DD = fixedD := by rw [KL2.out]; exact List.take_of_length_le (by rw [fixD_length]; omega)
          subst hL hD
          have hr1 := Kept.mk ((KQ.out.rd.weak (S' := fun b => w.heap.size ≤ b) (fun b _ e => (KQ.out.lt b e).1)).later hbel (Nat.le_refl _))
          have hr2 := Kept.mk (howq.rd.weak (S' := fun b => w.heap.size ≤ b) (fun b _ e => Nat.le_trans hwz (howq.lt b e).1))
          have hb2 := Kept.mk (KB.out.trans (hbel.mono hwz))
          clear howq hbel hl2 hcm2
          go_wp2
          go_ret2
          exact ⟨_, _, rfl, hr1.out, hr2.out, hb2.out⟩
end Go.Proofs.YtjijkcmbbccfmaaDoor
