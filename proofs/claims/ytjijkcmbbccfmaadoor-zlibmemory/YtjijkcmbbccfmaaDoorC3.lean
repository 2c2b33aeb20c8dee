/-
  Walks: fixedCodes.
-/
import Derived.Test.YtjijkcmbbccfmaaDoorC1
namespace Go.Proofs.YtjijkcmbbccfmaaDoor
open Go.RowKit

def fixAt (k : Nat) : Int := if k < 144 then 8 else if k < 256 then 9 else if k < 280 then 7 else 8
theorem fixL_length : fixedL.length = 288 := by decide +kernel
theorem fixD_length : fixedD.length = 32 := by decide +kernel
theorem fixL_get (k : Nat) (h : k < 288) : fixedL.getD k 0 = fixAt k := (by decide +kernel : ∀ k : Fin 288, fixedL.getD k.val 0 = fixAt k.val) ⟨k, h⟩
theorem fixL_snoc (k : Nat) (h : k < 288) (v : Int) (hv : fixAt k = v) : fixedL.take (k + 1) = fixedL.take k ++ [v] := by
  have hl := fixL_length
  rw [List.take_succ_eq_append_getElem (by omega), ← hv, ← fixL_get k h]
  simp [List.getD, List.getElem?_eq_getElem (show k < fixedL.length by omega)]
theorem fixD_snoc (k : Nat) (h : k < 32) : fixedD.take (k + 1) = fixedD.take k ++ [5] := by
  exact (by decide +kernel : ∀ k : Fin 32, fixedD.take (k.val + 1) = fixedD.take k.val ++ [5]) ⟨k, h⟩
theorem fixL_in : AllIn 0 16 fixedL := by
  show ∀ x ∈ fixedL, 0 ≤ x ∧ x < 16
  decide +kernel
theorem fixD_in : AllIn 0 16 fixedD := by
  show ∀ x ∈ fixedD, 0 ≤ x ∧ x < 16
  decide +kernel

theorem heap4 (w : World) (b : Nat) (T : TypeId) (x0 x1 x2 x3 y0 y1 y2 y3 : Value) (h : w.heap[b]? = some (.cells #[x0, x1, x2, x3] T)) :
    ((((w.setCell ⟨b, 0, none⟩ y0).setCell ⟨b, 1, none⟩ y1).setCell ⟨b, 2, none⟩ y2).setCell ⟨b, 3, none⟩ y3).heap[b]? = some (.cells #[y0, y1, y2, y3] T) := by
  simp only [World.setCell, Array.getElem?_modify, h]
  simp

theorem four_far {k : IntKind} {w2 : World} {v : Value} {xs : List Int} {b n m : Nat} (h : Rd k (fun g => m ≤ g) w2 v xs) (hn : b + 1 ≤ n) (hm : n ≤ m) (y0 y1 y2 y3 : Value) : Rd k (fun g => b ≤ g) ((((w2.setCell ⟨b, 0, none⟩ y0).setCell ⟨b, 1, none⟩ y1).setCell ⟨b, 2, none⟩ y2).setCell ⟨b, 3, none⟩ y3) v xs :=
  h.far (by simp [World.setCell]) fun b' _ hS => ⟨by omega, by
    rw [Below.heap_setCell _ _ _ _ (show b' ≠ b by omega), Below.heap_setCell _ _ _ _ (show b' ≠ b by omega), Below.heap_setCell _ _ _ _ (show b' ≠ b by omega), Below.heap_setCell _ _ _ _ (show b' ≠ b by omega)]⟩

set_option maxHeartbeats 4000000 in
set_option maxRecDepth 100000 in
theorem fixedCodes_any (w : World) :
    Calls Tryd.prog 46 #[] w fun e w' => ∃ cv sv dv tv, e = .returned (.agg #[cv, sv, dv, tv]) ∧ Rd .i64 (fun b => w.heap.size ≤ b) w' cv (mkCd fixedL).counts ∧ Rd .i64 (fun b => w.heap.size ≤ b) w' sv (mkCd fixedL).symbols ∧ Rd .i64 (fun b => w.heap.size ≤ b) w' dv (mkCd fixedD).counts ∧ Rd .i64 (fun b => w.heap.size ≤ b) w' tv (mkCd fixedD).symbols ∧ Below w.heap.size w w' := by
  obtain ⟨i0, z0, hi, hz, hs, hb, hc⟩ := info64
  go_enter Tryd.func46, Tryd.ntmps46
  go_wp2
  have hblk0 : (w.alloc (.cells #[.slice none 0 0, .slice none 0 0, .slice none 0 0, .slice none 0 0] 71)).heap[w.heap.size]? = some (.cells #[.slice none 0 0, .slice none 0 0, .slice none 0 0, .slice none 0 0] 71) := heap_alloc_new w _
  have KB0 := Kept.mk hblk0
  clear hblk0
  go_loopw [1, 4, 3] (fun s1 s4 _ wr => ∃ (k : Nat) (q : Value) (LL : List Int), k ≤ 288 ∧ s4 = .int .i64 k ∧ s1 = q ∧ LL = fixedL.take k ∧ Own .i64 3 wr (w.heap.size + 1) q LL ∧ Below (w.heap.size + 1) (w.alloc (.cells #[.slice none 0 0, .slice none 0 0, .slice none 0 0, .slice none 0 0] 71)) wr) (fun _ s4 _ _ => 288 - (intOf s4).toNat)
  case atStart => exact ⟨0, _, [], by omega, rfl, rfl, rfl, Own.nil _ _ _ _, Below.refl _ _⟩
  case round =>
    obtain ⟨k, q, LL, hk, rfl, rfl, hLL, howq, hbel⟩ := hrel
    have hwz : w.heap.size + 1 ≤ wr.heap.size := by have := hbel.size; simp at this; omega
    have hll : LL.length ≤ 288 := by rw [hLL, List.length_take]; omega
    have KL := Kept.mk hLL
    clear hLL
    by_cases hlt : k < 288
    · have hlti : (k : Int) < 288 := by omega
      by_cases h1 : k < 144
      · have h1i : (k : Int) < 144 := by omega
        obtain ⟨na, nc, rfl, -, hl2, hcm2⟩ := howq.rd.form
        clear hl2 hcm2
        have hrd := Kept.mk (Rd.one .i64 wr 8 3)
        have how := Kept.mk (howq.alloc (.cells #[.int .i64 8] 3))
        have KQ := Kept.mk howq
        have KB := Kept.mk hbel
        clear howq hbel
        go_wp2_with (at_builtin; refine wpList_append_rd _ rfl _ _ 49 rfl .i64 anyB 8 (w.heap.size + 1) 3 i0 z0 Tryd.underlying49 hi hz hs hb hc (by omega) (.slice na LL.length nc) LL rfl how.out _ [8] rfl hrd.out (by simp; omega) (by simp; omega) ?_; intro v' w1 hown hgrow hat; have KO1 := Kept.mk hown; have KG1 := Kept.mk hgrow; clear hown hgrow hat)
        go_roundw
        case rel => exact ⟨k + 1, v', LL ++ [8], by omega, by go_num, rfl, by rw [KL.out]; exact (fixL_snoc k hlt 8 (by simp [fixAt, h1])).symm, KO1.out, (KB.out.alloc (by omega) _).grown KG1.out (by simp; omega) (fun g e => by have := (KQ.out.lt g e).1; omega)⟩
        case measure => simp [intOf]; omega
      · have h1i : ¬ (k : Int) < 144 := by omega
        by_cases h2 : k < 256
        · have h2i : (k : Int) < 256 := by omega
          obtain ⟨na, nc, rfl, -, hl2, hcm2⟩ := howq.rd.form
          clear hl2 hcm2
          have hrd := Kept.mk (Rd.one .i64 wr 9 3)
          have how := Kept.mk (howq.alloc (.cells #[.int .i64 9] 3))
          have KQ := Kept.mk howq
          have KB := Kept.mk hbel
          clear howq hbel
          go_wp2_with (at_builtin; refine wpList_append_rd _ rfl _ _ 49 rfl .i64 anyB 8 (w.heap.size + 1) 3 i0 z0 Tryd.underlying49 hi hz hs hb hc (by omega) (.slice na LL.length nc) LL rfl how.out _ [9] rfl hrd.out (by simp; omega) (by simp; omega) ?_; intro v' w1 hown hgrow hat; have KO1 := Kept.mk hown; have KG1 := Kept.mk hgrow; clear hown hgrow hat)
          go_roundw
          case rel => exact ⟨k + 1, v', LL ++ [9], by omega, by go_num, rfl, by rw [KL.out]; exact (fixL_snoc k hlt 9 (by simp [fixAt, h1, h2])).symm, KO1.out, (KB.out.alloc (by omega) _).grown KG1.out (by simp; omega) (fun g e => by have := (KQ.out.lt g e).1; omega)⟩
          case measure => simp [intOf]; omega
        · have h2i : ¬ (k : Int) < 256 := by omega
          by_cases h3 : k < 280
          · have h3i : (k : Int) < 280 := by omega
            obtain ⟨na, nc, rfl, -, hl2, hcm2⟩ := howq.rd.form
            clear hl2 hcm2
            have hrd := Kept.mk (Rd.one .i64 wr 7 3)
            have how := Kept.mk (howq.alloc (.cells #[.int .i64 7] 3))
            have KQ := Kept.mk howq
            have KB := Kept.mk hbel
            clear howq hbel
            go_wp2_with (at_builtin; refine wpList_append_rd _ rfl _ _ 49 rfl .i64 anyB 8 (w.heap.size + 1) 3 i0 z0 Tryd.underlying49 hi hz hs hb hc (by omega) (.slice na LL.length nc) LL rfl how.out _ [7] rfl hrd.out (by simp; omega) (by simp; omega) ?_; intro v' w1 hown hgrow hat; have KO1 := Kept.mk hown; have KG1 := Kept.mk hgrow; clear hown hgrow hat)
            go_roundw
            case rel => exact ⟨k + 1, v', LL ++ [7], by omega, by go_num, rfl, by rw [KL.out]; exact (fixL_snoc k hlt 7 (by simp [fixAt, h1, h2, h3])).symm, KO1.out, (KB.out.alloc (by omega) _).grown KG1.out (by simp; omega) (fun g e => by have := (KQ.out.lt g e).1; omega)⟩
            case measure => simp [intOf]; omega
          · have h3i : ¬ (k : Int) < 280 := by omega
            obtain ⟨na, nc, rfl, -, hl2, hcm2⟩ := howq.rd.form
            clear hl2 hcm2
            have hrd := Kept.mk (Rd.one .i64 wr 8 3)
            have how := Kept.mk (howq.alloc (.cells #[.int .i64 8] 3))
            have KQ := Kept.mk howq
            have KB := Kept.mk hbel
            clear howq hbel
            go_wp2_with (at_builtin; refine wpList_append_rd _ rfl _ _ 49 rfl .i64 anyB 8 (w.heap.size + 1) 3 i0 z0 Tryd.underlying49 hi hz hs hb hc (by omega) (.slice na LL.length nc) LL rfl how.out _ [8] rfl hrd.out (by simp; omega) (by simp; omega) ?_; intro v' w1 hown hgrow hat; have KO1 := Kept.mk hown; have KG1 := Kept.mk hgrow; clear hown hgrow hat)
            go_roundw
            case rel => exact ⟨k + 1, v', LL ++ [8], by omega, by go_num, rfl, by rw [KL.out]; exact (fixL_snoc k hlt 8 (by simp [fixAt, h1, h2, h3])).symm, KO1.out, (KB.out.alloc (by omega) _).grown KG1.out (by simp; omega) (fun g e => by have := (KQ.out.lt g e).1; omega)⟩
            case measure => simp [intOf]; omega
    · obtain ⟨k1, hk1⟩ : ∃ k1, k1 = k := ⟨_, rfl⟩
      rw [← hk1] at KL
      have KE : Kept (k1 = 288) := ⟨by omega⟩
      clear hk1
      have KQ := Kept.mk howq
      have KB := Kept.mk hbel
      obtain ⟨qa, qc, rfl, -, -, -⟩ := howq.rd.form
      clear howq hbel
      go_wp2
      rename World => wz
      go_loopw [2, 29] (fun s2 s29 wr => ∃ (k : Nat) (q : Value) (DD : List Int), k ≤ 32 ∧ s29 = .int .i64 k ∧ s2 = q ∧ DD = fixedD.take k ∧ Own .i64 3 wr wz.heap.size q DD ∧ Below wz.heap.size wz wr) (fun _ s29 _ => 32 - (intOf s29).toNat)
      case atStart => exact ⟨0, _, [], by omega, rfl, rfl, rfl, Own.nil _ _ _ _, Below.refl _ _⟩
      case round =>
        obtain ⟨k, q, DD, hk2, rfl, rfl, hDD, howq, hbel⟩ := hrel
        have hwz2 : wz.heap.size ≤ wr.heap.size := hbel.size
        have hdl : DD.length ≤ 32 := by rw [hDD, List.length_take]; omega
        have KL2 := Kept.mk hDD
        clear hDD
        by_cases hlt2 : k < 32
        · have hlti : (k : Int) < 32 := by omega
          obtain ⟨na, nc, rfl, -, hl2, hcm2⟩ := howq.rd.form
          clear hl2 hcm2
          have hrd := Kept.mk (Rd.one .i64 wr 5 3)
          have how := Kept.mk (howq.alloc (.cells #[.int .i64 5] 3))
          have KQ2 := Kept.mk howq
          have KB2 := Kept.mk hbel
          clear howq hbel
          go_wp2_with (at_builtin; refine wpList_append_rd _ rfl _ _ 49 rfl .i64 anyB 8 wz.heap.size 3 i0 z0 Tryd.underlying49 hi hz hs hb hc (by omega) (.slice na DD.length nc) DD rfl how.out _ [5] rfl hrd.out (by simp; omega) (by simp; omega) ?_; intro v' w1 hown hgrow hat; have KO1 := Kept.mk hown; have KG1 := Kept.mk hgrow; clear hown hgrow hat)
          go_roundw
          case rel => exact ⟨k + 1, v', DD ++ [5], by omega, by go_num, rfl, by rw [KL2.out]; exact (fixD_snoc k hlt2).symm, KO1.out, (KB2.out.alloc (by omega) _).grown KG1.out (by simp; omega) (fun g e => by have := (KQ2.out.lt g e).1; omega)⟩
          case measure => simp [intOf]; omega
        · obtain rfl : k = 32 := by omega
          obtain ⟨na, nc, rfl, -, hl2, hcm2⟩ := howq.rd.form
          have hL : LL = fixedL := by rw [KL.out, KE.out]; exact List.take_of_length_le (by rw [fixL_length]; omega)
          have hD : DD = fixedD := by rw [KL2.out]; exact List.take_of_length_le (by rw [fixD_length]; omega)
          subst hL hD
          have hr1 : Rd .i64 anyB wr (.slice qa fixedL.length qc) fixedL := (KQ.out.rd.later hbel (Nat.le_refl _)).any
          have KM1 := Kept.mk (makeCode_any _ fixedL wr hr1 (by rw [fixL_length]; omega) fixL_in)
          have KD2 := Kept.mk howq.rd.any
          have hblk : wr.heap[w.heap.size]? = some (.cells #[.slice none 0 0, .slice none 0 0, .slice none 0 0, .slice none 0 0] 71) := by
            rw [hbel.block _ (by omega), KB.out.block _ (by omega)]
            exact KB0.out
          have KBL := Kept.mk hblk
          have hbw : Below w.heap.size w wr := (((Below.refl w.heap.size w).alloc (Nat.le_refl _) _).trans (KB.out.mono (by omega))).trans (hbel.mono (by omega))
          have KBW := Kept.mk hbw
          clear hr1 howq hbel hblk hbw hl2 hcm2 KL KL2 KQ KB KB0 hll hdl
          go_wp2_with fail
          refine Calls.mono KM1.out (fun e w1 hp => ?_)
          obtain ⟨cv, sv, rfl, hcv, hsv, hb1⟩ := hp
          have hz1 := hb1.size
          have KM2 := Kept.mk (makeCode_any _ fixedD w1 (KD2.out.later hb1 (Nat.le_refl _)) (by rw [fixD_length]; omega) fixD_in)
          have KCV := Kept.mk hcv
          have KSV := Kept.mk hsv
          have KB1 := Kept.mk hb1
          clear hcv hsv hb1
          go_wp2_with fail
          refine Calls.mono KM2.out (fun e w2 hp => ?_)
          obtain ⟨dv, tv, rfl, hdv, htv, hb2⟩ := hp
          have hz2 := hb2.size
          obtain ⟨c1, c2, rfl, -, -, -⟩ := KCV.out.form
          obtain ⟨s1, s2, rfl, -, -, -⟩ := KSV.out.form
          obtain ⟨d1, d2, rfl, -, -, -⟩ := hdv.form
          obtain ⟨t1, t2, rfl, -, -, -⟩ := htv.form
          have hF : w2.heap[w.heap.size]? = some (.cells #[.slice none 0 0, .slice none 0 0, .slice none 0 0, .slice none 0 0] 71) := by
            rw [hb2.block _ (by omega), KB1.out.block _ (by omega)]
            exact KBL.out
          have g0 : w2.cell? ⟨w.heap.size, 0, none⟩ = some (.slice none 0 0) := by simp [World.cell?, hF]
          have g1 : w2.cell? ⟨w.heap.size, 1, none⟩ = some (.slice none 0 0) := by simp [World.cell?, hF]
          have g2 : w2.cell? ⟨w.heap.size, 2, none⟩ = some (.slice none 0 0) := by simp [World.cell?, hF]
          have g3 : w2.cell? ⟨w.heap.size, 3, none⟩ = some (.slice none 0 0) := by simp [World.cell?, hF]
          have f0 : ∀ i, w2.frozen? ⟨w.heap.size, i, none⟩ = false := by intro i; simp [World.frozen?, hF]
          have KDV := Kept.mk hdv
          have KTV := Kept.mk htv
          have KB2 := Kept.mk hb2
          have KF := Kept.mk hF
          clear hdv htv hb2 hF
          go_wp2
          refine bodyPost_ret (v := .agg #[.slice c1 (mkCd fixedL).counts.length c2, .slice s1 (mkCd fixedL).symbols.length s2, .slice d1 (mkCd fixedD).counts.length d2, .slice t1 (mkCd fixedD).symbols.length t2]) ?_ rfl ⟨_, _, _, _, rfl, ?_, ?_, ?_, ?_, ?_⟩
          · have h4 := heap4 w2 w.heap.size 71 _ _ _ _ (.slice c1 (mkCd fixedL).counts.length c2) (.slice s1 (mkCd fixedL).symbols.length s2) (.slice d1 (mkCd fixedD).counts.length d2) (.slice t1 (mkCd fixedD).symbols.length t2) KF.out
            exact results_cell_row (p := 0) (ty := 71) Tryd.results46 _ _ w.heap.size 71 _ (0, 0) _ rfl h4 Tryd.underlying71 rfl rfl
          · exact four_far (KCV.out.later KB2.out (Nat.le_refl _)) hwz hwz2 _ _ _ _
          · exact four_far (KSV.out.later KB2.out (Nat.le_refl _)) hwz hwz2 _ _ _ _
          · exact four_far KDV.out hwz (Nat.le_trans hwz2 hz1) _ _ _ _
          · exact four_far KTV.out hwz (Nat.le_trans hwz2 hz1) _ _ _ _
          · exact ((((((KBW.out.trans (KB1.out.mono (by omega))).trans (KB2.out.mono (by omega))).setCell (Nat.le_refl _) _).setCell (Nat.le_refl _) _).setCell (Nat.le_refl _) _).setCell (Nat.le_refl _) _)
end Go.Proofs.YtjijkcmbbccfmaaDoor
