/-
  The document's reader: tabled.
-/
import Derived.Test.YtjijkcmbbccfmaaDoorD8
namespace Go.Proofs.YtjijkcmbbccfmaaDoor
open Go.RowKit

theorem symsF_step (L : List Int) (n : Nat) (hn : 1 ≤ n) : symsF L n = symsF L (n - 1) ++ idxF (n : Int) L 0 := by
  obtain ⟨k, rfl⟩ : ∃ k, n = k + 1 := ⟨n - 1, by omega⟩
  rw [symsF, Nat.add_sub_cancel]
  rfl

set_option maxHeartbeats 2000000 in
set_option maxRecDepth 100000 in
theorem dtabled_any {S : Nat → Prop} (w : World) (v : Value) (L : List Int) (hin : AllIn 0 16 L) (hlen : L.length ≤ 400) (hv : Rd .i64 S w v L) :
    Calls Tryd.prog 54 #[v] w fun e w' => ∃ sv, e = .returned (.agg (sv :: (csF L 16 0).map (Value.int .i64)).toArray) ∧ Rd .i64 (fun b => w.heap.size ≤ b) w' sv (symsF L 15) ∧ Below w.heap.size w w' := by
  obtain ⟨i0, z0, hi, hz, hs, hb, hc⟩ := info64
  obtain ⟨va, vc, rfl, -, hlc, hcm⟩ := hv.form
  have KV := Kept.mk hv
  have KI := Kept.mk hin
  clear hv hin hcm
  go_enter Tryd.func54, Tryd.ntmps54
  go_wp2
  go_loopw [4, 5, 6] (fun s4 _ _ wr => ∃ (n : Nat) (sv : Value), 1 ≤ n ∧ n ≤ 16 ∧ s4 = .int .i64 n ∧ Tk w wr sv (csF L n 0) (symsF L (n - 1))) (fun s4 _ _ _ => 16 - (intOf s4).toNat)
  case atStart =>
    refine ⟨1, .slice none 0 0, by omega, by omega, rfl, ?_, ?_, Own.nil _ _ _ _, ((Below.refl _ _).alloc (Nat.le_refl _) _).alloc (by simp) _⟩
    · rw [csF_start]
      unfold TT
      have := heap_alloc_new (w.alloc (.cells ((.slice none 0 0) :: (List.replicate 16 (0 : Int)).map (Value.int .i64)).toArray 84)) (.cells ((.slice none 0 0) :: (List.replicate 16 (0 : Int)).map (Value.int .i64)).toArray 84)
      have e : (w.alloc (.cells ((.slice none 0 0) :: (List.replicate 16 (0 : Int)).map (Value.int .i64)).toArray 84)).heap.size = w.heap.size + 1 := by simp
      rw [e] at this
      exact this
    · unfold TT
      rw [Below.heap_alloc _ _ _ (by simp)]
      exact heap_alloc_new w _
  case round =>
    obtain ⟨n, sv, hn1, hn2, rfl, hM⟩ := hrel
    have KM := Kept.mk hM
    have hbw := hM.bel.size
    clear hM
    by_cases hlt : n ≤ 15
    · have hk2 : (n : Int) ≤ 15 := by omega
      go_wp2
      go_loopw [13, 5, 6] (fun s13 _ _ wq => ∃ (j : Nat) (sv' : Value) (SS : List Int), j ≤ L.length ∧ s13 = .int .i64 j ∧ SS = symsF L (n - 1) ++ idxF (n : Int) (L.take j) 0 ∧ Tk w wq sv' (csF L n j) SS) (fun s13 _ _ _ => L.length - (intOf s13).toNat)
      case atStart =>
        refine ⟨0, sv, _, by omega, rfl, rfl, ?_⟩
        rw [List.take_zero, idxF, List.append_nil]
        exact KM.out
      case round =>
        clear KM hbw
        obtain ⟨j, sv', SS, hj, rfl, hSS, hM⟩ := hrel
        have KM2 := Kept.mk hM
        have hcb := hM.tt
        have c0 := hcb.c0
        have f0 := hcb.fz 0
        have hlt1 := hcb.lt
        have hle : SS.length ≤ 800 := by
          have h1 := symsF_length (n - 1) L
          have h2 := idxF_length (n : Int) (L.take j) 0
          have h3 : (L.take j).length ≤ L.length := by simp; omega
          rw [hSS, List.length_append]
          omega
        have KSS := Kept.mk hSS
        clear hM hcb hSS
        by_cases hlj : j < L.length
        · have hlj2 : (j : Int) < (L.length : Int) := by omega
          obtain ⟨b, off, c2, he, hbl, -, -, -, hcells⟩ := KV.out.open (by omega)
          simp only [Value.slice.injEq, true_and] at he
          obtain ⟨rfl, rfl⟩ := he
          have hcj : wr.cell? ⟨b, off + j, none⟩ = some (.int .i64 (L.getD j 0)) := by
            rw [KM2.out.bel.cell (p := ⟨b, off + j, none⟩) hbl]
            exact hcells j hlj
          have hby := KI.out.getD (by omega) j
          have HS : Kept (idxF (n : Int) (L.take (j + 1)) 0 = idxF (n : Int) (L.take j) 0 ++ if L.getD j 0 = (n : Int) then [(j : Int)] else []) := ⟨by
            have e : L.take (j + 1) = L.take j ++ [L.getD j 0] := by
              rw [List.take_add_one, List.getD, List.getElem?_eq_getElem hlj]
              rfl
            have hl : (L.take j).length = j := by simp; omega
            rw [e, idxF_snoc, hl, Int.zero_add]⟩
          clear hcells
          by_cases hx : L.getD j 0 = (n : Int)
          · have KC := Kept.mk (csF_hit L n j hn1 hlt hlj hx)
            have hcr : 0 ≤ (csF L n j).getD n 0 ∧ (csF L n j).getD n 0 ≤ 400 := by
              rw [csF_getD _ _ _ _ (by omega), if_neg (by omega), if_neg (by omega)]
              have h2 := idxF_length (n : Int) (L.take j) 0
              have h3 : (L.take j).length ≤ L.length := by simp; omega
              omega
            have HS2 := HS.out
            rw [if_pos hx] at HS2
            have KHS := Kept.mk HS2
            rw [hx] at hcj hby
            clear HS HS2 hx
            have hcl := csF_length L n j
            have KCL : Kept (n < (csF L n j).length) := ⟨by omega⟩
            clear hcl
            obtain ⟨sa, sc, rfl, -, hslc, hscm⟩ := KM2.out.os.rd.form
            clear hslc hscm
            have hrd := Kept.mk (Rd.one .i64 wr j 3)
            have how := Kept.mk (KM2.out.os.alloc (.cells #[.int .i64 (j : Int)] 3))
            generalize csF L n j = CS at *
            generalize hcn : CS.getD n 0 = cn at *
            have KCN := Kept.mk hcn
            clear hcn
            go_wp2_with (at_builtin; refine wpList_append_rd _ rfl _ _ 49 rfl .i64 anyB 8 (w.heap.size + 2) 3 i0 z0 Tryd.underlying49 hi hz hs hb hc (by omega) (.slice sa SS.length sc) SS rfl how.out _ [(j : Int)] rfl hrd.out (by simp; omega) (by simp; omega) ?_; intro v' w1 hown hgrow hat; obtain ⟨hc1, hM1⟩ := KM2.out.app hown hgrow; obtain ⟨na, nc, rfl, -, hl2, hcm2⟩ := hown.rd.form; have c11 := hc1.c0; have f11 := hc1.fz 0; have c12 := hc1.cn n KCL.out; rw [KCN.out] at c12; have f12 := hc1.fz (1 + n); have KM3 := Kept.mk (hM1.cnt n (cn + 1)); clear hc1 hM1 hown hgrow hat hl2 hcm2)
            go_roundw
            case rel =>
              refine ⟨j + 1, .slice na (SS.length + 1) nc, SS ++ [(j : Int)], by omega, by go_num, ?_, ?_⟩
              · rw [KHS.out, KSS.out, List.append_assoc]
              · rw [KC.out]
                have := KM3.out
                simp only [List.length_append, List.length_singleton] at this
                exact this
            case measure => simp [intOf]; omega
          · have KC := Kept.mk (csF_miss L n j hlj hx)
            have HS2 := HS.out
            rw [if_neg hx, List.append_nil] at HS2
            have KHS := Kept.mk HS2
            clear HS HS2
            generalize L.getD j 0 = x at *
            go_wp2
            go_roundw
            case rel => exact ⟨j + 1, sv', SS, by omega, by go_num, by rw [KHS.out]; exact KSS.out, by rw [KC.out]; exact KM2.out⟩
            case measure => simp [intOf]; omega
        · obtain rfl : j = L.length := by omega
          have KSU : Kept (SS = symsF L (n + 1 - 1)) := ⟨by rw [KSS.out, List.take_length, Nat.add_sub_cancel, symsF_step L n hn1]⟩
          have KCU := Kept.mk (csF_next L n)
          go_wp2
          go_roundw
          case rel => exact ⟨n + 1, sv', by omega, by omega, by go_num, by rw [KCU.out, ← KSU.out]; exact KM2.out⟩
          case measure => simp [intOf]; omega
    · obtain rfl : n = 16 := by omega
      obtain ⟨sa, sc, rfl, -, -, -⟩ := KM.out.os.rd.form
      have KL16 := Kept.mk (csF_length L 16 0)
      generalize hCS0 : csF L 16 0 = CS at *
      have KCS := Kept.mk hCS0
      clear hCS0
      have c0 := KM.out.tt.c0
      have c1 : wr.cell? ⟨w.heap.size + 1, 1, none⟩ = some (.int .i64 (CS.getD 0 0)) := KM.out.tt.cn 0 (by rw [KL16.out]; omega)
      have c2 : wr.cell? ⟨w.heap.size + 1, 2, none⟩ = some (.int .i64 (CS.getD 1 0)) := KM.out.tt.cn 1 (by rw [KL16.out]; omega)
      have c3 : wr.cell? ⟨w.heap.size + 1, 3, none⟩ = some (.int .i64 (CS.getD 2 0)) := KM.out.tt.cn 2 (by rw [KL16.out]; omega)
      have c4 : wr.cell? ⟨w.heap.size + 1, 4, none⟩ = some (.int .i64 (CS.getD 3 0)) := KM.out.tt.cn 3 (by rw [KL16.out]; omega)
      have c5 : wr.cell? ⟨w.heap.size + 1, 5, none⟩ = some (.int .i64 (CS.getD 4 0)) := KM.out.tt.cn 4 (by rw [KL16.out]; omega)
      have c6 : wr.cell? ⟨w.heap.size + 1, 6, none⟩ = some (.int .i64 (CS.getD 5 0)) := KM.out.tt.cn 5 (by rw [KL16.out]; omega)
      have c7 : wr.cell? ⟨w.heap.size + 1, 7, none⟩ = some (.int .i64 (CS.getD 6 0)) := KM.out.tt.cn 6 (by rw [KL16.out]; omega)
      have c8 : wr.cell? ⟨w.heap.size + 1, 8, none⟩ = some (.int .i64 (CS.getD 7 0)) := KM.out.tt.cn 7 (by rw [KL16.out]; omega)
      have c9 : wr.cell? ⟨w.heap.size + 1, 9, none⟩ = some (.int .i64 (CS.getD 8 0)) := KM.out.tt.cn 8 (by rw [KL16.out]; omega)
      have c10 : wr.cell? ⟨w.heap.size + 1, 10, none⟩ = some (.int .i64 (CS.getD 9 0)) := KM.out.tt.cn 9 (by rw [KL16.out]; omega)
      have c11 : wr.cell? ⟨w.heap.size + 1, 11, none⟩ = some (.int .i64 (CS.getD 10 0)) := KM.out.tt.cn 10 (by rw [KL16.out]; omega)
      have c12 : wr.cell? ⟨w.heap.size + 1, 12, none⟩ = some (.int .i64 (CS.getD 11 0)) := KM.out.tt.cn 11 (by rw [KL16.out]; omega)
      have c13 : wr.cell? ⟨w.heap.size + 1, 13, none⟩ = some (.int .i64 (CS.getD 12 0)) := KM.out.tt.cn 12 (by rw [KL16.out]; omega)
      have c14 : wr.cell? ⟨w.heap.size + 1, 14, none⟩ = some (.int .i64 (CS.getD 13 0)) := KM.out.tt.cn 13 (by rw [KL16.out]; omega)
      have c15 : wr.cell? ⟨w.heap.size + 1, 15, none⟩ = some (.int .i64 (CS.getD 14 0)) := KM.out.tt.cn 14 (by rw [KL16.out]; omega)
      have c16 : wr.cell? ⟨w.heap.size + 1, 16, none⟩ = some (.int .i64 (CS.getD 15 0)) := KM.out.tt.cn 15 (by rw [KL16.out]; omega)
      have r0 := KM.out.rb.c0
      have r1 : wr.cell? ⟨w.heap.size, 1, none⟩ = some (.int .i64 0) := KM.out.rb.cn 0 (by decide)
      have r2 : wr.cell? ⟨w.heap.size, 2, none⟩ = some (.int .i64 0) := KM.out.rb.cn 1 (by decide)
      have r3 : wr.cell? ⟨w.heap.size, 3, none⟩ = some (.int .i64 0) := KM.out.rb.cn 2 (by decide)
      have r4 : wr.cell? ⟨w.heap.size, 4, none⟩ = some (.int .i64 0) := KM.out.rb.cn 3 (by decide)
      have r5 : wr.cell? ⟨w.heap.size, 5, none⟩ = some (.int .i64 0) := KM.out.rb.cn 4 (by decide)
      have r6 : wr.cell? ⟨w.heap.size, 6, none⟩ = some (.int .i64 0) := KM.out.rb.cn 5 (by decide)
      have r7 : wr.cell? ⟨w.heap.size, 7, none⟩ = some (.int .i64 0) := KM.out.rb.cn 6 (by decide)
      have r8 : wr.cell? ⟨w.heap.size, 8, none⟩ = some (.int .i64 0) := KM.out.rb.cn 7 (by decide)
      have r9 : wr.cell? ⟨w.heap.size, 9, none⟩ = some (.int .i64 0) := KM.out.rb.cn 8 (by decide)
      have r10 : wr.cell? ⟨w.heap.size, 10, none⟩ = some (.int .i64 0) := KM.out.rb.cn 9 (by decide)
      have r11 : wr.cell? ⟨w.heap.size, 11, none⟩ = some (.int .i64 0) := KM.out.rb.cn 10 (by decide)
      have r12 : wr.cell? ⟨w.heap.size, 12, none⟩ = some (.int .i64 0) := KM.out.rb.cn 11 (by decide)
      have r13 : wr.cell? ⟨w.heap.size, 13, none⟩ = some (.int .i64 0) := KM.out.rb.cn 12 (by decide)
      have r14 : wr.cell? ⟨w.heap.size, 14, none⟩ = some (.int .i64 0) := KM.out.rb.cn 13 (by decide)
      have r15 : wr.cell? ⟨w.heap.size, 15, none⟩ = some (.int .i64 0) := KM.out.rb.cn 14 (by decide)
      have r16 : wr.cell? ⟨w.heap.size, 16, none⟩ = some (.int .i64 0) := KM.out.rb.cn 15 (by decide)
      have g0 := KM.out.rb.fz 0
      have g1 := KM.out.rb.fz 1
      have g2 := KM.out.rb.fz 2
      have g3 := KM.out.rb.fz 3
      have g4 := KM.out.rb.fz 4
      have g5 := KM.out.rb.fz 5
      have g6 := KM.out.rb.fz 6
      have g7 := KM.out.rb.fz 7
      have g8 := KM.out.rb.fz 8
      have g9 := KM.out.rb.fz 9
      have g10 := KM.out.rb.fz 10
      have g11 := KM.out.rb.fz 11
      have g12 := KM.out.rb.fz 12
      have g13 := KM.out.rb.fz 13
      have g14 := KM.out.rb.fz 14
      have g15 := KM.out.rb.fz 15
      have g16 := KM.out.rb.fz 16
      generalize hy0 : CS.getD 0 0 = y0 at *
      have KY0 := Kept.mk hy0
      clear hy0
      generalize hy1 : CS.getD 1 0 = y1 at *
      have KY1 := Kept.mk hy1
      clear hy1
      generalize hy2 : CS.getD 2 0 = y2 at *
      have KY2 := Kept.mk hy2
      clear hy2
      generalize hy3 : CS.getD 3 0 = y3 at *
      have KY3 := Kept.mk hy3
      clear hy3
      generalize hy4 : CS.getD 4 0 = y4 at *
      have KY4 := Kept.mk hy4
      clear hy4
      generalize hy5 : CS.getD 5 0 = y5 at *
      have KY5 := Kept.mk hy5
      clear hy5
      generalize hy6 : CS.getD 6 0 = y6 at *
      have KY6 := Kept.mk hy6
      clear hy6
      generalize hy7 : CS.getD 7 0 = y7 at *
      have KY7 := Kept.mk hy7
      clear hy7
      generalize hy8 : CS.getD 8 0 = y8 at *
      have KY8 := Kept.mk hy8
      clear hy8
      generalize hy9 : CS.getD 9 0 = y9 at *
      have KY9 := Kept.mk hy9
      clear hy9
      generalize hy10 : CS.getD 10 0 = y10 at *
      have KY10 := Kept.mk hy10
      clear hy10
      generalize hy11 : CS.getD 11 0 = y11 at *
      have KY11 := Kept.mk hy11
      clear hy11
      generalize hy12 : CS.getD 12 0 = y12 at *
      have KY12 := Kept.mk hy12
      clear hy12
      generalize hy13 : CS.getD 13 0 = y13 at *
      have KY13 := Kept.mk hy13
      clear hy13
      generalize hy14 : CS.getD 14 0 = y14 at *
      have KY14 := Kept.mk hy14
      clear hy14
      generalize hy15 : CS.getD 15 0 = y15 at *
      have KY15 := Kept.mk hy15
      clear hy15
      go_wp2
      obtain ⟨w2, hw2, hT, hB2, hz2, hk2⟩ := tt_fill (w := w) (wr := wr) (b := w.heap.size) (.slice sa (symsF L 15).length sc) y0 y1 y2 y3 y4 y5 y6 y7 y8 y9 y10 y11 y12 y13 y14 y15 KM.out.rb KM.out.bel (Nat.le_refl _)
      rw [hw2]
      have hCS : CS = [y0, y1, y2, y3, y4, y5, y6, y7, y8, y9, y10, y11, y12, y13, y14, y15] := (list16 CS KL16.out).trans (by rw [KY0.out, KY1.out, KY2.out, KY3.out, KY4.out, KY5.out, KY6.out, KY7.out, KY8.out, KY9.out, KY10.out, KY11.out, KY12.out, KY13.out, KY14.out, KY15.out])
      have hr : Rd .i64 (fun b => w.heap.size + 2 ≤ b) wr (.slice sa (symsF L 15).length sc) (symsF L 15) := KM.out.os.rd.weak fun b _ e => (KM.out.os.lt b e).1
      refine bodyPost_ret (tt_ret y0 y1 y2 y3 y4 y5 y6 y7 y8 y9 y10 y11 y12 y13 y14 y15 hT _ _ _) rfl ⟨.slice sa (symsF L 15).length sc, ?_, ?_, hB2⟩
      · rw [KCS.out, hCS]
      · exact hr.far hz2 fun b' _ hS => ⟨by omega, hk2 b' (by omega)⟩
end Go.Proofs.YtjijkcmbbccfmaaDoor
