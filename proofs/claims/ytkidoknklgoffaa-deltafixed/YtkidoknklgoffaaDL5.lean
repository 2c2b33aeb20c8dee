/-
  The walk of DeltaFixed.
-/
import Derived.Test.YtkidoknklgoffaaDL2
namespace Go.Proofs.Ytkidoknklgoffaa
open Go.RowKit

theorem fx_a : applF [97, 98, 99, 100, 101, 102] [6, 5, 144, 3, 2, 120, 121] 4 = .bad 10 := by kernel_rfl
theorem fx_b : applF [97, 98, 99] [3, 0] 0 = .ok [] := by kernel_rfl
theorem fx_d : applF [97, 98] [3, 0] 0 = .bad 4 := by kernel_rfl
theorem fx_e : applF [97, 98, 99] [3, 1, 0] 9 = .bad 4 := by kernel_rfl
theorem fx_f : applF [97, 98, 99] [3, 2, 145, 2] 9 = .bad 5 := by kernel_rfl
theorem fx_g : applF [97, 98, 99] [3, 2, 145, 2, 2] 9 = .bad 4 := by kernel_rfl
theorem fx_h : applF [97, 98, 99] [3, 5, 1, 120] 9 = .bad 4 := by kernel_rfl
theorem fx_x : cpL 0 65536 = [128] := by kernel_rfl
theorem fx_y : cpL 258 3 = [147, 2, 1, 3] := by kernel_rfl
theorem Own.lit (w : World) (xs : List Int) (h : xs.length ≤ 1000) : Own .u8 5 (w.alloc (.cells (cellsK .u8 xs).toArray 5)) w.heap.size (.slice (some ⟨w.heap.size, 0, none⟩) xs.length xs.length) xs :=
  ⟨by rw [cellsK_length, Nat.mul_one], .inr ⟨w.heap.size, xs.length, (cellsK .u8 xs).toArray, rfl, Nat.le_refl _, heap_alloc_new w _, Nat.le_refl _, by unfold maxLen; omega, by simp [cellsK], by rw [Nat.mul_one, ← cellsK_length .u8 xs]; simp⟩⟩
theorem own_made {w : World} {base n : Nat} {v z : Value} (hz : z = .int .u8 0) (h : w.ownsRow base 5 1 v n (madeCells z.cells (n * 1)).toList) : Own .u8 5 w base v (List.replicate n 0) := by
  rw [hz, Nat.mul_one] at h
  unfold Own
  rw [List.length_replicate]
  have e : (madeCells (Value.int .u8 0).cells n).toList = cellsK .u8 (List.replicate n 0) := by
    rw [show (Value.int IntKind.u8 0).cells = #[Value.int .u8 0] from rfl, toList_madeCells_one]
    simp [cellsK]
  rw [e] at h
  exact h
theorem fx_n : applF (List.replicate 70000 0) ([240, 162, 4, 128, 128, 4] ++ [128]) 65536 = .ok (List.replicate 65536 0) := by
  have hA : AllB (List.replicate 70000 0) := fun x hx => by rw [List.eq_of_mem_replicate hx]; omega
  have htl : ((List.replicate 70000 (0 : Int)).drop 0).take 65536 = List.replicate 65536 0 := by
    rw [List.drop_zero, List.take_replicate, show min 65536 70000 = 65536 from by omega]
  have h1 := appl_hd (base := List.replicate 70000 0) (target := List.replicate 65536 0) (I := cpL 0 65536) (l1 := [240, 162, 4]) (l2 := [128, 128, 4]) hA (by rw [List.length_replicate]; omega) (by rw [List.length_replicate]; omega) (by
    have := Tl.copy hA (at_ := 0) (n := 65536) (by omega) (by omega) (by omega) (by rw [List.length_replicate]; omega)
    rw [htl] at this
    exact this) (by simp only [Nu.SpanForm]; omega) (by rw [List.length_replicate]; simp only [Nu.sizeV]; omega) (by simp only [Nu.SpanForm]; omega) (by rw [List.length_replicate]; simp only [Nu.sizeV]; omega) (allB_lit rfl) (allB_lit rfl) 65536 (by rw [List.length_replicate]; omega)
  rw [fx_x] at h1
  exact h1

set_option maxHeartbeats 1000000 in
set_option maxRecDepth 100000 in
theorem make_long (ta : Option Addr) (tc : Nat) (w : World) : Calls Try.prog 16 #[.slice none 0 0, .slice ta 1048577 tc] w fun e w' => e = .returned (.tuple #[.slice none 0 0, .int .i64 2]) ∧ w' = w := by
  go_enter Try.func16, Try.ntmps16
  go_wp2
  go_ret2
  exact ⟨rfl, rfl⟩

set_option maxHeartbeats 8000000 in
set_option maxRecDepth 100000 in
theorem fixed_walk (w : World) : Calls Try.prog 7 #[] w fun e w' => e = .returned (.bool true) ∧ Below w.heap.size w w' := by
  obtain ⟨i0, z0, hi, hz, hs, hb0, hc, hzz⟩ := Nu.info5
  have KW := Kept.mk (awake_any w)
  go_enter Try.func7, Try.ntmps7
  go_wp2_with fail
  refine Calls.mono KW.out (fun e w0 hp => ?_)
  obtain ⟨rfl, hb⟩ := hp
  have KB := Kept.mk hb
  clear hb KW
  obtain ⟨waa, cva, rda, bla⟩ := lit_step w0 [97, 98, 99, 100, 101, 102] (by simp)
  have cva : (convert 22 22 (.slice (some ⟨w0.heap.size, 0, none⟩) 6 6)).run Try.prog (w0.alloc (.cells #[.int .u8 97, .int .u8 98, .int .u8 99, .int .u8 100, .int .u8 101, .int .u8 102] 5)) = .ok (.slice (some ⟨w0.heap.size, 0, none⟩) 6 6) waa := cva
  have hbB := (Below.refl waa.heap.size waa).alloc (Nat.le_refl _) (.cells (cellsK .u8 [6, 5, 144, 3, 2, 120, 121]).toArray 5)
  have K1 := apply_any _ _ [97, 98, 99, 100, 101, 102] [6, 5, 144, 3, 2, 120, 121] 4 _ (rda.later hbB (Nat.le_refl _)) (Rd.lit .u8 waa [6, 5, 144, 3, 2, 120, 121] 5 (by simp)) (allB_lit rfl) (allB_lit rfl) (by simp) (by simp) (by omega)
  rw [fx_a] at K1
  have K1 := Kept.mk K1
  have KX := Kept.mk (bla.trans (hbB.mono bla.size))
  clear bla hbB rda
  go_wp2_with (rw [cva])
  refine Calls.mono K1.out (fun e wa hp => ?_)
  obtain ⟨rfl, hb⟩ := hp
  have hb : Below w0.heap.size w0 wa := KX.out.trans (hb.mono KX.out.size)
  have KB := Kept.mk (KB.out.trans (hb.mono KB.out.size))
  clear hb K1 KX cva
  obtain ⟨wab, cvb, rdb, blb⟩ := lit_step wa [97, 98, 99] (by simp)
  have cvb : (convert 22 22 (.slice (some ⟨wa.heap.size, 0, none⟩) 3 3)).run Try.prog (wa.alloc (.cells #[.int .u8 97, .int .u8 98, .int .u8 99] 5)) = .ok (.slice (some ⟨wa.heap.size, 0, none⟩) 3 3) wab := cvb
  have hbB := (Below.refl wab.heap.size wab).alloc (Nat.le_refl _) (.cells (cellsK .u8 [3, 0]).toArray 5)
  have K1 := apply_any _ _ [97, 98, 99] [3, 0] 0 _ (rdb.later hbB (Nat.le_refl _)) (Rd.lit .u8 wab [3, 0] 5 (by simp)) (allB_lit rfl) (allB_lit rfl) (by simp) (by simp) (by omega)
  rw [fx_b] at K1
  have K1 := Kept.mk K1
  have KX := Kept.mk (blb.trans (hbB.mono blb.size))
  clear blb hbB rdb
  go_wp2_with (rw [cvb])
  refine Calls.mono K1.out (fun e wb hp => ?_)
  obtain ⟨vb, rfl, ho, -, -, hb⟩ := hp
  obtain ⟨ab, cb, rfl, -, -, -⟩ := ho.rd.form
  have hb : Below wa.heap.size wa wb := KX.out.trans (hb.mono KX.out.size)
  have KB := Kept.mk (KB.out.trans (hb.mono KB.out.size))
  clear hb K1 KX cvb ho
  obtain ⟨wad, cvd, rdd, bld⟩ := lit_step wb [97, 98] (by simp)
  have cvd : (convert 22 22 (.slice (some ⟨wb.heap.size, 0, none⟩) 2 2)).run Try.prog (wb.alloc (.cells #[.int .u8 97, .int .u8 98] 5)) = .ok (.slice (some ⟨wb.heap.size, 0, none⟩) 2 2) wad := cvd
  have hbB := (Below.refl wad.heap.size wad).alloc (Nat.le_refl _) (.cells (cellsK .u8 [3, 0]).toArray 5)
  have K1 := apply_any _ _ [97, 98] [3, 0] 0 _ (rdd.later hbB (Nat.le_refl _)) (Rd.lit .u8 wad [3, 0] 5 (by simp)) (allB_lit rfl) (allB_lit rfl) (by simp) (by simp) (by omega)
  rw [fx_d] at K1
  have K1 := Kept.mk K1
  have KX := Kept.mk (bld.trans (hbB.mono bld.size))
  clear bld hbB rdd
  go_wp2_with (rw [cvd])
  refine Calls.mono K1.out (fun e wd hp => ?_)
  obtain ⟨rfl, hb⟩ := hp
  have hb : Below wb.heap.size wb wd := KX.out.trans (hb.mono KX.out.size)
  have KB := Kept.mk (KB.out.trans (hb.mono KB.out.size))
  clear hb K1 KX cvd
  obtain ⟨wae, cve, rde, ble⟩ := lit_step wd [97, 98, 99] (by simp)
  have cve : (convert 22 22 (.slice (some ⟨wd.heap.size, 0, none⟩) 3 3)).run Try.prog (wd.alloc (.cells #[.int .u8 97, .int .u8 98, .int .u8 99] 5)) = .ok (.slice (some ⟨wd.heap.size, 0, none⟩) 3 3) wae := cve
  have hbB := (Below.refl wae.heap.size wae).alloc (Nat.le_refl _) (.cells (cellsK .u8 [3, 1, 0]).toArray 5)
  have K1 := apply_any _ _ [97, 98, 99] [3, 1, 0] 9 _ (rde.later hbB (Nat.le_refl _)) (Rd.lit .u8 wae [3, 1, 0] 5 (by simp)) (allB_lit rfl) (allB_lit rfl) (by simp) (by simp) (by omega)
  rw [fx_e] at K1
  have K1 := Kept.mk K1
  have KX := Kept.mk (ble.trans (hbB.mono ble.size))
  clear ble hbB rde
  go_wp2_with (rw [cve])
  refine Calls.mono K1.out (fun e we hp => ?_)
  obtain ⟨rfl, hb⟩ := hp
  have hb : Below wd.heap.size wd we := KX.out.trans (hb.mono KX.out.size)
  have KB := Kept.mk (KB.out.trans (hb.mono KB.out.size))
  clear hb K1 KX cve
  obtain ⟨waf, cvf, rdf, blf⟩ := lit_step we [97, 98, 99] (by simp)
  have cvf : (convert 22 22 (.slice (some ⟨we.heap.size, 0, none⟩) 3 3)).run Try.prog (we.alloc (.cells #[.int .u8 97, .int .u8 98, .int .u8 99] 5)) = .ok (.slice (some ⟨we.heap.size, 0, none⟩) 3 3) waf := cvf
  have hbB := (Below.refl waf.heap.size waf).alloc (Nat.le_refl _) (.cells (cellsK .u8 [3, 2, 145, 2]).toArray 5)
  have K1 := apply_any _ _ [97, 98, 99] [3, 2, 145, 2] 9 _ (rdf.later hbB (Nat.le_refl _)) (Rd.lit .u8 waf [3, 2, 145, 2] 5 (by simp)) (allB_lit rfl) (allB_lit rfl) (by simp) (by simp) (by omega)
  rw [fx_f] at K1
  have K1 := Kept.mk K1
  have KX := Kept.mk (blf.trans (hbB.mono blf.size))
  clear blf hbB rdf
  go_wp2_with (rw [cvf])
  refine Calls.mono K1.out (fun e wf hp => ?_)
  obtain ⟨rfl, hb⟩ := hp
  have hb : Below we.heap.size we wf := KX.out.trans (hb.mono KX.out.size)
  have KB := Kept.mk (KB.out.trans (hb.mono KB.out.size))
  clear hb K1 KX cvf
  obtain ⟨wag, cvg, rdg, blg⟩ := lit_step wf [97, 98, 99] (by simp)
  have cvg : (convert 22 22 (.slice (some ⟨wf.heap.size, 0, none⟩) 3 3)).run Try.prog (wf.alloc (.cells #[.int .u8 97, .int .u8 98, .int .u8 99] 5)) = .ok (.slice (some ⟨wf.heap.size, 0, none⟩) 3 3) wag := cvg
  have hbB := (Below.refl wag.heap.size wag).alloc (Nat.le_refl _) (.cells (cellsK .u8 [3, 2, 145, 2, 2]).toArray 5)
  have K1 := apply_any _ _ [97, 98, 99] [3, 2, 145, 2, 2] 9 _ (rdg.later hbB (Nat.le_refl _)) (Rd.lit .u8 wag [3, 2, 145, 2, 2] 5 (by simp)) (allB_lit rfl) (allB_lit rfl) (by simp) (by simp) (by omega)
  rw [fx_g] at K1
  have K1 := Kept.mk K1
  have KX := Kept.mk (blg.trans (hbB.mono blg.size))
  clear blg hbB rdg
  go_wp2_with (rw [cvg])
  refine Calls.mono K1.out (fun e wg hp => ?_)
  obtain ⟨rfl, hb⟩ := hp
  have hb : Below wf.heap.size wf wg := KX.out.trans (hb.mono KX.out.size)
  have KB := Kept.mk (KB.out.trans (hb.mono KB.out.size))
  clear hb K1 KX cvg
  obtain ⟨wah, cvh, rdh, blh⟩ := lit_step wg [97, 98, 99] (by simp)
  have cvh : (convert 22 22 (.slice (some ⟨wg.heap.size, 0, none⟩) 3 3)).run Try.prog (wg.alloc (.cells #[.int .u8 97, .int .u8 98, .int .u8 99] 5)) = .ok (.slice (some ⟨wg.heap.size, 0, none⟩) 3 3) wah := cvh
  have hbB := (Below.refl wah.heap.size wah).alloc (Nat.le_refl _) (.cells (cellsK .u8 [3, 5, 1, 120]).toArray 5)
  have K1 := apply_any _ _ [97, 98, 99] [3, 5, 1, 120] 9 _ (rdh.later hbB (Nat.le_refl _)) (Rd.lit .u8 wah [3, 5, 1, 120] 5 (by simp)) (allB_lit rfl) (allB_lit rfl) (by simp) (by simp) (by omega)
  rw [fx_h] at K1
  have K1 := Kept.mk K1
  have KX := Kept.mk (blh.trans (hbB.mono blh.size))
  clear blh hbB rdh
  go_wp2_with (rw [cvh])
  refine Calls.mono K1.out (fun e wh hp => ?_)
  obtain ⟨rfl, hb⟩ := hp
  have hb : Below wg.heap.size wg wh := KX.out.trans (hb.mono KX.out.size)
  have KB := Kept.mk (KB.out.trans (hb.mono KB.out.size))
  clear hb K1 KX cvh
  have K1 := Kept.mk (apply_arg (u := .slice none 0 0) (v := .slice none 0 0) wh (-1) (Or.inl (by omega)))
  go_wp2_with fail
  refine Calls.mono K1.out (fun e wi hp => ?_)
  obtain ⟨rfl, rfl⟩ := hp
  clear K1
  have K1 := putCopy_any (.slice none 0 0) [] 0 65536 wi (Rd.nil .u8 anyB wi) AllIn.nil (by simp)
  have hok : cpOk 0 65536 := by unfold cpOk; omega
  have K1 : Kept (Calls Try.prog 14 #[.slice none 0 0, .int .i64 0, .int .i64 65536] wi fun e w' => ∃ v', e = .returned (.tuple #[v', .int .i64 0]) ∧ Own .u8 5 w' wi.heap.size v' [128] ∧ Below wi.heap.size wi w') := ⟨Calls.mono K1 fun e w' h => by
    obtain ⟨v', h1, h2, h3⟩ := h
    rw [if_pos hok] at h1 h2
    rw [List.nil_append, fx_x] at h2
    exact ⟨v', h1, h2, h3⟩⟩
  clear hok
  go_wp2_with fail
  refine Calls.mono K1.out (fun e wx hp => ?_)
  obtain ⟨vx, rfl, ho, hb⟩ := hp
  obtain ⟨ax, cx, rfl, -, -, -⟩ := ho.rd.form
  have KB := Kept.mk (KB.out.trans (hb.mono KB.out.size))
  have KOx := Kept.mk ho
  clear hb K1 ho
  have K1 := putCopy_any (.slice none 0 0) [] 258 3 wx (Rd.nil .u8 anyB wx) AllIn.nil (by simp)
  have hok : cpOk 258 3 := by unfold cpOk; omega
  have K1 : Kept (Calls Try.prog 14 #[.slice none 0 0, .int .i64 258, .int .i64 3] wx fun e w' => ∃ v', e = .returned (.tuple #[v', .int .i64 0]) ∧ Own .u8 5 w' wx.heap.size v' [147, 2, 1, 3] ∧ Below wx.heap.size wx w') := ⟨Calls.mono K1 fun e w' h => by
    obtain ⟨v', h1, h2, h3⟩ := h
    rw [if_pos hok] at h1 h2
    rw [List.nil_append, fx_y] at h2
    exact ⟨v', h1, h2, h3⟩⟩
  clear hok
  go_wp2_with fail
  refine Calls.mono K1.out (fun e wy hp => ?_)
  obtain ⟨vy, rfl, ho, hb⟩ := hp
  obtain ⟨ay, cy, rfl, -, -, -⟩ := ho.rd.form
  have KB := Kept.mk (KB.out.trans (hb.mono KB.out.size))
  have KOx := Kept.mk (KOx.out.later hb (Nat.le_refl _))
  have KOy := Kept.mk ho
  clear hb K1 ho
  have K1 := putCopy_any (.slice none 0 0) [] 4294967296 3 wy (Rd.nil .u8 anyB wy) AllIn.nil (by simp)
  have hok : ¬ cpOk 4294967296 3 := by unfold cpOk; omega
  have K1 : Kept (Calls Try.prog 14 #[.slice none 0 0, .int .i64 4294967296, .int .i64 3] wy fun e w' => ∃ v', e = .returned (.tuple #[v', .int .i64 1]) ∧ Below wy.heap.size wy w') := ⟨Calls.mono K1 fun e w' h => by
    obtain ⟨v', h1, h2, h3⟩ := h
    rw [if_neg hok] at h1
    exact ⟨v', h1, h3⟩⟩
  clear hok
  go_wp2_with fail
  refine Calls.mono K1.out (fun e wl hp => ?_)
  obtain ⟨vl, rfl, hb⟩ := hp
  have KB := Kept.mk (KB.out.trans (hb.mono KB.out.size))
  have KOx := Kept.mk (KOx.out.later hb (Nat.le_refl _))
  have KOy := Kept.mk (KOy.out.later hb (Nat.le_refl _))
  clear hb K1
  have hm1 : i0.bytes * 1048577 ≤ 281474976710656 := by rw [hb0]; omega
  have hm2 : 1048577 ≤ maxLen := by unfold maxLen; omega
  go_wp2_with (at_make; refine wpList_make_full _ rfl _ _ 22 rfl wl.heap.size 5 i0 z0 1 Try.underlying22 hi hz hs .i64 .i64 1048577 1048577 1048577 rfl rfl rfl rfl hm1 hm2 (Nat.le_refl _) ?_; intro wm hown hgrow; have hb := (Below.refl wl.heap.size wl).grown hgrow (Nat.le_refl _) (by intro k hk; cases hk); have KB := Kept.mk (KB.out.trans (hb.mono KB.out.size)); have KOx := Kept.mk (KOx.out.later hb (Nat.le_refl _)); have KOy := Kept.mk (KOy.out.later hb (Nat.le_refl _)); have K1 := Kept.mk (make_long (some ⟨wl.heap.size, 0, none⟩) 1048577 wm); clear hown hgrow hb)
  refine Calls.mono K1.out (fun e wm2 hp => ?_)
  obtain ⟨rfl, rfl⟩ := hp
  clear K1 hm1 hm2
  have hm1 : i0.bytes * 70000 ≤ 281474976710656 := by rw [hb0]; omega
  have hm2 : 70000 ≤ maxLen := by unfold maxLen; omega
  go_wp2_with (first | (at_make; refine wpList_make_full _ rfl _ _ 22 rfl wm2.heap.size 5 i0 z0 1 Try.underlying22 hi hz hs .i64 .i64 70000 70000 70000 rfl rfl rfl rfl hm1 hm2 (Nat.le_refl _) ?_; intro wq hown hgrow; have hb := (Below.refl wm2.heap.size wm2).grown hgrow (Nat.le_refl _) (by intro k hk; cases hk); have KB := Kept.mk (KB.out.trans (hb.mono KB.out.size)); have KOx := Kept.mk (KOx.out.later hb (Nat.le_refl _)); have KOy := Kept.mk (KOy.out.later hb (Nat.le_refl _)); have KOl := Kept.mk hown; have hbl := (Below.refl wq.heap.size wq).alloc (Nat.le_refl _) (.cells (cellsK .u8 [240, 162, 4, 128, 128, 4]).toArray 5); have KOt := Kept.mk (Own.lit wq [240, 162, 4, 128, 128, 4] (by simp)); have KRx := Kept.mk ((KOx.out.later hbl (Nat.le_refl _)).rd); have KBl := Kept.mk hbl; clear hown hgrow hb hbl) | (at_builtin; refine wpList_append_rd _ rfl _ _ 22 rfl .u8 _ 1 wq.heap.size 5 i0 z0 Try.underlying22 hi hz hs hb0 hc (by omega) _ [240, 162, 4, 128, 128, 4] rfl KOt.out _ [128] rfl KRx.out (by simp) (by simp) ?_; intro vt wt hown hgrow hat; have KOt2 := Kept.mk hown; have KBt := Kept.mk (KBl.out.grown hgrow (by simp) (own_ge KOt.out)); clear hown hgrow hat))
  have hOl := (own_made hzz KOl.out).later KBt.out (Nat.le_refl _)
  have hA : AllB (List.replicate 70000 (0 : Int)) := fun x hx => by rw [List.eq_of_mem_replicate hx]; omega
  have K1 := apply_any _ _ (List.replicate 70000 0) ([240, 162, 4, 128, 128, 4] ++ [128]) 65536 wt hOl.rd KOt2.out.rd hA (allB_lit rfl) (by simp) (by rw [List.length_replicate]; omega) (by omega)
  rw [fx_n] at K1
  have K1 := Kept.mk K1
  have KB := Kept.mk (KB.out.trans (KBt.out.mono KB.out.size))
  have KOx := Kept.mk (KOx.out.later KBt.out (Nat.le_refl _))
  have KOy := Kept.mk (KOy.out.later KBt.out (Nat.le_refl _))
  clear hOl hA KOl KOt KOt2 KRx KBl KBt hm1 hm2
  refine Calls.mono K1.out (fun e wn hp => ?_)
  obtain ⟨vn, rfl, ho, -, -, hb⟩ := hp
  have hform := ho.rd.form
  rw [List.length_replicate] at hform
  obtain ⟨an, cn, rfl, -, -, -⟩ := hform
  have KB := Kept.mk (KB.out.trans (hb.mono KB.out.size))
  have KOx := Kept.mk (KOx.out.later hb (Nat.le_refl _))
  have KOy := Kept.mk (KOy.out.later hb (Nat.le_refl _))
  clear hb ho K1
  have hbx := (Below.refl wn.heap.size wn).alloc (Nat.le_refl _) (.cells (cellsK .u8 [128]).toArray 5)
  have K1 := same_any _ _ [128] [128] _ (KOx.out.later hbx (Nat.le_refl _)).rd (Rd.lit .u8 wn [128] 5 (by simp)) (allB_lit rfl) (allB_lit rfl)
  rw [decide_eq_true rfl] at K1
  have K1 := Kept.mk K1
  have KB := Kept.mk (KB.out.trans (hbx.mono KB.out.size))
  have KOy := Kept.mk (KOy.out.later hbx (Nat.le_refl _))
  clear hbx KOx
  go_wp2_with fail
  refine Calls.mono K1.out (fun e wo hp => ?_)
  obtain ⟨rfl, hwo⟩ := hp
  have KB : Kept (Below w.heap.size w wo) := ⟨by rw [hwo]; exact KB.out⟩
  have KOy : Kept (Own .u8 5 wo _ _ [147, 2, 1, 3]) := ⟨by rw [hwo]; exact KOy.out⟩
  clear hwo K1
  have hbx := (Below.refl wo.heap.size wo).alloc (Nat.le_refl _) (.cells (cellsK .u8 [147, 2, 1, 3]).toArray 5)
  have K1 := same_any _ _ [147, 2, 1, 3] [147, 2, 1, 3] _ (KOy.out.later hbx (Nat.le_refl _)).rd (Rd.lit .u8 wo [147, 2, 1, 3] 5 (by simp)) (allB_lit rfl) (allB_lit rfl)
  rw [decide_eq_true rfl] at K1
  have K1 := Kept.mk K1
  have KB := Kept.mk (KB.out.trans (hbx.mono KB.out.size))
  clear hbx KOy
  go_wp2_with fail
  refine Calls.mono K1.out (fun e wr hp => ?_)
  obtain ⟨rfl, hwr⟩ := hp
  have KB : Kept (Below w.heap.size w wr) := ⟨by rw [hwr]; exact KB.out⟩
  clear hwr K1
  go_wp2
  go_ret
  exact ⟨rfl, KB.out⟩
end Go.Proofs.Ytkidoknklgoffaa
