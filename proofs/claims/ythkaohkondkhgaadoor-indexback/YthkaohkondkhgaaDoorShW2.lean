/-
  Walks: spreadWords.
-/
import Derived.Test.YthkaohkondkhgaaDoorShK
import Derived.Deep.Cut
namespace Go.Proofs.YthkaohkondkhgaaDoor.Sh
open Go.RowKit

def zeros64 : List Int := List.replicate 64 0

theorem getD_set_ne (ws : List Int) (i j : Nat) (y : Int) (h : j ≠ i) : (ws.set j y).getD i 0 = ws.getD i 0 := by
  simp [List.getD, h]

theorem AllB.quad {bs : List Int} (hA : AllB bs) (k : Nat) : 0 ≤ be4 (bs.getD (4 * k) 0) (bs.getD (4 * k + 1) 0) (bs.getD (4 * k + 2) 0) (bs.getD (4 * k + 3) 0) ∧ be4 (bs.getD (4 * k) 0) (bs.getD (4 * k + 1) 0) (bs.getD (4 * k + 2) 0) (bs.getD (4 * k + 3) 0) < 4294967296 :=
  be4_range _ _ _ _ (hA.getD _) (hA.getD _) (hA.getD _) (hA.getD _)
theorem schF_allW {bs : List Int} (hA : AllB bs) (t : Nat) : AllW (schF bs t) := by
  induction t with
  | zero => intro x hx; simp [schF] at hx
  | succ t ih =>
    intro x hx
    rcases List.mem_append.1 hx with hx | hx
    · exact ih x hx
    · simp only [List.mem_singleton] at hx
      subst hx
      split
      · exact hA.quad t
      · unfold nextW
        omega

set_option maxHeartbeats 10000000 in
set_option maxRecDepth 100000 in
theorem spread_any (bs sch : List Int) (w : World) (hb : bs.length = 64) (hA : AllB bs) (HS : Hid (schF bs 64 = sch)) :
    Calls Tryd.prog 88 #[.agg (cellsU8 bs).toArray] w fun e w' => e = .returned (.agg (cellsU32 sch).toArray) ∧ Below w.heap.size w w' := by
  go_enter Tryd.func88, Tryd.ntmps88
  go_wp2
  go_loopw [11] (fun i wr => ∃ (k : Nat) (ws : List Int), k ≤ 16 ∧ i = .int .i64 k ∧ ws.length = 64 ∧ ws.take k = schF bs k ∧ Blk8 wr w.heap.size 86 bs ∧ Blk wr (w.heap.size + 1) 104 zeros64 ∧ Blk wr (w.heap.size + 1 + 1) 104 ws ∧ wr.heap.size = w.heap.size + 3 ∧ Below w.heap.size w wr) (fun i _ => 16 - (intOf i).toNat)
  case atStart =>
    obtain ⟨g1, g2, g3⟩ := heap3 w (.cells (cellsU8 bs).toArray 86) (.cells (cellsU32 zeros64).toArray 104) (.cells (cellsU32 zeros64).toArray 104)
    exact ⟨0, zeros64, by omega, rfl, by decide, rfl, blk8_of g1 rfl, blk_of g2 rfl, blk_of g3 rfl, by simp, (((Below.refl _ _).alloc (Nat.le_refl _) _).alloc (by simp) _).alloc (by simp; omega) _⟩
  case round =>
    obtain ⟨k, ws, hk, rfl, hwl, hpre, b0, b1, b2, hsz, hbel⟩ := hrel
    have HP : Hid _ := hpre
    clear hpre
    by_cases hlt : k < 16
    · rename_i hK1
      clear hK1 HS
      go_upto_region 5 with fail
      have c0 := b0.cell (4 * k) (by omega)
      have c1 := b0.cell (4 * k + 1) (by omega)
      have c2 := b0.cell (4 * k + 2) (by omega)
      have c3 := b0.cell (4 * k + 3) (by omega)
      have y0 := hA.getD (4 * k)
      have y1 := hA.getD (4 * k + 1)
      have y2 := hA.getD (4 * k + 2)
      have y3 := hA.getD (4 * k + 3)
      have cw := b2.cell k (by omega)
      have fw := b2.frozen k
      have HN : Hid (schF bs (k + 1) = schF bs k ++ [be4 (bs.getD (4 * k) 0) (bs.getD (4 * k + 1) 0) (bs.getD (4 * k + 2) 0) (bs.getD (4 * k + 3) 0)]) := (by show _ = _; rw [schF, if_pos hlt])
      generalize bs.getD (4 * k) 0 = x0 at *
      generalize bs.getD (4 * k + 1) 0 = x1 at *
      generalize bs.getD (4 * k + 2) 0 = x2 at *
      generalize bs.getD (4 * k + 3) 0 = x3 at *
      have m0 : (4 * (k : Int)).toNat = 4 * k := by omega
      have m1 : (4 * (k : Int) + 1).toNat = 4 * k + 1 := by omega
      have m2 : (4 * (k : Int) + 2).toNat = 4 * k + 2 := by omega
      have m3 : (4 * (k : Int) + 3).toNat = 4 * k + 3 := by omega
      have hwv : bits .or .u32 (bits .or .u32 (bits .or .u32 (x0 * 16777216) (x1 * 65536)) (x2 * 256)) x3 = be4 x0 x1 x2 x3 := by
        have := word4 x0 x1 x2 x3 y0 y1 y2 y3
        rwa [show IntKind.u32.wrap (x0 * 16777216) = x0 * 16777216 from by rw [IntKind.wrap_u32']; omega, show IntKind.u32.wrap (x1 * 65536) = x1 * 65536 from by rw [IntKind.wrap_u32']; omega, show IntKind.u32.wrap (x2 * 256) = x2 * 256 from by rw [IntKind.wrap_u32']; omega] at this
      have HWV : Hid (bits .or .u32 (bits .or .u32 (bits .or .u32 (x0 * 16777216) (x1 * 65536)) (x2 * 256)) x3 = be4 x0 x1 x2 x3) := hwv
      clear hwv
      refine wp_region_last _ 31 (by kernel_rfl) (by kernel_rfl) rfl rfl ?_
      simp only [List.take_succ_cons, List.take_zero]
      repeat (go_big_quiet_step (fail))
      refine wpQuiet_nil ?_
      intro m
      go_wp2
      go_roundw
      case rel =>
        refine ⟨k + 1, ws.set k (be4 x0 x1 x2 x3), by omega, by go_num, by simpa using hwl, by rw [take_set _ _ _ (by omega), HP.out, HN.out], (b0.drewN m).other (by omega) _, (b1.drewN m).other (by omega) _, ?_, by simpa [World.setCell] using hsz, (below_drewN hbel m).setCell (by show w.heap.size ≤ w.heap.size + 1 + 1; omega) _⟩
        rw [HWV.out]
        exact (b2.drewN m).set k _
      case measure => simp [intOf]; omega
    · obtain rfl : k = 16 := by omega
      go_wp2
      go_loopw [46] (fun i wr => ∃ (k : Nat) (ws : List Int), k ≤ 48 ∧ i = .int .i64 k ∧ ws.length = 64 ∧ ws.take (k + 16) = schF bs (k + 16) ∧ Blk8 wr w.heap.size 86 bs ∧ Blk wr (w.heap.size + 1) 104 zeros64 ∧ Blk wr (w.heap.size + 1 + 1) 104 ws ∧ wr.heap.size = w.heap.size + 3 ∧ Below w.heap.size w wr) (fun i _ => 48 - (intOf i).toNat)
      case atStart => exact ⟨0, ws, by omega, rfl, hwl, HP.out, b0, b1, b2, hsz, hbel⟩
      case round =>
        clear b0 b1 b2 hsz hbel HP hwl
        obtain ⟨k, ws, hk, rfl, hwl, hpre, b0, b1, b2, hsz, hbel⟩ := hrel
        have HP : Hid (ws.take (k + 16) = schF bs (k + 16)) := hpre
        clear hpre
        by_cases hlt : k < 48
        · clear HS
          have hAl := schF_allW hA (k + 16)
          have e0 : ws.getD k 0 = (schF bs (k + 16)).getD k 0 := by rw [← HP.out, getD_take _ _ _ (by omega)]
          have e1 : ws.getD (k + 1) 0 = (schF bs (k + 16)).getD (k + 1) 0 := by rw [← HP.out, getD_take _ _ _ (by omega)]
          have e9 : ws.getD (k + 9) 0 = (schF bs (k + 16)).getD (k + 9) 0 := by rw [← HP.out, getD_take _ _ _ (by omega)]
          have e14 : ws.getD (k + 14) 0 = (schF bs (k + 16)).getD (k + 14) 0 := by rw [← HP.out, getD_take _ _ _ (by omega)]
          have HN : Hid (schF bs (k + 1 + 16) = schF bs (k + 16) ++ [((schF bs (k + 16)).getD k 0 + (schF bs (k + 16)).getD (k + 9) 0 + sig0 ((schF bs (k + 16)).getD (k + 1) 0) + sig1 ((schF bs (k + 16)).getD (k + 14) 0)) % 4294967296]) := (by
            show _ = _
            rw [show k + 1 + 16 = (k + 16) + 1 from by omega, schF, if_neg (by omega), nextW, show k + 16 - 16 = k from by omega, show k + 16 - 7 = k + 9 from by omega, show k + 16 - 15 = k + 1 from by omega, show k + 16 - 2 = k + 14 from by omega])
          have c0 := b2.cell k (by omega)
          have c1 := b2.cell (k + 1) (by omega)
          have c9 := b2.cell (k + 9) (by omega)
          have c14 := b2.cell (k + 14) (by omega)
          have c16 := b2.cell (k + 16) (by omega)
          have f16 := b2.frozen (k + 16)
          rw [e0] at c0
          rw [e1] at c1
          rw [e9] at c9
          rw [e14] at c14
          have y0 := hAl.getD k
          have y1 := hAl.getD (k + 1)
          have y9 := hAl.getD (k + 9)
          have y14 := hAl.getD (k + 14)
          clear e0 e1 e9 e14 hAl
          generalize (schF bs (k + 16)).getD k 0 = x0 at *
          generalize (schF bs (k + 16)).getD (k + 1) 0 = x1 at *
          generalize (schF bs (k + 16)).getD (k + 9) 0 = x9 at *
          generalize (schF bs (k + 16)).getD (k + 14) 0 = x14 at *
          have m1 : ((k : Int) + 16 - 15).toNat = k + 1 := by omega
          have m2 : ((k : Int) + 16 - 2).toNat = k + 14 := by omega
          have m3 : ((k : Int) + 1).toNat = k + 1 := by omega
          have m4 : ((k : Int) + 14).toNat = k + 14 := by omega
          go_upto_region 11 with fail
          go_quiet (fail)
          go_upto_region 12 with fail
          go_wp2_with fail
          refine Calls.mono (turn_any x1 7 _ y1.1 y1.2 (by omega) (by omega)) (fun e wa hp => ?_)
          obtain ⟨rfl, hw⟩ := hp
          subst hw
          go_wp2_with fail
          refine Calls.mono (turn_any x1 18 _ y1.1 y1.2 (by omega) (by omega)) (fun e wa hp => ?_)
          obtain ⟨rfl, hw⟩ := hp
          subst hw
          go_wp2_with fail
          refine Calls.mono (turn_any x14 17 _ y14.1 y14.2 (by omega) (by omega)) (fun e wa hp => ?_)
          obtain ⟨rfl, hw⟩ := hp
          subst hw
          go_wp2_with fail
          refine Calls.mono (turn_any x14 19 _ y14.1 y14.2 (by omega) (by omega)) (fun e wa hp => ?_)
          obtain ⟨rfl, hw⟩ := hp
          subst hw
          go_upto_region 14 with fail
          clear m1 m2 m3 m4 c1 c14
          have hs0 := sig0_range x1
          have hs1 := sig1_range x14
          rw [show bits .xor .u32 (bits .xor .u32 (rotr x1 7) (rotr x1 18)) (x1 / 8) = sig0 x1 from rfl, show bits .xor .u32 (bits .xor .u32 (rotr x14 17) (rotr x14 19)) (x14 / 1024) = sig1 x14 from rfl]
          generalize sig0 x1 = s0 at *
          generalize sig1 x14 = s1 at *
          clear y1 y14
          have m3 : ((k : Int) + 16 - 16).toNat = k := by omega
          have m4 : ((k : Int) + 16 - 7).toNat = k + 9 := by omega
          have m5 : ((k : Int) + 16).toNat = k + 16 := by omega
          have m6 : ((k : Int) + 9).toNat = k + 9 := by omega
          refine wp_region_last _ 15 (by kernel_rfl) (by kernel_rfl) rfl rfl ?_
          simp only [List.take_succ_cons, List.take_zero]
          repeat (go_big_quiet_step (fail))
          refine wpQuiet_nil ?_
          intro m
          go_wp2
          go_roundw
          case rel =>
            clear m3 m4 m5 m6
            (repeat apply Exists.intro)
            refine ⟨⟨k + 1, ws.set (k + 16) ((x0 + x9 + s0 + s1) % 4294967296), by omega, by go_num, by simpa using hwl, ?_, (b0.drewN _).other (by omega) _, (b1.drewN _).other (by omega) _, ?_, by simpa [World.setCell] using hsz, (below_drewN hbel _).setCell (by show w.heap.size ≤ w.heap.size + 1 + 1; omega) _⟩, rfl⟩
            · rw [show k + 1 + 16 = k + 16 + 1 from by omega, take_set _ _ _ (by omega), HP.out, ← show k + 1 + 16 = k + 16 + 1 from by omega, HN.out]
            · rw [show (x0 + s0 + x9 + s1) % 4294967296 = (x0 + x9 + s0 + s1) % 4294967296 from by omega]
              exact (b2.drewN _).set (k + 16) ((x0 + x9 + s0 + s1) % 4294967296)
          case measure => simp [intOf]; omega
        · obtain rfl : k = 48 := by omega
          have hfin : ws = sch := by rw [← HS.out, ← HP.out, List.take_of_length_le (by omega)]
          have hsl : sch.length = 64 := by rw [← hfin]; exact hwl
          rw [hfin] at b2
          clear hfin HP HS hwl
          have hrg := b2.range
          have hth := b1.there (cellsU32 sch).toArray.size (by simp [cellsU32, hsl, zeros64])
          have hi44 : (Tryd.prog.info? 104).map (·.size) = some (cellsU32 sch).length := by rw [cellsU32_length, hsl]; rfl
          have hi44' : (Tryd.prog.info? 104).map (·.size) = some (cellsU32 sch).toArray.size := by rw [List.size_toArray]; exact hi44
          have hone := all_oneCell_toArray (cellsU32_one sch)
          have hfinal : Blk (wr.setCells (w.heap.size + 1) 0 (cellsU32 sch)) (w.heap.size + 1) 104 sch := b1.over (by rw [hsl]; decide)
          have hbf := below_cells (b := w.heap.size + 1) (by omega) (cellsU32 sch) 0 w wr hbel
          have HR1 : Hid _ := hrg
          have HT1 : Hid _ := hth
          have HF1 : Hid (Blk (wr.setCells (w.heap.size + 1) 0 (cellsU32 sch)) (w.heap.size + 1) 104 sch ∧ Below w.heap.size w (wr.setCells (w.heap.size + 1) 0 (cellsU32 sch))) := ⟨hfinal, hbf⟩
          have HI1 : Hid _ := hi44
          have HI2 : Hid _ := hi44'
          have HO1 : Hid _ := hone
          clear hrg hth hfinal hbf hi44 hi44' hone b0 b1 b2
          go_wp2_with (first | (refine wpList_load_mid rfl 104 _ rfl (w.heap.size + 1 + 1) 0 rfl (cellsU32 sch) _ HR1.out Tryd.underlying104 rfl HI1.out ?_) | (refine wpList_store_mid rfl 104 _ _ rfl (w.heap.size + 1) 0 (cellsU32 sch).toArray rfl rfl HT1.out HI2.out HO1.out ?_))
          refine bodyPost_ret (v := .agg (cellsU32 sch).toArray) (results_cell_row (p := 2) (ty := 104) Tryd.results88 _ _ (w.heap.size + 1) 104 _ (0, 0) _ rfl HF1.out.1 Tryd.underlying104 rfl HI2.out) rfl ⟨rfl, HF1.out.2⟩
end Go.Proofs.YthkaohkondkhgaaDoor.Sh
