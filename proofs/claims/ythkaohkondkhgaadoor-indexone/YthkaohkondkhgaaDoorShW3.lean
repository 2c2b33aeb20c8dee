/-
  Walks: spreadWords.
-/
import Derived.Test.YthkaohkondkhgaaDoorShB2
import Derived.Deep.Cut
import Derived.Test.YthkaohkondkhgaaDoorShW1
namespace Go.Proofs.YthkaohkondkhgaaDoor.Sh
open Go.RowKit

def zeros64 : List Int := List.replicate 64 0

theorem getD_set_ne (ws : List Int) (i j : Nat) (y : Int) (h : j ≠ i) : (ws.set j y).getD i 0 = ws.getD i 0 := by
  simp [List.getD, h]

theorem AllB.quad {bs : List Int} (hA : AllB bs) (k : Nat) : 0 ≤ be4 (bs.getD (4 * k) 0) (bs.getD (4 * k + 1) 0) (bs.getD (4 * k + 2) 0) (bs.getD (4 * k + 3) 0) ∧ be4 (bs.getD (4 * k) 0) (bs.getD (4 * k + 1) 0) (bs.getD (4 * k + 2) 0) (bs.getD (4 * k + 3) 0) < 4294967296 :=
  be4_range _ _ _ _ (hA.getD _) (hA.getD _) (hA.getD _) (hA.getD _)
theorem schF_allW {bs : List Int} (hA : AllB bs) (t : Nat) : AllW (schF bs t) := by
  induction t with
  | zero => intro x hx; simp [schF] at hx
  | succ t ih =>
    intro x hx
    rcases List.mem_append.1 hx with hx | hx
    · exact ih x hx
    · simp only [List.mem_singleton] at hx
      subst hx
      split
      · exact hA.quad t
      · unfold nextW
        omega

set_option maxHeartbeats 10000000 in
set_option maxRecDepth 100000 in
theorem spread_any (bs sch : List Int) (w : World) (hb : bs.length = 64) (hA : AllB bs) (HS : Hid (schF bs 64 = sch)) :
    Calls Tryd.prog 88 #[.agg (cellsU8 bs).toArray] w fun e w' => e = .returned (.agg (cellsU32 sch).toArray) ∧ Below w.heap.size w w' := by
  go_enter Tryd.func88, Tryd.ntmps88
  go_wp2
  go_loopw [11] (fun i wr => ∃ (k : Nat) (ws : List Int), k ≤ 16 ∧ i = .int .i64 k ∧ ws.length = 64 ∧ ws.take k = schF bs k ∧ Blk8 wr w.heap.size 86 bs ∧ Blk wr (w.heap.size + 1) 104 zeros64 ∧ Blk wr (w.heap.size + 1 + 1) 104 ws ∧ wr.heap.size = w.heap.size + 3 ∧ Below w.heap.size w wr) (fun i _ => 16 - (intOf i).toNat)
  case atStart =>
    obtain ⟨g1, g2, g3⟩ := heap3 w (.cells (cellsU8 bs).toArray 86) (.cells (cellsU32 zeros64).toArray 104) (.cells (cellsU32 zeros64).toArray 104)
    exact ⟨0, zeros64, by omega, rfl, by decide, rfl, blk8_of g1 rfl, blk_of g2 rfl, blk_of g3 rfl, by simp, (((Below.refl _ _).alloc (Nat.le_refl _) _).alloc (by simp) _).alloc (by simp; omega) _⟩
  case round =>
    obtain ⟨k, ws, hk, rfl, hwl, hpre, b0, b1, b2, hsz, hbel⟩ := hrel
    have HP : Hid _ := hpre
    clear hpre
    by_cases hlt : k < 16
    · rename_i hK1
      clear hK1 HS
      go_upto_region 5 with fail
      have c0 := b0.cell (4 * k) (by omega)
      have c1 := b0.cell (4 * k + 1) (by omega)
      have c2 := b0.cell (4 * k + 2) (by omega)
      have c3 := b0.cell (4 * k + 3) (by omega)
      have y0 := hA.getD (4 * k)
      have y1 := hA.getD (4 * k + 1)
      have y2 := hA.getD (4 * k + 2)
      have y3 := hA.getD (4 * k + 3)
      have cw := b2.cell k (by omega)
      have fw := b2.frozen k
      have HN : Hid (schF bs (k + 1) = schF bs k ++ [be4 (bs.getD (4 * k) 0) (bs.getD (4 * k + 1) 0) (bs.getD (4 * k + 2) 0) (bs.getD (4 * k + 3) 0)]) := (by show _ = _; rw [schF, if_pos hlt])
      generalize bs.getD (4 * k) 0 = x0 at *
      generalize bs.getD (4 * k + 1) 0 = x1 at *
      generalize bs.getD (4 * k + 2) 0 = x2 at *
      generalize bs.getD (4 * k + 3) 0 = x3 at *
      have m0 : (4 * (k : Int)).toNat = 4 * k := by omega
      have m1 : (4 * (k : Int) + 1).toNat = 4 * k + 1 := by omega
      have m2 : (4 * (k : Int) + 2).toNat = 4 * k + 2 := by omega
      have m3 : (4 * (k : Int) + 3).toNat = 4 * k + 3 := by omega
      have hwv : bits .or .u32 (bits .or .u32 (bits .or .u32 (x0 * 16777216) (x1 * 65536)) (x2 * 256)) x3 = be4 x0 x1 x2 x3 := by
        have := word4 x0 x1 x2 x3 y0 y1 y2 y3
        rwa [show IntKind.u32.wrap (x0 * 16777216) = x0 * 16777216 from by rw [IntKind.wrap_u32']; omega, show IntKind.u32.wrap (x1 * 65536) = x1 * 65536 from by rw [IntKind.wrap_u32']; omega, show IntKind.u32.wrap (x2 * 256) = x2 * 256 from by rw [IntKind.wrap_u32']; omega] at this
      have HWV : Hid (bits .or .u32 (bits .or .u32 (bits .or .u32 (x0 * 16777216) (x1 * 65536)) (x2 * 256)) x3 = be4 x0 x1 x2 x3) := hwv
      clear hwv
      refine wp_region_last _ 31 (by kernel_rfl) (by kernel_rfl) rfl rfl ?_
      simp only [List.take_succ_cons, List.take_zero]
      repeat (go_big_quiet_step (fail))
      refine wpQuiet_nil ?_
      intro m
      go_wp2
      go_roundw
      case rel =>
        refine ⟨k + 1, ws.set k (be4 x0 x1 x2 x3), by omega, by go_num, by simpa using hwl, by rw [take_set _ _ _ (by omega), HP.out, HN.out], (b0.drewN m).other (by omega) _, (b1.drewN m).other (by omega) _, ?_, by simpa [World.setCell] using hsz, (below_drewN hbel m).setCell (by show w.heap.size ≤ w.heap.size + 1 + 1; omega) _⟩
        rw [HWV.out]
        exact (b2.drewN m).set k _
      case measure => simp [intOf]; omega
    · obtain rfl : k = 16 := by omega
      go_wp2
      go_loopw [46] (fun i wr => ∃ (k : Nat) (ws : List Int), k ≤ 48 ∧ i = .int .i64 k ∧ ws.length = 64 ∧ ws.take (k + 16) = schF bs (k + 16) ∧ Blk8 wr w.heap.size 86 bs ∧ Blk wr (w.heap.size + 1) 104 zeros64 ∧ Blk wr (w.heap.size + 1 + 1) 104 ws ∧ wr.heap.size = w.heap.size + 3 ∧ Below w.heap.size w wr) (fun i _ => 48 - (intOf i).toNat)
      case atStart => exact ⟨0, ws, by omega, rfl, hwl, HP.out, b0, b1, b2, hsz, hbel⟩
      case round =>
        clear b0 b1 b2 hsz hbel HP hwl
        obtain ⟨k, ws, hk, rfl, hwl, hpre, b0, b1, b2, hsz, hbel⟩ := hrel
        have HP : Hid (ws.take (k + 16) = schF bs (k + 16)) := hpre
        clear hpre
        by_cases hlt : k < 48
        · clear HS
          have hAl := schF_allW hA (k + 16)
          have e0 : ws.getD k 0 = (schF bs (k + 16)).getD k 0 := by rw [← HP.out, getD_take _ _ _ (by omega)]
          have e1 : ws.getD (k + 1) 0 = (schF bs (k + 16)).getD (k + 1) 0 := by rw [← HP.out, getD_take _ _ _ (by omega)]
          have e9 : ws.getD (k + 9) 0 = (schF bs (k + 16)).getD (k + 9) 0 := by rw [← HP.out, getD_take _ _ _ (by omega)]
          have e14 : ws.getD (k + 14) 0 = (schF bs (k + 16)).getD (k + 14) 0 := by rw [← HP.out, getD_take _ _ _ (by omega)]
          have HN : Hid (schF bs (k + 1 + 16) = schF bs (k + 16) ++ [((schF bs (k + 16)).getD k 0 + (schF bs (k + 16)).getD (k + 9) 0 + sig0 ((schF bs (k + 16)).getD (k + 1) 0) + sig1 ((schF bs (k + 16)).getD (k + 14) 0)) % 4294967296]) := (by
            show _ = _
            rw [show k + 1 + 16 = (k + 16) + 1 from by omega, schF, if_neg (by omega), nextW, show k + 16 - 16 = k from by omega, show k + 16 - 7 = k + 9 from by omega, show k + 16 - 15 = k + 1 from by omega, show k + 16 - 2 = k + 14 from by omega])
          have c0 := b2.cell k (by omega)
          have c1 := b2.cell (k + 1) (by omega)
          have c9 := b2.cell (k + 9) (by omega)
          have c14 := b2.cell (k + 14) (by omega)
          have c16 := b2.cell (k + 16) (by omega)
          have f16 := b2.frozen (k + 16)
          rw [e0] at c0
          rw [e1] at c1
          rw [e9] at c9
          rw [e14] at c14
          have y0 := hAl.getD k
          have y1 := hAl.getD (k + 1)
          have y9 := hAl.getD (k + 9)
          have y14 := hAl.getD (k + 14)
          clear e0 e1 e9 e14 hAl
          generalize (schF bs (k + 16)).getD k 0 = x0 at *
          generalize (schF bs (k + 16)).getD (k + 1) 0 = x1 at *
          generalize (schF bs (k + 16)).getD (k + 9) 0 = x9 at *
          generalize (schF bs (k + 16)).getD (k + 14) 0 = x14 at *
          have m1 : ((k : Int) + 16 - 15).toNat = k + 1 := by omega
          have m2 : ((k : Int) + 16 - 2).toNat = k + 14 := by omega
          have m3 : ((k : Int) + 1).toNat = k + 1 := by omega
          have m4 : ((k : Int) + 14).toNat = k + 14 := by omega
          go_upto_region 11 with fail
          go_quiet (fail)
          go_upto_region 12 with fail
          go_wp2_with fail
          refine Calls.mono (turn_any x1 7 _ y1.1 y1.2 (by omega) (by omega)) (fun e wa hp => ?_)
          obtain ⟨rfl, hw⟩ := hp
          subst hw
          go_wp2_with fail
          refine Calls.mono (turn_any x1 18 _ y1.1 y1.2 (by omega) (by omega)) (fun e wa hp => ?_)
          obtain ⟨rfl, hw⟩ := hp
          subst hw
          go_wp2_with fail
          refine Calls.mono (turn_any x14 17 _ y14.1 y14.2 (by omega) (by omega)) (fun e wa hp => ?_)
          obtain ⟨rfl, hw⟩ := hp
          subst hw
          go_wp2_with fail
          refine Calls.mono (turn_any x14 19 _ y14.1 y14.2 (by omega) (by omega)) (fun e wa hp => ?_)
          obtain ⟨rfl, hw⟩ := hp
          subst hw
          go_upto_region 14 with fail
          clear m1 m2 m3 m4 c1 c14
          have hs0 := sig0_range x1
          have hs1 := sig1_range x14
          rw [show bits .xor .u32 (bits .xor .u32 (rotr x1 7) (rotr x1 18)) (x1 / 8) = sig0 x1 from rfl, show bits .xor .u32 (bits .xor .u32 (rotr x14 17) (rotr x14 19)) (x14 / 1024) = sig1 x14 from rfl]
          generalize sig0 x1 = s0 at *
          generalize sig1 x14 = s1 at *
          clear y1 y14
          have m3 : ((k : Int) + 16 - 16).toNat = k := by omega
          have m4 : ((k : Int) + 16 - 7).toNat = k + 9 := by omega
          have m5 : ((k : Int) + 16).toNat = k + 16 := by omega
          have m6 : ((k : Int) + 9).toNat = k + 9 := by omega
          refine wp_region_last _ 15 (by kernel_rfl) (by kernel_rfl) rfl rfl ?_
          simp only [List.take_succ_cons, List.take_zero]
          repeat (go_big_quiet_step (fail))
          refine wpQuiet_nil ?_
          intro m
          go_wp2
          go_roundw
          case rel =>
            clear m3 m4 m5 m6
            (repeat apply Exists.intro)
            refine ⟨⟨k + 1, ws.set (k + 16) ((x0 + x9 + s0 + s1) % 4294967296), by omega, by go_num, by simpa using hwl, ?_, (b0.drewN _).other (by omega) _, (b1.drewN _).other (by omega) _, ?_, by simpa [World.setCell] using hsz, (below_drewN hbel _).setCell (by show w.heap.size ≤ w.heap.size + 1 + 1; omega) _⟩, rfl⟩
            · rw [show k + 1 + 16 = k + 16 + 1 from by omega, take_set _ _ _ (by omega), HP.out, ← show k + 1 + 16 = k + 16 + 1 from by omega, HN.out]
            · rw [show (x0 + s0 + x9 + s1) % 4294967296 = (x0 + x9 + s0 + s1) % 4294967296 from by omega]
              exact (b2.drewN _).set (k + 16) ((x0 + x9 + s0 + s1) % 4294967296)
          case measure => simp [intOf]; omega
        · obtain rfl : k = 48 := by omega
          have hfin : ws = sch := by rw [← HS.out, ← HP.out, List.take_of_length_le (by omega)]
          have hsl : sch.length = 64 := by rw [← hfin]; exact hwl
          rw [hfin] at b2
          clear hfin HP HS hwl
          have hrg := b2.range
          have hth := b1.there (cellsU32 sch).toArray.size (by simp [cellsU32, hsl, zeros64])
          have hi44 : (Tryd.prog.info? 104).map (·.size) = some (cellsU32 sch).length := by rw [cellsU32_length, hsl]; rfl
          have hi44' : (Tryd.prog.info? 104).map (·.size) = some (cellsU32 sch).toArray.size := by rw [List.size_toArray]; exact hi44
          have hone := all_oneCell_toArray (cellsU32_one sch)
          have hfinal : Blk (wr.setCells (w.heap.size + 1) 0 (cellsU32 sch)) (w.heap.size + 1) 104 sch := b1.over (by rw [hsl]; decide)
          have hbf := below_cells (b := w.heap.size + 1) (by omega) (cellsU32 sch) 0 w wr hbel
          have HR1 : Hid _ := hrg
          have HT1 : Hid _ := hth
          have HF1 : Hid (Blk (wr.setCells (w.heap.size + 1) 0 (cellsU32 sch)) (w.heap.size + 1) 104 sch ∧ Below w.heap.size w (wr.setCells (w.heap.size + 1) 0 (cellsU32 sch))) := ⟨hfinal, hbf⟩
          have HI1 : Hid _ := hi44
          have HI2 : Hid _ := hi44'
          have HO1 : Hid _ := hone
          clear hrg hth hfinal hbf hi44 hi44' hone b0 b1 b2
          go_wp2_with (first | (refine wpList_load_mid rfl 104 _ rfl (w.heap.size + 1 + 1) 0 rfl (cellsU32 sch) _ HR1.out Tryd.underlying104 rfl HI1.out ?_) | (refine wpList_store_mid rfl 104 _ _ rfl (w.heap.size + 1) 0 (cellsU32 sch).toArray rfl rfl HT1.out HI2.out HO1.out ?_))
          refine bodyPost_ret (v := .agg (cellsU32 sch).toArray) (results_cell_row (p := 2) (ty := 104) Tryd.results88 _ _ (w.heap.size + 1) 104 _ (0, 0) _ rfl HF1.out.1 Tryd.underlying104 rfl HI2.out) rfl ⟨rfl, HF1.out.2⟩


/-- Eight words, as a value. -/
def St.agg (s : St) : Value := .agg #[.int .u32 s.a, .int .u32 s.b, .int .u32 s.c, .int .u32 s.d, .int .u32 s.e, .int .u32 s.f, .int .u32 s.g, .int .u32 s.h]

set_option maxHeartbeats 2000000 in
set_option maxRecDepth 100000 in
theorem rounds_any (s0 fin : St) (ws ks : List Int) (w : World) (hw : ws.length = 64) (hks : ks.length = 64) (hB : Tab w ks) (hok : s0.ok) (HF : Hid (rdF s0 ks ws 64 = fin)) :
    Calls Tryd.prog 87 #[s0.agg, .agg (cellsU32 ws).toArray] w fun e w' => e = .returned fin.agg ∧ Below w.heap.size w w' := by
  obtain ⟨h0, h1, h2, h3, h4, h5, h6, h7⟩ := s0
  simp only [St.agg]
  go_enter Tryd.func87, Tryd.ntmps87
  go_wp2
  go_quiet (fail)
  go_wp2
  go_loopw [5, 6, 7, 8, 9, 10, 11, 12, 32] (fun s5 s6 s7 s8 s9 s10 s11 s12 i wr => ∃ (k : Nat) (a b c d e f g h : Int), k ≤ 64 ∧ i = .int .i64 k ∧ s5 = .int .u32 a ∧ s6 = .int .u32 b ∧ s7 = .int .u32 c ∧ s8 = .int .u32 d ∧ s9 = .int .u32 e ∧ s10 = .int .u32 f ∧ s11 = .int .u32 g ∧ s12 = .int .u32 h ∧ rdF ⟨h0, h1, h2, h3, h4, h5, h6, h7⟩ ks ws k = ⟨a, b, c, d, e, f, g, h⟩ ∧ Tab wr ks ∧ Blk wr (w.heap.size + 1) 104 ws ∧ Blk wr (w.heap.size + 1 + 1) 66 [0, 0, 0, 0, 0, 0, 0, 0] ∧ Below w.heap.size w wr) (fun _ _ _ _ _ _ _ _ i _ => 64 - (intOf i).toNat)
  case atStart =>
    obtain ⟨g1, g2, g3⟩ := heap3 w (.cells #[.int .u32 h0, .int .u32 h1, .int .u32 h2, .int .u32 h3, .int .u32 h4, .int .u32 h5, .int .u32 h6, .int .u32 h7] 66) (.cells (cellsU32 ws).toArray 104) (.cells (cellsU32 [0, 0, 0, 0, 0, 0, 0, 0]).toArray 66)
    exact ⟨0, h0, h1, h2, h3, h4, h5, h6, h7, by omega, rfl, rfl, rfl, rfl, rfl, rfl, rfl, rfl, rfl, rfl, (((hB.alloc _).alloc _).alloc _).drewN _, (blk_of g2 rfl).drewN _, (blk_of g3 rfl).drewN _, below_drewN ((((Below.refl _ _).alloc (Nat.le_refl _) _).alloc (by simp) _).alloc (by simp; omega) _) _⟩
  case round =>
    obtain ⟨k, a, b, c, d, e, f, g, h, hk, rfl, rfl, rfl, rfl, rfl, rfl, rfl, rfl, rfl, hrd, b0, b1, b2, hbel⟩ := hrel
    have HRD : Hid (rdF ⟨h0, h1, h2, h3, h4, h5, h6, h7⟩ ks ws k = ⟨a, b, c, d, e, f, g, h⟩) := hrd
    have hok2 := rdF_ok hok ks ws k
    rw [hrd] at hok2
    obtain ⟨ya, -, -, -, ye, -, -, -⟩ := hok2
    clear hrd
    by_cases hlt : k < 64
    · have ck := b0.cell k (by omega)
      have cw := b1.cell k (by omega)
      have HST : Hid (rdF ⟨h0, h1, h2, h3, h4, h5, h6, h7⟩ ks ws (k + 1) = stepF ⟨a, b, c, d, e, f, g, h⟩ (ks.getD k 0) (ws.getD k 0)) := (by show _ = _; rw [rdF, HRD.out])
      generalize ks.getD k 0 = K at *
      generalize ws.getD k 0 = V at *
      have lk : (k : Int) < 64 := by omega
      have T6 : Hid (∀ w, Calls Tryd.prog 104 #[.int .u32 e, .int .i64 6] w fun x w' => x = .returned (.int .u32 (rotr e 6)) ∧ w' = w) := fun w => turn_any e 6 w ye.1 ye.2 (by omega) (by omega)
      have T11 : Hid (∀ w, Calls Tryd.prog 104 #[.int .u32 e, .int .i64 11] w fun x w' => x = .returned (.int .u32 (rotr e 11)) ∧ w' = w) := fun w => turn_any e 11 w ye.1 ye.2 (by omega) (by omega)
      have T25 : Hid (∀ w, Calls Tryd.prog 104 #[.int .u32 e, .int .i64 25] w fun x w' => x = .returned (.int .u32 (rotr e 25)) ∧ w' = w) := fun w => turn_any e 25 w ye.1 ye.2 (by omega) (by omega)
      go_wp2_with fail
      go_quiet ((first | (go_at_call_of 104 (Value.int IntKind.i64 6); exact Calls.quiet_of_same (T6.out _)) | (go_at_call_of 104 (Value.int IntKind.i64 11); exact Calls.quiet_of_same (T11.out _)) | (go_at_call_of 104 (Value.int IntKind.i64 25); exact Calls.quiet_of_same (T25.out _))))
      go_wp2_with fail
      refine Calls.mono (turn_any a 2 _ ya.1 ya.2 (by omega) (by omega)) (fun x wa hp => ?_)
      obtain ⟨rfl, hw1⟩ := hp
      subst hw1
      go_wp2_with fail
      refine Calls.mono (turn_any a 13 _ ya.1 ya.2 (by omega) (by omega)) (fun x wa hp => ?_)
      obtain ⟨rfl, hw1⟩ := hp
      subst hw1
      go_wp2_with fail
      refine Calls.mono (turn_any a 22 _ ya.1 ya.2 (by omega) (by omega)) (fun x wa hp => ?_)
      obtain ⟨rfl, hw1⟩ := hp
      subst hw1
      go_wp2
      go_roundw
      case rel =>
        refine ⟨k + 1, _, _, _, _, _, _, _, _, by omega, by go_num, rfl, rfl, rfl, rfl, rfl, rfl, rfl, rfl, ?_, b0.drewN _, b1.drewN _, b2.drewN _, below_drewN hbel _⟩
        rw [HST.out]
        simp only [stepF, stepU, stepV, bS1, bS0, chF, majF]
      case measure => simp [intOf]; omega
    · obtain rfl : k = 64 := by omega
      have hfin : fin = ⟨a, b, c, d, e, f, g, h⟩ := by rw [← HF.out, HRD.out]
      have HFI : Hid (fin = ⟨a, b, c, d, e, f, g, h⟩) := hfin
      clear hfin
      have hth := b2.there 8 rfl
      have hfinal := b2.over (ws := [a, b, c, d, e, f, g, h]) rfl
      have hbf := below_cells (b := w.heap.size + 1 + 1) (by omega) (cellsU32 [a, b, c, d, e, f, g, h]) 0 w wr hbel
      have HT1 : Hid (wr.there (w.heap.size + 1 + 1) 0 8) := hth
      have HF1 : Hid (Blk (wr.setCells (w.heap.size + 1 + 1) 0 (cellsU32 [a, b, c, d, e, f, g, h])) (w.heap.size + 1 + 1) 66 [a, b, c, d, e, f, g, h] ∧ Below w.heap.size w (wr.setCells (w.heap.size + 1 + 1) 0 (cellsU32 [a, b, c, d, e, f, g, h]))) := ⟨hfinal, hbf⟩
      have HI1 : Hid ((Tryd.prog.info? 66).map (·.size) = some (#[Value.int .u32 a, .int .u32 b, .int .u32 c, .int .u32 d, .int .u32 e, .int .u32 f, .int .u32 g, .int .u32 h] : Array Value).size) := (rfl : _ = _)
      have HO1 : Hid ((#[Value.int .u32 a, .int .u32 b, .int .u32 c, .int .u32 d, .int .u32 e, .int .u32 f, .int .u32 g, .int .u32 h] : Array Value).all (·.oneCell') = true) := all_oneCell_toArray (cellsU32_one [a, b, c, d, e, f, g, h])
      clear hth hfinal hbf b0 b1 b2
      go_wp2_with (refine wpList_store_mid rfl 66 _ _ rfl (w.heap.size + 1 + 1) 0 #[.int .u32 a, .int .u32 b, .int .u32 c, .int .u32 d, .int .u32 e, .int .u32 f, .int .u32 g, .int .u32 h] rfl rfl HT1.out HI1.out HO1.out ?_)
      refine bodyPost_ret (v := fin.agg) ?_ rfl ⟨rfl, HF1.out.2⟩
      rw [HFI.out]
      exact results_cell_row (p := 4) (ty := 66) Tryd.results87 _ _ (w.heap.size + 1 + 1) 66 _ (0, 0) _ rfl HF1.out.1 Tryd.underlying66 rfl rfl
end Go.Proofs.YthkaohkondkhgaaDoor.Sh
