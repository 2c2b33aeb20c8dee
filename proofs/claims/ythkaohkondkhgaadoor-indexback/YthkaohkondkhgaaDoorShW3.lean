/-
  Walks: rounds.
-/
import Derived.Test.YthkaohkondkhgaaDoorShK
import Derived.Test.YthkaohkondkhgaaDoorShM2
namespace Go.Proofs.YthkaohkondkhgaaDoor.Sh
open Go.RowKit

/-- Eight words, as a value. -/
def St.agg (s : St) : Value := .agg #[.int .u32 s.a, .int .u32 s.b, .int .u32 s.c, .int .u32 s.d, .int .u32 s.e, .int .u32 s.f, .int .u32 s.g, .int .u32 s.h]

set_option maxHeartbeats 2000000 in
set_option maxRecDepth 100000 in
theorem rounds_any (s0 fin : St) (ws ks : List Int) (w : World) (hw : ws.length = 64) (hks : ks.length = 64) (hB : Tab w ks) (hok : s0.ok) (HF : Hid (rdF s0 ks ws 64 = fin)) :
    Calls Tryd.prog 87 #[s0.agg, .agg (cellsU32 ws).toArray] w fun e w' => e = .returned fin.agg ∧ Below w.heap.size w w' := by
  obtain ⟨h0, h1, h2, h3, h4, h5, h6, h7⟩ := s0
  simp only [St.agg]
  go_enter Tryd.func87, Tryd.ntmps87
  go_wp2
  go_quiet (fail)
  go_wp2
  go_loopw [5, 6, 7, 8, 9, 10, 11, 12, 32] (fun s5 s6 s7 s8 s9 s10 s11 s12 i wr => ∃ (k : Nat) (a b c d e f g h : Int), k ≤ 64 ∧ i = .int .i64 k ∧ s5 = .int .u32 a ∧ s6 = .int .u32 b ∧ s7 = .int .u32 c ∧ s8 = .int .u32 d ∧ s9 = .int .u32 e ∧ s10 = .int .u32 f ∧ s11 = .int .u32 g ∧ s12 = .int .u32 h ∧ rdF ⟨h0, h1, h2, h3, h4, h5, h6, h7⟩ ks ws k = ⟨a, b, c, d, e, f, g, h⟩ ∧ Tab wr ks ∧ Blk wr (w.heap.size + 1) 104 ws ∧ Blk wr (w.heap.size + 1 + 1) 66 [0, 0, 0, 0, 0, 0, 0, 0] ∧ Below w.heap.size w wr) (fun _ _ _ _ _ _ _ _ i _ => 64 - (intOf i).toNat)
  case atStart =>
    obtain ⟨g1, g2, g3⟩ := heap3 w (.cells #[.int .u32 h0, .int .u32 h1, .int .u32 h2, .int .u32 h3, .int .u32 h4, .int .u32 h5, .int .u32 h6, .int .u32 h7] 66) (.cells (cellsU32 ws).toArray 104) (.cells (cellsU32 [0, 0, 0, 0, 0, 0, 0, 0]).toArray 66)
    exact ⟨0, h0, h1, h2, h3, h4, h5, h6, h7, by omega, rfl, rfl, rfl, rfl, rfl, rfl, rfl, rfl, rfl, rfl, (((hB.alloc _).alloc _).alloc _).drewN _, (blk_of g2 rfl).drewN _, (blk_of g3 rfl).drewN _, below_drewN ((((Below.refl _ _).alloc (Nat.le_refl _) _).alloc (by simp) _).alloc (by simp; omega) _) _⟩
  case round =>
    obtain ⟨k, a, b, c, d, e, f, g, h, hk, rfl, rfl, rfl, rfl, rfl, rfl, rfl, rfl, rfl, hrd, b0, b1, b2, hbel⟩ := hrel
    have HRD : Hid (rdF ⟨h0, h1, h2, h3, h4, h5, h6, h7⟩ ks ws k = ⟨a, b, c, d, e, f, g, h⟩) := hrd
    have hok2 := rdF_ok hok ks ws k
    rw [hrd] at hok2
    obtain ⟨ya, -, -, -, ye, -, -, -⟩ := hok2
    clear hrd
    by_cases hlt : k < 64
    · have ck := b0.cell k (by omega)
      have cw := b1.cell k (by omega)
      have HST : Hid (rdF ⟨h0, h1, h2, h3, h4, h5, h6, h7⟩ ks ws (k + 1) = stepF ⟨a, b, c, d, e, f, g, h⟩ (ks.getD k 0) (ws.getD k 0)) := (by show _ = _; rw [rdF, HRD.out])
      generalize ks.getD k 0 = K at *
      generalize ws.getD k 0 = V at *
      have lk : (k : Int) < 64 := by omega
      have T6 : Hid (∀ w, Calls Tryd.prog 104 #[.int .u32 e, .int .i64 6] w fun x w' => x = .returned (.int .u32 (rotr e 6)) ∧ w' = w) := fun w => turn_any e 6 w ye.1 ye.2 (by omega) (by omega)
      have T11 : Hid (∀ w, Calls Tryd.prog 104 #[.int .u32 e, .int .i64 11] w fun x w' => x = .returned (.int .u32 (rotr e 11)) ∧ w' = w) := fun w => turn_any e 11 w ye.1 ye.2 (by omega) (by omega)
      have T25 : Hid (∀ w, Calls Tryd.prog 104 #[.int .u32 e, .int .i64 25] w fun x w' => x = .returned (.int .u32 (rotr e 25)) ∧ w' = w) := fun w => turn_any e 25 w ye.1 ye.2 (by omega) (by omega)
      go_wp2_with fail
      go_quiet ((first | (go_at_call_of 104 (Value.int IntKind.i64 6); exact Calls.quiet_of_same (T6.out _)) | (go_at_call_of 104 (Value.int IntKind.i64 11); exact Calls.quiet_of_same (T11.out _)) | (go_at_call_of 104 (Value.int IntKind.i64 25); exact Calls.quiet_of_same (T25.out _))))
      go_wp2_with fail
      refine Calls.mono (turn_any a 2 _ ya.1 ya.2 (by omega) (by omega)) (fun x wa hp => ?_)
      obtain ⟨rfl, hw1⟩ := hp
      subst hw1
      go_wp2_with fail
      refine Calls.mono (turn_any a 13 _ ya.1 ya.2 (by omega) (by omega)) (fun x wa hp => ?_)
      obtain ⟨rfl, hw1⟩ := hp
      subst hw1
      go_wp2_with fail
      refine Calls.mono (turn_any a 22 _ ya.1 ya.2 (by omega) (by omega)) (fun x wa hp => ?_)
      obtain ⟨rfl, hw1⟩ := hp
      subst hw1
      go_wp2
      go_roundw
      case rel =>
        refine ⟨k + 1, _, _, _, _, _, _, _, _, by omega, by go_num, rfl, rfl, rfl, rfl, rfl, rfl, rfl, rfl, ?_, b0.drewN _, b1.drewN _, b2.drewN _, below_drewN hbel _⟩
        rw [HST.out]
        simp only [stepF, stepU, stepV, bS1, bS0, chF, majF]
      case measure => simp [intOf]; omega
    · obtain rfl : k = 64 := by omega
      have hfin : fin = ⟨a, b, c, d, e, f, g, h⟩ := by rw [← HF.out, HRD.out]
      have HFI : Hid (fin = ⟨a, b, c, d, e, f, g, h⟩) := hfin
      clear hfin
      have hth := b2.there 8 rfl
      have hfinal := b2.over (ws := [a, b, c, d, e, f, g, h]) rfl
      have hbf := below_cells (b := w.heap.size + 1 + 1) (by omega) (cellsU32 [a, b, c, d, e, f, g, h]) 0 w wr hbel
      have HT1 : Hid (wr.there (w.heap.size + 1 + 1) 0 8) := hth
      have HF1 : Hid (Blk (wr.setCells (w.heap.size + 1 + 1) 0 (cellsU32 [a, b, c, d, e, f, g, h])) (w.heap.size + 1 + 1) 66 [a, b, c, d, e, f, g, h] ∧ Below w.heap.size w (wr.setCells (w.heap.size + 1 + 1) 0 (cellsU32 [a, b, c, d, e, f, g, h]))) := ⟨hfinal, hbf⟩
      have HI1 : Hid ((Tryd.prog.info? 66).map (·.size) = some (#[Value.int .u32 a, .int .u32 b, .int .u32 c, .int .u32 d, .int .u32 e, .int .u32 f, .int .u32 g, .int .u32 h] : Array Value).size) := (rfl : _ = _)
      have HO1 : Hid ((#[Value.int .u32 a, .int .u32 b, .int .u32 c, .int .u32 d, .int .u32 e, .int .u32 f, .int .u32 g, .int .u32 h] : Array Value).all (·.oneCell') = true) := all_oneCell_toArray (cellsU32_one [a, b, c, d, e, f, g, h])
      clear hth hfinal hbf b0 b1 b2
      go_wp2_with (refine wpList_store_mid rfl 66 _ _ rfl (w.heap.size + 1 + 1) 0 #[.int .u32 a, .int .u32 b, .int .u32 c, .int .u32 d, .int .u32 e, .int .u32 f, .int .u32 g, .int .u32 h] rfl rfl HT1.out HI1.out HO1.out ?_)
      refine bodyPost_ret (v := fin.agg) ?_ rfl ⟨rfl, HF1.out.2⟩
      rw [HFI.out]
      exact results_cell_row (p := 4) (ty := 66) Tryd.results87 _ _ (w.heap.size + 1 + 1) 66 _ (0, 0) _ rfl HF1.out.1 Tryd.underlying66 rfl rfl
end Go.Proofs.YthkaohkondkhgaaDoor.Sh
