/-
  The plain mathematics of chains of blocks.
-/
import Derived.Test.YthkaohkondkhgaaDoorShA
namespace Go.Proofs.YthkaohkondkhgaaDoor.Sh
open Go.RowKit

theorem thruF_append (ks xs ys : List Int) (s : St) : ∀ (k : Nat), 64 * k ≤ xs.length → thruF ks (xs ++ ys) s k = thruF ks xs s k
  | 0, _ => rfl
  | k + 1, h => by
    rw [thruF, thruF, thruF_append ks xs ys s k (by omega)]
    congr 1
    rw [List.drop_append_of_le_length (by omega), List.take_append_of_le_length (by rw [List.length_drop]; omega)]
theorem thruF_add (ks zs : List Int) (s : St) (a : Nat) : ∀ (b : Nat), thruF ks zs s (a + b) = thruF ks (zs.drop (64 * a)) (thruF ks zs s a) b
  | 0 => rfl
  | b + 1 => by
    rw [← Nat.add_assoc, thruF, thruF, thruF_add ks zs s a b, List.drop_drop]
    rw [show 64 * a + 64 * b = 64 * (a + b) from by omega]
theorem pad_whole (N : Nat) : (N + (1 + zcF N + 8)) % 64 = 0 := by
  unfold zcF
  omega
/-- The eight words of a sum are those behind the blocks of the whole padded text. -/
theorem sumS_whole (ks xs : List Int) : thruF ks (xs ++ padF xs.length) St.first ((xs ++ padF xs.length).length / 64) = sumS ks xs := by
  have hw := pad_whole xs.length
  have e1 : (xs ++ padF xs.length).length = xs.length + (1 + zcF xs.length + 8) := by
    rw [List.length_append, padF, padP_length]
  have e2 : (xs ++ padF xs.length).length / 64 = xs.length / 64 + (lastF xs).length / 64 := by
    rw [e1, lastF_length]
    omega
  rw [e2, thruF_add, thruF_append _ _ _ _ _ (by omega), List.drop_append_of_le_length (by omega)]
  rfl


set_option maxHeartbeats 2000000 in
set_option maxRecDepth 100000 in
theorem big_any (v : Value) (xs : List Int) (i : Nat) (w : World) (hp : Rd w v xs) (hi : i + 3 < xs.length) :
    Calls Tryd.prog 91 #[v, .int .i64 i] w fun e w' => e = .returned (.int .u32 (be4 (xs.getD i 0) (xs.getD (i + 1) 0) (xs.getD (i + 2) 0) (xs.getD (i + 3) 0))) ∧ ∃ n, w' = w.drewN n := by
  obtain ⟨b, off, c, rfl, hlc, hcm, hblt, hcell⟩ := hp.open2 (by omega)
  have c0 := hcell i (by omega)
  have c1 := hcell (i + 1) (by omega)
  have c2 := hcell (i + 2) (by omega)
  have c3 := hcell (i + 3) (by omega)
  have y0 := hp.allB.getD i
  have y1 := hp.allB.getD (i + 1)
  have y2 := hp.allB.getD (i + 2)
  have y3 := hp.allB.getD (i + 3)
  unfold maxLen at hcm
  clear hcell hp
  generalize xs.getD i 0 = x0 at *
  generalize xs.getD (i + 1) 0 = x1 at *
  generalize xs.getD (i + 2) 0 = x2 at *
  generalize xs.getD (i + 3) 0 = x3 at *
  generalize xs.length = n at *
  have m1 : ((i : Int) + 1).toNat = i + 1 := by omega
  have m2 : ((i : Int) + 2).toNat = i + 2 := by omega
  have m3 : ((i : Int) + 3).toNat = i + 3 := by omega
  have HE : Kept (be4 x0 x1 x2 x3 = x0 * 16777216 + x1 * 65536 + x2 * 256 + x3) := ⟨rfl⟩
  generalize be4 x0 x1 x2 x3 = r at *
  go_enter Tryd.func91, Tryd.ntmps91
  go_upto_region 1 with fail
  go_quiet (fail)
  go_wp2
  go_ret
  exact ⟨by rw [HE.out]; rfl, _, rfl⟩

set_option maxHeartbeats 2000000 in
set_option maxRecDepth 100000 in
theorem constants_any (w : World) : Calls Tryd.prog 93 #[] w fun e w' => e = .returned (.agg (cellsU32 ksK).toArray) ∧ Below w.heap.size w w' := by
  have HI : Kept ((Tryd.prog.info? 104).map (·.size) = some (cellsU32 ksK).toArray.size) := ⟨rfl⟩
  have HO := Kept.mk (all_oneCell_toArray (cellsU32_one ksK))
  have HT : Kept ((w.alloc (.cells (cellsU32 zeros64).toArray 104)).there w.heap.size 0 (cellsU32 ksK).toArray.size) := ⟨(alloc_blk w zeros64 104).there _ rfl⟩
  have HF : Kept (Blk ((w.alloc (.cells (cellsU32 zeros64).toArray 104)).setCells w.heap.size 0 (cellsU32 ksK)) w.heap.size 104 ksK ∧ Below w.heap.size w ((w.alloc (.cells (cellsU32 zeros64).toArray 104)).setCells w.heap.size 0 (cellsU32 ksK))) := ⟨(alloc_blk w zeros64 104).over rfl, below_cells (Nat.le_refl _) _ 0 w _ ((Below.refl _ _).alloc (Nat.le_refl _) _)⟩
  go_enter Tryd.func93, Tryd.ntmps93
  go_wp2_with (refine wpList_store_mid rfl 104 _ _ rfl w.heap.size 0 (cellsU32 ksK).toArray rfl rfl HT.out HI.out HO.out ?_)
  refine bodyPost_ret (v := .agg (cellsU32 ksK).toArray) (results_cell_row (p := 0) (ty := 104) Tryd.results93 _ _ w.heap.size 104 _ (0, 0) _ rfl HF.out.1 Tryd.underlying104 rfl HI.out) rfl ⟨rfl, HF.out.2⟩

set_option maxHeartbeats 400000 in
set_option maxRecDepth 100000 in
theorem rfirst_any (w : World) : Calls Tryd.prog 68 #[] w fun e w' => e = .returned St.first.agg ∧ Below w.heap.size w w' := by
  go_enter Tryd.func68, Tryd.ntmps68
  go_wp2
  refine bodyPost_ret (v := St.first.agg) (results_cell_row (p := 0) (ty := 66) Tryd.results68 _ _ w.heap.size 66 _ (0, 0) _ rfl (heap_alloc_new w _) Tryd.underlying66 rfl rfl) rfl ⟨rfl, (Below.refl _ _).alloc (Nat.le_refl _) _⟩



theorem St.add_comm (r s : St) : r.add s = s.add r := by
  simp only [St.add, addW, Int.add_comm]

theorem Blk.far8 {w : World} {b g : Nat} {t : TypeId} {xs : List Int} (h : Blk w b t xs) (hne : b ≠ g) (s : St) : Blk (set8 w g s) b t xs :=
  (((((((h.other hne _).other hne _).other hne _).other hne _).other hne _).other hne _).other hne _).other hne _
theorem Blk.over8' {w : World} {g : Nat} {r : St} (h : Blk w g 66 r.list) (s : St) : Blk (set8 w g s) g 66 s.list :=
  (((((((h.set 0 s.a).set 1 s.b).set 2 s.c).set 3 s.d).set 4 s.e).set 5 s.f).set 6 s.g).set 7 s.h
theorem quiet_add {P : Program} {f : FuncId} {args : Array Value} {w : World} {k n : Nat} {v : Value}
    (h : Calls P f args (w.drewN (k + n)) fun e w' => e = .returned v ∧ ∃ m, w' = (w.drewN (k + n)).drewN m) : Calls P f args (w.drewN (k + n)) fun e w'' => e = .returned v ∧ ∃ m, w'' = w.drewN (k + m) :=
  h.mono fun _ _ ⟨he, m, hm⟩ => ⟨he, n + m, by rw [hm, World.drewN_drewN, Nat.add_assoc]⟩

set_option maxHeartbeats 8000000 in
set_option maxRecDepth 100000 in
theorem compress_any (s0 r : St) (v : Value) (xs sch : List Int) (w : World) (hp : Rd w v xs) (hl : xs.length = 64) (hok : s0.ok) (HS : Kept (schF xs 64 = sch)) (HR : Kept (rdF s0 ksK sch 64 = r)) :
    Calls Tryd.prog 69 #[s0.agg, v] w fun e w' => e = .returned (r.add s0).agg ∧ Below w.heap.size w w' := by
  have hA := hp.allB
  have HP := Kept.mk hp
  have hs8 : s0.list.length = 8 := rfl
  clear hp
  rw [St.agg_list, St.agg_list]
  generalize hsl : s0.list = sl at *
  have HSL := Kept.mk hsl
  clear hsl
  go_enter Tryd.func69, Tryd.ntmps69
  go_wp2
  go_loopw [6] (fun i wr => ∃ (k : Nat) (ws : List Int), k ≤ 64 ∧ i = .int .i64 k ∧ ws.length = 64 ∧ ws.take k = schF xs k ∧ Blk wr w.heap.size 66 sl ∧ Blk wr (w.heap.size + 1) 66 zeros8 ∧ Blk wr (w.heap.size + 1 + 1) 104 ws ∧ wr.heap.size = w.heap.size + 3 ∧ Below w.heap.size w wr) (fun i _ => 64 - (intOf i).toNat)
  case atStart =>
    obtain ⟨g1, g2, g3⟩ := heap3 w (.cells (cellsU32 sl).toArray 66) (.cells (cellsU32 zeros8).toArray 66) (.cells (cellsU32 zeros64).toArray 104)
    exact ⟨0, zeros64, by omega, rfl, by decide, rfl, blk_of g1 rfl, blk_of g2 rfl, blk_of g3 rfl, by simp, (((Below.refl _ _).alloc (Nat.le_refl _) _).alloc (by simp) _).alloc (by simp; omega) _⟩
  case round =>
    obtain ⟨k, ws, hk, rfl, hwl, hpre, b0, b1, b2, hsz, hbel⟩ := hrel
    have HPRE := Kept.mk hpre
    have HB0 := Kept.mk b0
    have HB1 := Kept.mk b1
    have HB2 := Kept.mk b2
    clear hpre b0 b1 b2
    by_cases hlt : k < 64
    · clear HS HR
      by_cases h16 : k < 16
      · have hbig := big_any v xs (4 * k) wr (HP.out.later hbel (Nat.le_refl _)) (by omega)
        rw [show ((4 * k : Nat) : Int) = 4 * (k : Int) from by omega] at hbig
        have HN : Kept (schF xs (k + 1) = schF xs k ++ [be4 (xs.getD (4 * k) 0) (xs.getD (4 * k + 1) 0) (xs.getD (4 * k + 2) 0) (xs.getD (4 * k + 3) 0)]) := ⟨by rw [schF, if_pos h16]⟩
        generalize be4 (xs.getD (4 * k) 0) (xs.getD (4 * k + 1) 0) (xs.getD (4 * k + 2) 0) (xs.getD (4 * k + 3) 0) = y at *
        have HBIG := Kept.mk hbig
        clear hbig
        have cw := HB2.out.cell k (by omega)
        have fw := HB2.out.frozen k
        generalize ws.getD k 0 = old at *
        go_upto_region 6 with fail
        go_wp2_with fail
        refine Calls.mono HBIG.out (fun e wa hp => ?_)
        obtain ⟨rfl, m, hw⟩ := hp
        subst hw
        go_wp2
        go_roundw
        case rel =>
          refine ⟨k + 1, ws.set k y, by omega, by go_num, by simpa using hwl, by rw [take_set _ _ _ (by omega), HPRE.out, HN.out], (HB0.out.drewN m).other (by omega) _, (HB1.out.drewN m).other (by omega) _, (HB2.out.drewN m).set k _, by simpa [World.setCell] using hsz, (below_drewN hbel m).setCell (by show w.heap.size ≤ w.heap.size + 1 + 1; omega) _⟩
        case measure => simp [intOf]; omega
      · have hAl := schF_allW hA k
        have e0 : ws.getD (k - 16) 0 = (schF xs k).getD (k - 16) 0 := by rw [← HPRE.out, getD_take _ _ _ (by omega)]
        have e1 : ws.getD (k - 15) 0 = (schF xs k).getD (k - 15) 0 := by rw [← HPRE.out, getD_take _ _ _ (by omega)]
        have e9 : ws.getD (k - 7) 0 = (schF xs k).getD (k - 7) 0 := by rw [← HPRE.out, getD_take _ _ _ (by omega)]
        have e14 : ws.getD (k - 2) 0 = (schF xs k).getD (k - 2) 0 := by rw [← HPRE.out, getD_take _ _ _ (by omega)]
        have HN : Kept (schF xs (k + 1) = schF xs k ++ [((schF xs k).getD (k - 16) 0 + (schF xs k).getD (k - 7) 0 + sig0 ((schF xs k).getD (k - 15) 0) + sig1 ((schF xs k).getD (k - 2) 0)) % 4294967296]) := ⟨by rw [schF, if_neg h16, nextW]⟩
        have c0 := HB2.out.cell (k - 16) (by omega)
        have c1 := HB2.out.cell (k - 15) (by omega)
        have c9 := HB2.out.cell (k - 7) (by omega)
        have c14 := HB2.out.cell (k - 2) (by omega)
        have cw := HB2.out.cell k (by omega)
        have fw := HB2.out.frozen k
        rw [e0] at c0
        rw [e1] at c1
        rw [e9] at c9
        rw [e14] at c14
        have y0 := hAl.getD (k - 16)
        have y1 := hAl.getD (k - 15)
        have y9 := hAl.getD (k - 7)
        have y14 := hAl.getD (k - 2)
        clear e0 e1 e9 e14 hAl
        generalize (schF xs k).getD (k - 16) 0 = x0 at *
        generalize (schF xs k).getD (k - 15) 0 = x1 at *
        generalize (schF xs k).getD (k - 7) 0 = x9 at *
        generalize (schF xs k).getD (k - 2) 0 = x14 at *
        generalize ws.getD k 0 = old at *
        have m0 : ((k : Int) - 16).toNat = k - 16 := by omega
        have m1 : ((k : Int) - 15).toNat = k - 15 := by omega
        have m7 : ((k : Int) - 7).toNat = k - 7 := by omega
        have m2 : ((k : Int) - 2).toNat = k - 2 := by omega
        have T7 : Kept (∀ w, Calls Tryd.prog 92 #[.int .u32 x1, .int .i64 7] w fun x w' => x = .returned (.int .u32 (rotr x1 7)) ∧ ∃ n, w' = w.drewN n) := ⟨fun w => right_any x1 7 w y1.1 y1.2 (by omega) (by omega)⟩
        have T18 : Kept (∀ w, Calls Tryd.prog 92 #[.int .u32 x1, .int .i64 18] w fun x w' => x = .returned (.int .u32 (rotr x1 18)) ∧ ∃ n, w' = w.drewN n) := ⟨fun w => right_any x1 18 w y1.1 y1.2 (by omega) (by omega)⟩
        have T17 : Kept (∀ w, Calls Tryd.prog 92 #[.int .u32 x14, .int .i64 17] w fun x w' => x = .returned (.int .u32 (rotr x14 17)) ∧ ∃ n, w' = w.drewN n) := ⟨fun w => right_any x14 17 w y14.1 y14.2 (by omega) (by omega)⟩
        have T19 : Kept (∀ w, Calls Tryd.prog 92 #[.int .u32 x14, .int .i64 19] w fun x w' => x = .returned (.int .u32 (rotr x14 19)) ∧ ∃ n, w' = w.drewN n) := ⟨fun w => right_any x14 19 w y14.1 y14.2 (by omega) (by omega)⟩
        have hs0 := sig0_range x1
        have hs1 := sig1_range x14
        have hq0 : bits .xor .u32 (bits .xor .u32 (rotr x1 7) (rotr x1 18)) (x1 / 8) = sig0 x1 := rfl
        have hq1 : bits .xor .u32 (bits .xor .u32 (rotr x14 17) (rotr x14 19)) (x14 / 1024) = sig1 x14 := rfl
        generalize sig0 x1 = s0' at *
        generalize sig1 x14 = s1' at *
        go_upto_region 9 with fail
        refine wp_region_last _ 29 (by kernel_rfl) (by kernel_rfl) rfl rfl ?_
        simp only [List.take_succ_cons, List.take_zero]
        repeat (go_big_quiet_step (first | (go_at_call_of 92 (Value.int IntKind.i64 7); exact Calls.quiet_of (T7.out _)) | (go_at_call_of 92 (Value.int IntKind.i64 18); exact Calls.quiet_of (T18.out _)) | (go_at_call_of 92 (Value.int IntKind.i64 17); exact Calls.quiet_of (T17.out _)) | (go_at_call_of 92 (Value.int IntKind.i64 19); exact Calls.quiet_of (T19.out _))))
        refine wpQuiet_nil ?_
        intro m
        go_wp2
        go_roundw
        case rel =>
          refine ⟨k + 1, ws.set k ((x0 + x9 + s0' + s1') % 4294967296), by omega, by go_num, by simpa using hwl, by rw [take_set _ _ _ (by omega), HPRE.out, HN.out], (HB0.out.drewN m).other (by omega) _, (HB1.out.drewN m).other (by omega) _, (HB2.out.drewN m).set k _, by simpa [World.setCell] using hsz, (below_drewN hbel m).setCell (by show w.heap.size ≤ w.heap.size + 1 + 1; omega) _⟩
        case measure => simp [intOf]; omega
    · obtain rfl : k = 64 := by omega
      have hfin : ws = sch := by rw [← HS.out, ← HPRE.out, List.take_of_length_le (by omega)]
      subst hfin
      clear HS HPRE HP hlt hk hA
      go_wp2_with fail
      refine Calls.mono (constants_any wr) (fun e w1 hp => ?_)
      obtain ⟨rfl, hb1⟩ := hp
      have s1 := hb1.size
      have A0 := HB0.out.far hb1 (by omega)
      have A1 := HB1.out.far hb1 (by omega)
      have A2 := HB2.out.far hb1 (by omega)
      have BB1 : Below w.heap.size w w1 := hbel.trans (hb1.mono (by omega))
      clear HB0 HB1 HB2 hb1 hbel
      have HIK : Kept ((Tryd.prog.info? 104).map (·.size) = some (cellsU32 ksK).toArray.size) := ⟨rfl⟩
      have HOK := Kept.mk (all_oneCell_toArray (cellsU32_one ksK))
      have HTK : Kept ((w1.alloc (.cells #[.int .u32 0, .int .u32 0, .int .u32 0, .int .u32 0, .int .u32 0, .int .u32 0, .int .u32 0, .int .u32 0, .int .u32 0, .int .u32 0, .int .u32 0, .int .u32 0, .int .u32 0, .int .u32 0, .int .u32 0, .int .u32 0, .int .u32 0, .int .u32 0, .int .u32 0, .int .u32 0, .int .u32 0, .int .u32 0, .int .u32 0, .int .u32 0, .int .u32 0, .int .u32 0, .int .u32 0, .int .u32 0, .int .u32 0, .int .u32 0, .int .u32 0, .int .u32 0, .int .u32 0, .int .u32 0, .int .u32 0, .int .u32 0, .int .u32 0, .int .u32 0, .int .u32 0, .int .u32 0, .int .u32 0, .int .u32 0, .int .u32 0, .int .u32 0, .int .u32 0, .int .u32 0, .int .u32 0, .int .u32 0, .int .u32 0, .int .u32 0, .int .u32 0, .int .u32 0, .int .u32 0, .int .u32 0, .int .u32 0, .int .u32 0, .int .u32 0, .int .u32 0, .int .u32 0, .int .u32 0, .int .u32 0, .int .u32 0, .int .u32 0, .int .u32 0] 104)).there w1.heap.size 0 (cellsU32 ksK).toArray.size) := ⟨(alloc_blk w1 zeros64 104).there _ rfl⟩
      generalize hva : Value.agg (cellsU32 ksK).toArray = va
      have HVA := Kept.mk hva
      clear hva
      go_upto_region 11 with (refine wpList_store_mid rfl 104 _ _ rfl w1.heap.size 0 (cellsU32 ksK).toArray rfl HVA.out.symm HTK.out HIK.out HOK.out ?_)
      try simp only [Act.put]
      obtain ⟨w2, hw2, C0, C1, C2, CK, CB, cz⟩ : ∃ w2, (w1.alloc (.cells #[.int .u32 0, .int .u32 0, .int .u32 0, .int .u32 0, .int .u32 0, .int .u32 0, .int .u32 0, .int .u32 0, .int .u32 0, .int .u32 0, .int .u32 0, .int .u32 0, .int .u32 0, .int .u32 0, .int .u32 0, .int .u32 0, .int .u32 0, .int .u32 0, .int .u32 0, .int .u32 0, .int .u32 0, .int .u32 0, .int .u32 0, .int .u32 0, .int .u32 0, .int .u32 0, .int .u32 0, .int .u32 0, .int .u32 0, .int .u32 0, .int .u32 0, .int .u32 0, .int .u32 0, .int .u32 0, .int .u32 0, .int .u32 0, .int .u32 0, .int .u32 0, .int .u32 0, .int .u32 0, .int .u32 0, .int .u32 0, .int .u32 0, .int .u32 0, .int .u32 0, .int .u32 0, .int .u32 0, .int .u32 0, .int .u32 0, .int .u32 0, .int .u32 0, .int .u32 0, .int .u32 0, .int .u32 0, .int .u32 0, .int .u32 0, .int .u32 0, .int .u32 0, .int .u32 0, .int .u32 0, .int .u32 0, .int .u32 0, .int .u32 0, .int .u32 0] 104)).setCells w1.heap.size 0 (cellsU32 ksK) = w2 ∧ Blk w2 w.heap.size 66 sl ∧ Blk w2 (w.heap.size + 1) 66 zeros8 ∧ Blk w2 (w.heap.size + 1 + 1) 104 ws ∧ Blk w2 w1.heap.size 104 ksK ∧ Below w.heap.size w w2 ∧ w2.heap.size = w1.heap.size + 1 :=
        ⟨_, rfl, (A0.alloc _).cells_far (by omega) _, (A1.alloc _).cells_far (by omega) _, (A2.alloc _).cells_far (by omega) _, (alloc_blk w1 zeros64 104).over rfl, below_cells (by omega) _ 0 w _ (BB1.alloc (by omega) _), by rw [size_setCells]; simp⟩
      rw [hw2]
      clear HIK HOK HTK HVA A0 A1 A2 BB1 hw2
      generalize w1.heap.size = g9 at *
      have CZ := Kept.mk cz
      clear cz
      have HR0 := Kept.mk C0.range
      have HI8 := Kept.mk (info23 sl hs8)
      have HO8 := Kept.mk (all_oneCell_toArray (cellsU32_one sl))
      have HT8 : Kept ((w2.alloc (.cells #[.int .u32 0, .int .u32 0, .int .u32 0, .int .u32 0, .int .u32 0, .int .u32 0, .int .u32 0, .int .u32 0] 66)).there w2.heap.size 0 (cellsU32 sl).toArray.size) := ⟨(alloc_blk w2 zeros8 66).there _ (by rw [List.size_toArray, cellsU32_length, hs8]; rfl)⟩
      go_upto_region 12 with (first | (refine wpList_load_mid rfl 66 _ rfl w.heap.size 0 rfl (cellsU32 sl) _ HR0.out Tryd.underlying66 rfl HI8.out.1 ?_) | (refine wpList_store_mid rfl 66 _ _ rfl w2.heap.size 0 (cellsU32 sl).toArray rfl rfl HT8.out HI8.out.2 HO8.out ?_))
      try simp only [Act.put]
      have cz := CZ.out
      obtain ⟨w3, hw3, D0, D1, D2, DK, DR, DB⟩ : ∃ w3, (w2.alloc (.cells #[.int .u32 0, .int .u32 0, .int .u32 0, .int .u32 0, .int .u32 0, .int .u32 0, .int .u32 0, .int .u32 0] 66)).setCells w2.heap.size 0 (cellsU32 sl) = w3 ∧ Blk w3 w.heap.size 66 sl ∧ Blk w3 (w.heap.size + 1) 66 zeros8 ∧ Blk w3 (w.heap.size + 1 + 1) 104 ws ∧ Blk w3 g9 104 ksK ∧ Blk w3 w2.heap.size 66 sl ∧ Below w.heap.size w w3 :=
        ⟨_, rfl, (C0.alloc _).cells_far (by omega) _, (C1.alloc _).cells_far (by omega) _, (C2.alloc _).cells_far (by omega) _, (CK.alloc _).cells_far (by omega) _, (alloc_blk w2 zeros8 66).over (by rw [hs8]; rfl), below_cells (by omega) _ 0 w _ (CB.alloc (by omega) _)⟩
      rw [hw3]
      clear HR0 HI8 HO8 HT8 C0 C1 C2 CK CB hw3 CZ
      generalize w2.heap.size = g10 at *
      have hgg : w.heap.size + 3 ≤ g9 ∧ g9 < g10 := by omega
      rw [← HSL.out] at DR
      have HK64 : Kept (ksK.length = 64) := ⟨ksK_length⟩
      generalize hks : ksK = ks at *
      clear hks cz s1 hsz
      go_wp2
      go_loopw [11] (fun i wr => ∃ (k : Nat), k ≤ 64 ∧ i = .int .i64 k ∧ Blk wr w.heap.size 66 sl ∧ Blk wr (w.heap.size + 1) 66 zeros8 ∧ Blk wr (w.heap.size + 1 + 1) 104 ws ∧ Blk wr g9 104 ks ∧ Blk wr g10 66 (rdF s0 ks ws k).list ∧ Below w.heap.size w wr) (fun i _ => 64 - (intOf i).toNat)
      case atStart => exact ⟨0, by omega, rfl, D0, D1, D2, DK, DR, DB⟩
      case round =>
        clear D0 D1 D2 DK DR DB
        obtain ⟨k, hk, rfl, D0, D1, D2, DK, DR, DB⟩ := hrel
        have HD0 := Kept.mk D0
        have HD1 := Kept.mk D1
        have HD2 := Kept.mk D2
        have HDK := Kept.mk DK
        have HDR := Kept.mk DR
        clear D0 D1 D2 DK DR
        by_cases hlt : k < 64
        · clear HR HSL
          have hokR := rdF_ok hok ks ws k
          have ck := HDK.out.cell k (by have := HK64.out; omega)
          have cw := HD2.out.cell k (by omega)
          have HST : Kept (rdF s0 ks ws (k + 1) = stepF (rdF s0 ks ws k) (ks.getD k 0) (ws.getD k 0)) := ⟨rfl⟩
          generalize ks.getD k 0 = KK at *
          generalize ws.getD k 0 = VV at *
          generalize rdF s0 ks ws k = R at *
          obtain ⟨a, b, c, d, e, f, g, h⟩ := R
          have q0 : wr.cell? ⟨g10, 0, none⟩ = some (.int .u32 a) := HDR.out.cell 0 (show 0 < 8 by omega)
          have q1 : wr.cell? ⟨g10, 1, none⟩ = some (.int .u32 b) := HDR.out.cell 1 (show 1 < 8 by omega)
          have q2 : wr.cell? ⟨g10, 2, none⟩ = some (.int .u32 c) := HDR.out.cell 2 (show 2 < 8 by omega)
          have q3 : wr.cell? ⟨g10, 3, none⟩ = some (.int .u32 d) := HDR.out.cell 3 (show 3 < 8 by omega)
          have q4 : wr.cell? ⟨g10, 4, none⟩ = some (.int .u32 e) := HDR.out.cell 4 (show 4 < 8 by omega)
          have q5 : wr.cell? ⟨g10, 5, none⟩ = some (.int .u32 f) := HDR.out.cell 5 (show 5 < 8 by omega)
          have q6 : wr.cell? ⟨g10, 6, none⟩ = some (.int .u32 g) := HDR.out.cell 6 (show 6 < 8 by omega)
          have q7 : wr.cell? ⟨g10, 7, none⟩ = some (.int .u32 h) := HDR.out.cell 7 (show 7 < 8 by omega)
          obtain ⟨ya, -, -, -, ye, -, -, -⟩ := hokR
          have T6 : Kept (∀ w, Calls Tryd.prog 92 #[.int .u32 e, .int .i64 6] w fun x w' => x = .returned (.int .u32 (rotr e 6)) ∧ ∃ n, w' = w.drewN n) := ⟨fun w => right_any e 6 w ye.1 ye.2 (by omega) (by omega)⟩
          have T11 : Kept (∀ w, Calls Tryd.prog 92 #[.int .u32 e, .int .i64 11] w fun x w' => x = .returned (.int .u32 (rotr e 11)) ∧ ∃ n, w' = w.drewN n) := ⟨fun w => right_any e 11 w ye.1 ye.2 (by omega) (by omega)⟩
          have T25 : Kept (∀ w, Calls Tryd.prog 92 #[.int .u32 e, .int .i64 25] w fun x w' => x = .returned (.int .u32 (rotr e 25)) ∧ ∃ n, w' = w.drewN n) := ⟨fun w => right_any e 25 w ye.1 ye.2 (by omega) (by omega)⟩
          have T2 : Kept (∀ w, Calls Tryd.prog 92 #[.int .u32 a, .int .i64 2] w fun x w' => x = .returned (.int .u32 (rotr a 2)) ∧ ∃ n, w' = w.drewN n) := ⟨fun w => right_any a 2 w ya.1 ya.2 (by omega) (by omega)⟩
          have T13 : Kept (∀ w, Calls Tryd.prog 92 #[.int .u32 a, .int .i64 13] w fun x w' => x = .returned (.int .u32 (rotr a 13)) ∧ ∃ n, w' = w.drewN n) := ⟨fun w => right_any a 13 w ya.1 ya.2 (by omega) (by omega)⟩
          have T22 : Kept (∀ w, Calls Tryd.prog 92 #[.int .u32 a, .int .i64 22] w fun x w' => x = .returned (.int .u32 (rotr a 22)) ∧ ∃ n, w' = w.drewN n) := ⟨fun w => right_any a 22 w ya.1 ya.2 (by omega) (by omega)⟩
          clear ya ye
          go_upto_region 15 with fail
          go_quiet (fail)
          go_upto_region 16 with fail
          go_quiet ((first | (go_at_call_of 92 (Value.int IntKind.i64 6); first | exact Calls.quiet_of (T6.out _) | exact quiet_add (T6.out _)) | (go_at_call_of 92 (Value.int IntKind.i64 11); first | exact Calls.quiet_of (T11.out _) | exact quiet_add (T11.out _)) | (go_at_call_of 92 (Value.int IntKind.i64 25); first | exact Calls.quiet_of (T25.out _) | exact quiet_add (T25.out _))))
          go_upto_region 17 with fail
          go_quiet ((first | (go_at_call_of 92 (Value.int IntKind.i64 2); first | exact Calls.quiet_of (T2.out _) | exact quiet_add (T2.out _)) | (go_at_call_of 92 (Value.int IntKind.i64 13); first | exact Calls.quiet_of (T13.out _) | exact quiet_add (T13.out _)) | (go_at_call_of 92 (Value.int IntKind.i64 22); first | exact Calls.quiet_of (T22.out _) | exact quiet_add (T22.out _))))
          go_upto_region 18 with fail
          rw [show (if IntKind.u32.signed = true then (-1 : Int) else IntKind.u32.max) = IntKind.u32.max from rfl, show bits .xor .u32 (bits .xor .u32 (rotr e 6) (rotr e 11)) (rotr e 25) = bS1 e from rfl, show bits .xor .u32 (bits .and .u32 e f) (bits .and .u32 (bits .xor .u32 IntKind.u32.max e) g) = chF e f g from rfl, show bits .xor .u32 (bits .xor .u32 (rotr a 2) (rotr a 13)) (rotr a 22) = bS0 a from rfl, show bits .xor .u32 (bits .xor .u32 (bits .and .u32 a b) (bits .and .u32 a c)) (bits .and .u32 b c) = majF a b c from rfl]
          have HU : Kept (((h + bS1 e + chF e f g + KK) % 4294967296 + VV) % 4294967296 = stepU ⟨a, b, c, d, e, f, g, h⟩ KK VV) := ⟨by simp only [stepU]; omega⟩
          have HV : Kept ((bS0 a + majF a b c) % 4294967296 = stepV ⟨a, b, c, d, e, f, g, h⟩) := ⟨rfl⟩
          rw [HU.out, HV.out]
          have HSF : Kept ((rdF s0 ks ws (k + 1)).list = [(stepU ⟨a, b, c, d, e, f, g, h⟩ KK VV + stepV ⟨a, b, c, d, e, f, g, h⟩) % 4294967296, a, b, c, (d + stepU ⟨a, b, c, d, e, f, g, h⟩ KK VV) % 4294967296, e, f, g]) := ⟨by rw [HST.out]; rfl⟩
          clear HU HV T6 T11 T25 T2 T13 T22
          generalize stepU ⟨a, b, c, d, e, f, g, h⟩ KK VV = U at *
          generalize stepV ⟨a, b, c, d, e, f, g, h⟩ = V at *
          clear HST ck cw
          simp only [World.drewN_drewN]
          have fr := HDR.out.frozen
          go_wp2
          go_roundw
          case rel =>
            have hne : w.heap.size ≠ g10 ∧ w.heap.size + 1 ≠ g10 ∧ w.heap.size + 1 + 1 ≠ g10 ∧ g9 ≠ g10 := by omega
            exact ⟨k + 1, by omega, by go_num, (HD0.out.drewN _).far8 hne.1 ⟨(U + V) % 4294967296, a, b, c, (d + U) % 4294967296, e, f, g⟩, (HD1.out.drewN _).far8 hne.2.1 ⟨(U + V) % 4294967296, a, b, c, (d + U) % 4294967296, e, f, g⟩, (HD2.out.drewN _).far8 hne.2.2.1 ⟨(U + V) % 4294967296, a, b, c, (d + U) % 4294967296, e, f, g⟩, (HDK.out.drewN _).far8 hne.2.2.2 ⟨(U + V) % 4294967296, a, b, c, (d + U) % 4294967296, e, f, g⟩, by rw [HSF.out]; exact (HDR.out.drewN _).over8' ⟨(U + V) % 4294967296, a, b, c, (d + U) % 4294967296, e, f, g⟩, below_set8 (below_drewN DB _) (by omega) ⟨(U + V) % 4294967296, a, b, c, (d + U) % 4294967296, e, f, g⟩⟩
          case measure => simp [intOf]; omega
        · obtain rfl : k = 64 := by omega
          have b3 := HDR.out
          rw [HR.out] at b3
          have b0 := HD0.out
          have b1 := HD1.out
          have hr8 : r.list.length = 8 := rfl
          have HE : Kept (addK sl r.list 8 = (r.add s0).list) := ⟨by rw [← HSL.out, St.add_comm]; rfl⟩
          generalize r.list = rl at *
          clear HR HDR HD0 HD1 HD2 HDK HSL HK64
          go_wp2
          go_loopw [16] (fun i wr => ∃ (k : Nat), k ≤ 8 ∧ i = .int .i64 k ∧ Blk wr w.heap.size 66 (addK sl rl k) ∧ Blk wr (w.heap.size + 1) 66 zeros8 ∧ Blk wr g10 66 rl ∧ Below w.heap.size w wr) (fun i _ => 8 - (intOf i).toNat)
          case atStart => exact ⟨0, by omega, rfl, b0, b1, b3, DB⟩
          case round =>
            clear b0 b1 b3 DB
            obtain ⟨k, hk, rfl, b0, b1, b3, DB⟩ := hrel
            by_cases hlt : k < 8
            · have cg := b0.cell k (by rw [addK_length]; omega)
              have fg := b0.frozen k
              have ch := b3.cell k (by omega)
              rw [addK_get _ _ _ _ (Nat.le_refl _)] at cg
              have HN : Kept (addK sl rl (k + 1) = (addK sl rl k).set k ((sl.getD k 0 + rl.getD k 0) % 4294967296)) := ⟨rfl⟩
              generalize sl.getD k 0 = x at *
              generalize rl.getD k 0 = y at *
              have HB0 := Kept.mk b0
              have HB1 := Kept.mk b1
              have HB3 := Kept.mk b3
              clear b0 b1 b3 HE
              go_upto_region 22 with fail
              refine wp_region_last _ 8 (by kernel_rfl) (by kernel_rfl) rfl rfl ?_
              simp only [List.take_succ_cons, List.take_zero]
              repeat (go_big_quiet_step (fail))
              refine wpQuiet_nil ?_
              intro m
              go_wp2
              go_roundw
              case rel =>
                refine ⟨k + 1, by omega, by go_num, ?_, (HB1.out.drewN m).other (by omega) _, (HB3.out.drewN m).other (by omega) _, (below_drewN DB m).setCell (Nat.le_refl _) _⟩
                rw [HN.out]
                exact (HB0.out.drewN m).set k _
              case measure => simp [intOf]; omega
            · obtain rfl : k = 8 := by omega
              rw [HE.out] at b0
              have HR1 := Kept.mk b0.range
              have HT1 : Kept (wr.there (w.heap.size + 1) 0 8) := ⟨b1.there 8 rfl⟩
              have HF1 : Kept (Blk (wr.setCells (w.heap.size + 1) 0 (cellsU32 (r.add s0).list)) (w.heap.size + 1) 66 (r.add s0).list ∧ Below w.heap.size w (wr.setCells (w.heap.size + 1) 0 (cellsU32 (r.add s0).list))) := ⟨b1.over rfl, below_cells (by omega) _ 0 w wr DB⟩
              have HI := Kept.mk (info23 (r.add s0).list rfl)
              have HO := Kept.mk (all_oneCell_toArray (cellsU32_one (r.add s0).list))
              clear b0 b1 b3 DB HE
              go_wp2_with (first | (refine wpList_load_mid rfl 66 _ rfl w.heap.size 0 rfl (cellsU32 (r.add s0).list) _ HR1.out Tryd.underlying66 rfl HI.out.1 ?_) | (refine wpList_store_mid rfl 66 _ _ rfl (w.heap.size + 1) 0 (cellsU32 (r.add s0).list).toArray rfl rfl HT1.out HI.out.2 HO.out ?_))
              refine bodyPost_ret (v := .agg (cellsU32 (r.add s0).list).toArray) (results_cell_row (p := 4) (ty := 66) Tryd.results69 _ _ (w.heap.size + 1) 66 _ (0, 0) _ rfl HF1.out.1 Tryd.underlying66 rfl HI.out.2) rfl ⟨rfl, HF1.out.2⟩
end Go.Proofs.YthkaohkondkhgaaDoor.Sh
