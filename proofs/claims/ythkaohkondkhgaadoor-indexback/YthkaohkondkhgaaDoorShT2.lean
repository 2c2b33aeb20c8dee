/-
  Walks: firstWords, throughBlocks.
-/
import Derived.Test.YthkaohkondkhgaaDoorShT
import Derived.Test.YthkaohkondkhgaaDoorShB2
import Derived.Laws.CopyRow
import Derived.Laws.CopyOwn
namespace Go.Proofs.YthkaohkondkhgaaDoor.Sh
open Go.RowKit

def St.first : St := ⟨1779033703, 3144134277, 1013904242, 2773480762, 1359893119, 2600822924, 528734635, 1541459225⟩
theorem St.first_ok : St.first.ok := by unfold St.ok St.first; decide

set_option maxHeartbeats 400000 in
set_option maxRecDepth 100000 in
theorem first_any (w : World) : Calls Tryd.prog 44 #[] w fun e w' => e = .returned St.first.agg ∧ Below w.heap.size w w' := by
  go_enter Tryd.func44, Tryd.ntmps44
  go_wp2
  refine bodyPost_ret (v := St.first.agg) (results_cell_row (p := 0) (ty := 66) Tryd.results44 _ _ w.heap.size 66 _ (0, 0) _ rfl (heap_alloc_new w _) Tryd.underlying66 rfl rfl) rfl ⟨rfl, (Below.refl _ _).alloc (Nat.le_refl _) _⟩

/-- A block of bytes into eight words. -/
def blockF (ks : List Int) (s : St) (bs : List Int) : St := (rdF s ks (schF bs 64) 64).add s
/-- The first k blocks of bytes into eight words. -/
def thruF (ks xs : List Int) (s : St) : Nat → St
  | 0 => s
  | k + 1 => blockF ks (thruF ks xs s k) ((xs.drop (64 * k)).take 64)
theorem St.add_ok (r s : St) : (r.add s).ok := by
  unfold St.add St.ok addW
  simp only
  omega
theorem thruF_ok {ks xs : List Int} {s : St} (h : s.ok) (k : Nat) : (thruF ks xs s k).ok := by
  cases k with
  | zero => exact h
  | succ k => exact St.add_ok _ _

theorem Rd.open2 {w : World} {v : Value} {xs : List Int} (h : Rd w v xs) (h0 : 0 < xs.length) : ∃ b off c, v = .slice (some ⟨b, off, none⟩) xs.length c ∧ xs.length ≤ c ∧ c ≤ maxLen ∧ b < w.heap.size ∧ ∀ i, i < xs.length → w.cell? ⟨b, off + i, none⟩ = some (.int .u8 (xs.getD i 0)) := by
  obtain ⟨a, c, hv, h1, h2, h3, h4, h5⟩ := h
  obtain ⟨b, off, rfl, hlt, hc⟩ := h5 h0
  exact ⟨b, off, c, hv, h1, h2, hlt, hc⟩
theorem getD_part (xs : List Int) (o j : Nat) (hj : j < 64) : ((xs.drop o).take 64).getD j 0 = xs.getD (o + j) 0 := by
  simp [List.getD, hj]

theorem heap_setCells_far (b k : Nat) (h : k ≠ b) : ∀ (vs : List Value) (o : Nat) (w : World), (w.setCells b o vs).heap[k]? = w.heap[k]?
  | [], _, _ => rfl
  | v :: vs, o, w => by
    rw [World.setCells, heap_setCells_far b k h vs (o + 1) _]
    exact Below.heap_setCell _ _ _ _ h
theorem size_setCells (b : Nat) : ∀ (vs : List Value) (o : Nat) (w : World), (w.setCells b o vs).heap.size = w.heap.size
  | [], _, _ => rfl
  | v :: vs, o, w => by
    rw [World.setCells, size_setCells b vs (o + 1) _]
    simp [World.setCell]
theorem Blk.cells_far {w : World} {b b' o : Nat} {t : TypeId} {xs : List Int} (h : Blk w b t xs) (hne : b ≠ b') (vs : List Value) : Blk (w.setCells b' o vs) b t xs := by
  unfold Blk at h ⊢
  rw [heap_setCells_far _ _ hne]
  exact h
theorem Blk8.cells_far {w : World} {b b' o : Nat} {t : TypeId} {xs : List Int} (h : Blk8 w b t xs) (hne : b ≠ b') (vs : List Value) : Blk8 (w.setCells b' o vs) b t xs := by
  unfold Blk8 at h ⊢
  rw [heap_setCells_far _ _ hne]
  exact h
theorem Blk8.far {w w' : World} {b B : Nat} {t : TypeId} {xs : List Int} (h : Blk8 w b t xs) (hb : Below B w w') (hlt : b < B) : Blk8 w' b t xs := by
  unfold Blk8 at h ⊢
  rw [hb.block b hlt]
  exact h
theorem St.list_length (s : St) : s.list.length = 8 := rfl
set_option maxRecDepth 100000 in
/-- What a row of eight words is loaded and stored by. -/
theorem info23 (xs : List Int) (h : xs.length = 8) : (Tryd.prog.info? 66).map (·.size) = some (cellsU32 xs).length ∧ (Tryd.prog.info? 66).map (·.size) = some (cellsU32 xs).toArray.size := by
  have e : (Tryd.prog.info? 66).map (·.size) = some 8 := rfl
  rw [List.size_toArray, cellsU32_length, h]
  exact ⟨e, e⟩
set_option maxRecDepth 100000 in
theorem info24 (xs : List Int) (h : xs.length = 64) : (Tryd.prog.info? 86).map (·.size) = some (cellsU8 xs).length := by
  have e : (Tryd.prog.info? 86).map (·.size) = some 64 := rfl
  rw [cellsU8_length, h]
  exact e

theorem wp_copy {P : Program} (w : World) {o : Oper} {a : Act} {K : Act → World → Prop} {Q : Exit → Act → World → Prop} (d s : Operand) (t t' : TypeId)
    (ho : o.op = .call { callee := .builtin .copy, args := #[d, s], argTypes := #[t, t'] }) (v u : Value) (hd : a.eval d = v) (hs : a.eval s = u) {v' : Value} {w' : World}
    (hr : (Builtin.copy_ #[t, t'] o.type #[v, u]).run P w = .ok v' w') (h : K (a.put o.dst v') w') : o.wp P a w K Q := by
  unfold Oper.wp execOp
  simp only [ho, resolve, invoke, builtin, Sem.run_bind, Sem.run_pure, Result.andThen_ok, List.map_toArray, List.map_cons, List.map_nil, hd, hs, hr]
  exact h

set_option maxHeartbeats 2000000 in
set_option maxRecDepth 100000 in
theorem through_any (s0 : St) (v : Value) (xs ks : List Int) (nb : Nat) (w : World) (hp : Rd w v xs) (hnb : 64 * nb ≤ xs.length) (hks : ks.length = 64) (hB : Tab w ks) (hok : s0.ok) :
    Calls Tryd.prog 43 #[s0.agg, v, .int .i64 nb] w fun e w' => e = .returned (thruF ks xs s0 nb).agg ∧ Below w.heap.size w w' := by
  have hn : 1 < w.heap.size := hB.1
  have HP : Kept (Rd w v xs) := ⟨hp⟩
  clear hp
  simp only [St.agg]
  go_enter Tryd.func43, Tryd.ntmps43
  go_wp2
  go_loopw [10] (fun i wr => ∃ (k : Nat) (bs : List Int), k ≤ nb ∧ i = .int .i64 k ∧ bs.length = 64 ∧ Blk wr w.heap.size 66 (thruF ks xs s0 k).list ∧ Blk wr (w.heap.size + 1) 66 zeros8 ∧ Blk8 wr (w.heap.size + 1 + 1) 86 bs ∧ w.heap.size + 3 ≤ wr.heap.size ∧ Below w.heap.size w wr) (fun i _ => nb - (intOf i).toNat)
  case atStart =>
    obtain ⟨g1, g2, g3⟩ := heap3 w (.cells (cellsU32 s0.list).toArray 66) (.cells (cellsU32 zeros8).toArray 66) (.cells (cellsU8 (List.replicate 64 0)).toArray 86)
    exact ⟨0, List.replicate 64 0, by omega, rfl, by decide, blk_of g1 rfl, blk_of g2 rfl, blk8_of g3 rfl, by simp, (((Below.refl _ _).alloc (Nat.le_refl _) _).alloc (by simp) _).alloc (by simp; omega) _⟩
  case round =>
    obtain ⟨k, bs, hk, rfl, hbl, b0, b1, b2, hsz, hbel⟩ := hrel
    by_cases hlt : k < nb
    · obtain ⟨b, off, c, rfl, hlc, hcm, hblt, hcell⟩ := HP.out.open2 (by omega)
      have hA : AllB ((xs.drop (64 * k)).take 64) := (HP.out.allB.drop _).take _
      have hl64 : ((xs.drop (64 * k)).take 64).length = 64 := by simp; omega
      have hsrc : ∀ (m j : Nat) (u : Value), (cellsU8 ((xs.drop (64 * k)).take 64))[j]? = some u → (wr.drewN m).cell? ((⟨b, off + k * 64, none⟩ : Addr).add j) = some u := fun m j u hj => by
        obtain ⟨hj', rfl⟩ := cellsU8_get hj
        rw [add_plain]
        have e := hbel.cell (p := ⟨b, off + (k * 64 + j), none⟩) hblt
        rw [hcell (k * 64 + j) (by omega)] at e
        rw [Nat.add_assoc, getD_part _ _ _ (by omega), Nat.mul_comm 64 k]
        exact e
      have e1 : (0 : Int) ≤ (k : Int) * 64 := by omega
      have e2 : (k : Int) * 64 ≤ (xs.length : Int) := by omega
      have e3 : (xs.length : Int) ≤ (c : Int) := by omega
      have HT : Kept (thruF ks xs s0 (k + 1) = blockF ks (thruF ks xs s0 k) ((xs.drop (64 * k)).take 64)) := ⟨rfl⟩
      have hokk := thruF_ok (ks := ks) (xs := xs) hok k
      have HSRC : Kept (∀ (m j : Nat) (u : Value), (cellsU8 ((xs.drop (64 * k)).take 64))[j]? = some u → (wr.drewN m).cell? ((⟨b, off + k * 64, none⟩ : Addr).add j) = some u) := ⟨hsrc⟩
      clear hsrc hcell
      unfold maxLen at hcm
      go_upto_region 5 with fail
      refine wp_region_last _ 5 (by kernel_rfl) (by kernel_rfl) rfl rfl ?_
      simp only [List.take_succ_cons, List.take_zero]
      repeat (go_big_quiet_step (fail))
      refine wpQuiet_nil ?_
      intro m
      refine wp_copy _ _ _ _ _ rfl _ _ rfl rfl (run_copy_row Tryd.prog (wr.drewN m) 25 25 3 5 (w.heap.size + 1 + 1) 0 64 64 ⟨b, off + k * 64, none⟩ (xs.length - k * 64) (c - k * 64) (cellsU8 bs).toArray 86 (cellsU8 ((xs.drop (64 * k)).take 64)) Tryd.underlying25 rfl b2 (by rw [cellsU8_length, hl64]; simp only [Nat.min_def]; split <;> omega) (HSRC.out m) (by simp only [List.size_toArray, cellsU8_length, hl64, hbl]; try omega) (cellsU8_one _)) ?_
      have hrow : (List.take 0 (cellsU8 bs).toArray.toList ++ cellsU8 ((xs.drop (64 * k)).take 64) ++ List.drop (0 + (cellsU8 ((xs.drop (64 * k)).take 64)).length) (cellsU8 bs).toArray.toList).toArray = (cellsU8 ((xs.drop (64 * k)).take 64)).toArray := by
        rw [cellsU8_length, hl64]
        simp [cellsU8, hbl]
      rw [hrow]
      have B0 : Blk ((wr.drewN m).setRow (w.heap.size + 1 + 1) (cellsU8 ((xs.drop (64 * k)).take 64)).toArray) w.heap.size 66 (thruF ks xs s0 k).list := (setRow_other _ _ _ _ (by omega)).trans b0
      have B1 : Blk ((wr.drewN m).setRow (w.heap.size + 1 + 1) (cellsU8 ((xs.drop (64 * k)).take 64)).toArray) (w.heap.size + 1) 66 zeros8 := (setRow_other _ _ _ _ (by omega)).trans b1
      have B2 : Blk8 ((wr.drewN m).setRow (w.heap.size + 1 + 1) (cellsU8 ((xs.drop (64 * k)).take 64)).toArray) (w.heap.size + 1 + 1) 86 ((xs.drop (64 * k)).take 64) := setRow_heap _ _ _ _ _ _ b2
      have BK : Tab ((wr.drewN m).setRow (w.heap.size + 1 + 1) (cellsU8 ((xs.drop (64 * k)).take 64)).toArray) ks := hB.far (below_setRow (below_drewN hbel m) (by omega) _) hn
      have hsz2 : w.heap.size + 3 ≤ ((wr.drewN m).setRow (w.heap.size + 1 + 1) (cellsU8 ((xs.drop (64 * k)).take 64)).toArray).heap.size := by simpa using hsz
      have hbel2 : Below w.heap.size w ((wr.drewN m).setRow (w.heap.size + 1 + 1) (cellsU8 ((xs.drop (64 * k)).take 64)).toArray) := below_setRow (below_drewN hbel m) (by omega) _
      generalize (wr.drewN m).setRow (w.heap.size + 1 + 1) (cellsU8 ((xs.drop (64 * k)).take 64)).toArray = W at *
      have HC : Kept (Calls Tryd.prog 65 #[.agg (cellsU32 (thruF ks xs s0 k).list).toArray, .agg (cellsU8 ((xs.drop (64 * k)).take 64)).toArray] W fun e w' => e = .returned (.agg (cellsU32 (thruF ks xs s0 (k + 1)).list).toArray) ∧ Below W.heap.size W w') := ⟨block_any _ _ _ _ ks W hl64 hA hks BK hokk ⟨rfl⟩ ⟨rfl⟩⟩
      have hl1 : (thruF ks xs s0 k).list.length = 8 := rfl
      have hl2 : (thruF ks xs s0 (k + 1)).list.length = 8 := rfl
      clear HT hokk HSRC hrow b0 b1 b2 hsz hbel hB BK HP
      generalize (thruF ks xs s0 k).list = tl at *
      generalize hnl : (thruF ks xs s0 (k + 1)).list = nl at *
      have HNL : Kept ((thruF ks xs s0 (k + 1)).list = nl) := ⟨hnl⟩
      clear hnl
      generalize (xs.drop (64 * k)).take 64 = bs' at *
      have HR0 : Kept (W.rangeAt w.heap.size 0 (cellsU32 tl)) := ⟨B0.range⟩
      have HR2 : Kept (W.rangeAt (w.heap.size + 1 + 1) 0 (cellsU8 bs')) := ⟨B2.range⟩
      have HI0 := Kept.mk (info23 tl hl1)
      have HI1 := Kept.mk (info23 nl hl2)
      have HI2 := Kept.mk (info24 bs' hl64)
      have HO := Kept.mk (all_oneCell_toArray (cellsU32_one nl))
      have HB0 := Kept.mk B0
      have HB1 := Kept.mk B1
      have HB2 := Kept.mk B2
      clear B0 B1 B2 hA e1 e2 e3
      go_wp2_with (first | (refine wpList_load_mid rfl 66 _ rfl w.heap.size 0 rfl (cellsU32 tl) _ HR0.out Tryd.underlying66 rfl HI0.out.1 ?_) | (refine wpList_load_mid rfl 86 _ rfl (w.heap.size + 1 + 1) 0 rfl (cellsU8 bs') _ HR2.out Tryd.underlying86 rfl HI2.out ?_))
      refine Calls.mono HC.out (fun e wa hp => ?_)
      obtain ⟨rfl, hba⟩ := hp
      have HT2 : Kept (wa.there w.heap.size 0 (cellsU32 nl).toArray.size) := ⟨(HB0.out.far hba (by omega)).there _ (by simp only [List.size_toArray, cellsU32_length, hl1, hl2])⟩
      go_wp2_with (refine wpList_store_mid rfl 66 _ _ rfl w.heap.size 0 (cellsU32 nl).toArray rfl rfl HT2.out HI1.out.2 HO.out ?_)
      go_roundw
      case rel =>
        refine ⟨k + 1, bs', by omega, by go_num, hl64, ?_, (HB1.out.far hba (by omega)).cells_far (by omega) _, (HB2.out.far hba (by omega)).cells_far (by omega) _, ?_, ?_⟩
        · rw [HNL.out]
          exact (HB0.out.far hba (by omega)).over (by rw [hl1, hl2])
        · rw [size_setCells]
          have := hba.size
          omega
        · exact below_cells (Nat.le_refl _) _ 0 w wa (hbel2.trans (hba.mono (by omega)))
      case measure => simp [intOf]; omega
    · obtain rfl : k = nb := by omega
      have HR1 : Kept (wr.rangeAt w.heap.size 0 (cellsU32 (thruF ks xs s0 k).list)) := ⟨b0.range⟩
      have HT1 : Kept (wr.there (w.heap.size + 1) 0 8) := ⟨b1.there 8 rfl⟩
      have HF1 : Kept (Blk (wr.setCells (w.heap.size + 1) 0 (cellsU32 (thruF ks xs s0 k).list)) (w.heap.size + 1) 66 (thruF ks xs s0 k).list ∧ Below w.heap.size w (wr.setCells (w.heap.size + 1) 0 (cellsU32 (thruF ks xs s0 k).list))) := ⟨b1.over rfl, below_cells (b := w.heap.size + 1) (by omega) _ 0 w wr hbel⟩
      have HI := Kept.mk (info23 (thruF ks xs s0 k).list rfl)
      have HO := Kept.mk (all_oneCell_toArray (cellsU32_one (thruF ks xs s0 k).list))
      clear b0 b1 b2 hbel HP hB
      go_wp2_with (first | (refine wpList_load_mid rfl 66 _ rfl w.heap.size 0 rfl (cellsU32 (thruF ks xs s0 k).list) _ HR1.out Tryd.underlying66 rfl HI.out.1 ?_) | (refine wpList_store_mid rfl 66 _ _ rfl (w.heap.size + 1) 0 (cellsU32 (thruF ks xs s0 k).list).toArray rfl rfl HT1.out HI.out.2 HO.out ?_))
      refine bodyPost_ret (v := .agg (cellsU32 (thruF ks xs s0 k).list).toArray) (results_cell_row (p := 6) (ty := 66) Tryd.results43 _ _ (w.heap.size + 1) 66 _ (0, 0) _ rfl HF1.out.1 Tryd.underlying66 rfl HI.out.2) rfl ⟨rfl, HF1.out.2⟩
end Go.Proofs.YthkaohkondkhgaaDoor.Sh
