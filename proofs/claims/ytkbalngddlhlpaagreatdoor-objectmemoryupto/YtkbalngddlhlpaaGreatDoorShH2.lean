/-
  Walks: Hex.
-/
import Derived.Test.YtkbalngddlhlpaaGreatDoorShA
import Derived.Test.YtkbalngddlhlpaaGreatDoorShQ2
import Derived.ChangeKeysEq
namespace Go.Proofs.YtkbalngddlhlpaaGreatDoor.Sh
open Go.RowKit

def dgt (d : Int) : Int := if d < 10 then 48 + d else 87 + d
def hexF (ids : List Int) : List Int := ids.flatMap fun b => [dgt (b / 16), dgt (b % 16)]

theorem wp_append_rd {P : Program} (w : World) {o : Oper} {a : Act} {K : Act → World → Prop} {Q : Exit → Act → World → Prop} (s x : Operand) (t : TypeId)
    (ho : o.op = .call { callee := .builtin .append, args := #[s, x], argTypes := #[t, t] })
    (base : Nat) (e : TypeId) (i : TypeInfo) (z : Value) (ht : P.underlying t = some (.slice e)) (hi : P.info? e = some i) (hz : i.zero = some z)
    (hsize : i.size = 1) (hby : i.bytes = 1) (hzs : z.cells.size = 1)
    (v : Value) (xs : List Int) (hsv : a.eval s = v) (hown : Own e w base v xs)
    (xv : Value) (ys : List Int) (hx : a.eval x = xv) (hs : Rd w xv ys)
    (hbytes : xs.length + ys.length ≤ 140737488355328) (hbase : base ≤ w.heap.size)
    (h : ∀ v' w', Own e w' base v' (xs ++ ys) → w.grownBy w' v.ownBlock → K (a.put o.dst v') w') : Oper.wp P o a w K Q := by
  obtain ⟨v', w', hr, h2, h3, h4⟩ := run_append_rd (P := P) w base t o.type e i z ht hi hz hsize hby hzs v xs hown xv ys hs hbytes hbase
  unfold Oper.wp execOp
  simp only [ho, resolve, invoke, builtin, Sem.run_bind, Sem.run_pure, Result.andThen_ok, List.map_toArray, List.map_cons, List.map_nil, hsv, hx, hr]
  exact h v' w' h2 h3
theorem dgt_range (d : Int) (h0 : 0 ≤ d) (h1 : d < 16) : 0 ≤ dgt d ∧ dgt d < 256 := by
  unfold dgt
  split <;> omega
theorem AllB.two {x y : Int} (hx : 0 ≤ x ∧ x < 256) (hy : 0 ≤ y ∧ y < 256) : AllB [x, y] := by
  intro z hz
  simp at hz
  rcases hz with rfl | rfl
  · exact hx
  · exact hy
theorem hexF_length (ids : List Int) : (hexF ids).length = 2 * ids.length := by
  induction ids with
  | nil => rfl
  | cons x ids ih =>
    simp only [hexF, List.flatMap_cons, List.length_append, List.length_cons, List.length_nil] at ih ⊢
    omega
theorem hexF_allB {ids : List Int} (h : AllB ids) : AllB (hexF ids) := by
  intro y hy
  obtain ⟨x, hx, hy⟩ := List.mem_flatMap.1 hy
  have := h x hx
  exact AllB.two (dgt_range (x / 16) (by omega) (by omega)) (dgt_range (x % 16) (by omega) (by omega)) y hy
def hexDigits : ByteArray := { data := #[48, 49, 50, 51, 52, 53, 54, 55, 56, 57, 97, 98, 99, 100, 101, 102] }
set_option maxRecDepth 100000 in
theorem run_index_ids (w : World) (ids : List Int) (hl : ids.length = 32) (k : Nat) (hk : k < 32) : (Instr.index 31 (.agg (cellsU8 ids).toArray) (.int .i64 k)).run Tryz.prog w = .ok (.int .u8 (ids.getD k 0)) w := by
  have hx : (cellsU8 ids).toArray[k * 1]? = some (.int .u8 (ids.getD k 0)) := by
    simp [cellsU8, List.getD, List.getElem?_eq_getElem (show k < ids.length by omega)]
  have hp := run_part_plain (P := Tryz.prog) (w := w) (e := 5) (by kernel_rfl) hx
  have hz : (sizeOf 5).run Tryz.prog w = .ok 1 w := rfl
  unfold Instr.index
  simp only [asIntOf, Sem.run_bind, Sem.run_pure, Result.andThen_ok, run_underlying Tryz.underlying31]
  rw [if_pos (by omega)]
  simp only [Sem.run_bind, hz, Result.andThen_ok, Int.toNat_natCast, hp]
theorem run_index_dig (w : World) (d : Int) (h0 : 0 ≤ d) (h1 : d < 16) : (Instr.index 9 (.string hexDigits) (.int .u8 d)).run Tryz.prog w = .ok (.int .u8 (dgt d)) w := by
  have : d = 0 ∨ d = 1 ∨ d = 2 ∨ d = 3 ∨ d = 4 ∨ d = 5 ∨ d = 6 ∨ d = 7 ∨ d = 8 ∨ d = 9 ∨ d = 10 ∨ d = 11 ∨ d = 12 ∨ d = 13 ∨ d = 14 ∨ d = 15 := by omega
  rw [run_index_string (P := Tryz.prog) (t := 9) (s := hexDigits) (k := .u8) (i := d) (h := Tryz.underlying9)]
  rcases this with rfl | rfl | rfl | rfl | rfl | rfl | rfl | rfl | rfl | rfl | rfl | rfl | rfl | rfl | rfl | rfl <;> rfl
theorem and15 (x : Int) (h0 : 0 ≤ x) (h1 : x < 256) : bits .and .u8 x 15 = x % 16 := by
  rw [u8_and x 15 h0 h1 (by omega) (by omega), show (15 : Int).toNat = 15 from rfl, nat_mask4]
  omega

set_option maxHeartbeats 2000000 in
set_option maxRecDepth 100000 in
theorem hex_any (ids : List Int) (w : World) (hl : ids.length = 32) (hA : AllB ids) :
    Calls Tryz.prog 34 #[.agg (cellsU8 ids).toArray] w fun e w' => e = .returned (.string (strOfNums (hexF ids))) ∧ Below w.heap.size w w' := by
  obtain ⟨i0, z0, hi, hz, hs, hb, hc, -⟩ := info5
  have HR1 : Kept ((w.alloc (.cells (cellsU8 ids).toArray 31)).rangeAt w.heap.size 0 (cellsU8 ids)) := ⟨(alloc_blk8 w ids 31).range⟩
  have HI1 : Kept ((Tryz.prog.info? 31).map (·.size) = some (cellsU8 ids).length) := ⟨by rw [cellsU8_length, hl]; rfl⟩
  go_enter Tryz.func34, Tryz.ntmps34
  go_upto_region 2 with (at_make; refine wpList_make_own _ rfl _ _ 27 rfl w.heap.size 5 i0 z0 1 Tryz.underlying27 hi hz hs .i64 .i64 64 64 rfl rfl rfl (by rw [hb]; decide) (by decide) (by simp) ?_; intro w1 hown hgrow)
  have hb1 : Below (w.alloc (.cells (cellsU8 ids).toArray 31)).heap.size (w.alloc (.cells (cellsU8 ids).toArray 31)) w1 := (Below.refl _ _).grown hgrow (Nat.le_refl _) (by intro k hk; cases hk)
  have HR1 : Kept (w1.rangeAt w.heap.size 0 (cellsU8 ids)) := ⟨((alloc_blk8 w ids 31).far hb1 (by simp)).range⟩
  have BB1 : Below w.heap.size w w1 := ((Below.refl _ w).alloc (Nat.le_refl _) _).trans (hb1.mono (by simp))
  have hz1 := hb1.size
  have hO : Own 5 w1 w.heap.size (.slice (some ⟨w.heap.size + 1, 0, none⟩) 0 64) (hexF (ids.take 0)) := by
    rw [show (w.alloc (.cells (cellsU8 ids).toArray 31)).heap.size = w.heap.size + 1 from by simp] at hown
    exact hown
  have HO := Kept.mk hO
  clear hown hgrow hb1 hO
  go_wp2_with (refine wpList_load_mid rfl 31 _ rfl w.heap.size 0 rfl (cellsU8 ids) _ HR1.out Tryz.underlying31 rfl HI1.out ?_)
  go_loopw [3, 8] (fun s3 i wr => ∃ (k : Nat), k ≤ 32 ∧ i = .int .i64 k ∧ Own 5 wr w.heap.size s3 (hexF (ids.take k)) ∧ Below w.heap.size w wr) (fun _ i _ => 32 - (intOf i).toNat)
  case atStart => exact ⟨0, by omega, rfl, HO.out, BB1⟩
  case round =>
    clear HO BB1 HR1 HI1
    obtain ⟨k, hk, rfl, ho, hbel⟩ := hrel
    have HO := Kept.mk ho
    clear ho
    by_cases hlt : k < 32
    · have hix := run_index_ids wr ids hl k hlt
      have hy := hA.getD k
      have HN : Kept (hexF (ids.take (k + 1)) = hexF (ids.take k) ++ [dgt (ids.getD k 0 / 16), dgt (ids.getD k 0 % 16)]) := ⟨by
        rw [List.take_succ_eq_append_getElem (by omega), hexF, List.flatMap_append]
        simp [hexF, List.getD, List.getElem?_eq_getElem (show k < ids.length by omega)]⟩
      generalize ids.getD k 0 = x at *
      have hm1 : ∀ W, (Instr.index 9 (.string { data := #[48, 49, 50, 51, 52, 53, 54, 55, 56, 57, 97, 98, 99, 100, 101, 102] }) (.int .u8 (x / 16))).run Tryz.prog W = .ok (.int .u8 (dgt (x / 16))) W := fun W => run_index_dig W (x / 16) (by omega) (by omega)
      have hm2 : ∀ W, (Instr.index 9 (.string { data := #[48, 49, 50, 51, 52, 53, 54, 55, 56, 57, 97, 98, 99, 100, 101, 102] }) (.int .u8 (x % 16))).run Tryz.prog W = .ok (.int .u8 (dgt (x % 16))) W := fun W => run_index_dig W (x % 16) (by omega) (by omega)
      have ha := and15 x hy.1 hy.2
      go_upto_region 5 with fail
      refine wp_region_tail 1 7 2 (by kernel_rfl) (by kernel_rfl) ?_
      simp only [List.take_succ_cons, List.take_zero, List.drop_succ_cons, List.drop_zero, List.foldl_cons, List.foldl_nil, moved]
      simp only [Act.put, Act.eval, List.setIfInBounds_toArray, List.set_cons_zero, List.set_cons_succ, Array.getD_eq_getD_getElem?, List.getElem?_toArray, List.getElem?_cons_zero, List.getElem?_cons_succ, Option.getD_some]
      repeat (go_big_quiet_step (fail))
      refine wpQuiet_nil ?_
      intro m
      refine wpTail_step (fun K hK => ?_)
      go_simp
      refine hK _ _ ?_
      clear hK K
      have hd1 := dgt_range (x / 16) (by omega) (by omega)
      have hd2 := dgt_range (x % 16) (by omega) (by omega)
      have hr2 : Rd ((wr.drewN m).alloc (.cells (cellsU8 [dgt (x / 16), dgt (x % 16)]).toArray 5)) (.slice (some ⟨(wr.drewN m).heap.size, 0, none⟩) 2 2) [dgt (x / 16), dgt (x % 16)] := Rd.block (wr.drewN m) [dgt (x / 16), dgt (x % 16)] 5 (AllB.two hd1 hd2) (by simp)
      refine wpTail_step (fun K hK => ?_)
      refine wp_append_rd _ _ _ 27 rfl w.heap.size 5 i0 z0 Tryz.underlying27 hi hz hs hb hc u3 (hexF (ids.take k)) rfl ?_ _ [dgt (x / 16), dgt (x % 16)] rfl hr2 ?_ ?_ ?_
      · exact (HO.out.later (below_drewN (Below.refl wr.heap.size wr) m) (Nat.le_refl _)).alloc _
      · rw [hexF_length, List.length_take]
        simp
        omega
      · have := hbel.size
        simp
        omega
      intro v' w' hown hgrow
      refine hK _ _ ?_
      clear hK K
      have HO' := Kept.mk hown
      have hb' : Below w.heap.size w w' := ((below_drewN hbel m).alloc (by simpa using hbel.size) _).grown hgrow (by have := hbel.size; simp; omega) (own_ge HO.out)
      clear hown hgrow hr2
      refine wpTail_step (fun K hK => ?_)
      go_simp
      refine hK _ _ (wpTail_nil (NoPanic.normal ?_))
      clear hK K
      go_wp2
      go_roundw
      case rel => exact ⟨k + 1, by omega, by go_num, by rw [HN.out]; exact HO'.out, hb'⟩
      case measure => simp [intOf]; omega
    · obtain rfl : k = 32 := by omega
      have ho := HO.out
      rw [List.take_of_length_le (by omega)] at ho
      have h1 := (Rd.own ho (hexF_allB hA)).str Tryz.underlying27 Tryz.underlying5 9 Tryz.underlying9
      clear ho HO
      go_wp2
      go_ret
      exact ⟨rfl, hbel⟩


set_option maxHeartbeats 2000000 in
set_option maxRecDepth 100000 in
theorem rhex_any (ids : List Int) (w : World) (hl : ids.length = 32) (hA : AllB ids) :
    Calls Tryz.prog 87 #[.agg (cellsU8 ids).toArray] w fun e w' => e = .returned (.string (strOfNums (hexF ids))) ∧ Below w.heap.size w w' := by
  obtain ⟨i0, z0, hi, hz, hs, hb, hc, -⟩ := info5
  have HR1 : Kept ((w.alloc (.cells (cellsU8 ids).toArray 31)).rangeAt w.heap.size 0 (cellsU8 ids)) := ⟨(alloc_blk8 w ids 31).range⟩
  have HI1 : Kept ((Tryz.prog.info? 31).map (·.size) = some (cellsU8 ids).length) := ⟨by rw [cellsU8_length, hl]; rfl⟩
  go_enter Tryz.func87, Tryz.ntmps87
  go_upto_region 2 with fail
  have BB1 : Below w.heap.size w (w.alloc (.cells (cellsU8 ids).toArray 31)) := (Below.refl _ w).alloc (Nat.le_refl _) _
  have HO := Kept.mk (Own.nil 5 (w.alloc (.cells (cellsU8 ids).toArray 31)) w.heap.size)
  go_wp2_with (refine wpList_load_mid rfl 31 _ rfl w.heap.size 0 rfl (cellsU8 ids) _ HR1.out Tryz.underlying31 rfl HI1.out ?_)
  go_loopw [3, 7] (fun s3 i wr => ∃ (k : Nat), k ≤ 32 ∧ i = .int .i64 k ∧ Own 5 wr w.heap.size s3 (hexF (ids.take k)) ∧ Below w.heap.size w wr) (fun _ i _ => 32 - (intOf i).toNat)
  case atStart => exact ⟨0, by omega, rfl, HO.out, BB1⟩
  case round =>
    clear HO BB1 HR1 HI1
    obtain ⟨k, hk, rfl, ho, hbel⟩ := hrel
    have HO := Kept.mk ho
    clear ho
    by_cases hlt : k < 32
    · have hix := run_index_ids wr ids hl k hlt
      have hy := hA.getD k
      have HN : Kept (hexF (ids.take (k + 1)) = hexF (ids.take k) ++ [dgt (ids.getD k 0 / 16), dgt (ids.getD k 0 % 16)]) := ⟨by
        rw [List.take_succ_eq_append_getElem (by omega), hexF, List.flatMap_append]
        simp [hexF, List.getD, List.getElem?_eq_getElem (show k < ids.length by omega)]⟩
      generalize ids.getD k 0 = x at *
      have hm1 : ∀ W, (Instr.index 9 (.string { data := #[48, 49, 50, 51, 52, 53, 54, 55, 56, 57, 97, 98, 99, 100, 101, 102] }) (.int .u8 (x / 16))).run Tryz.prog W = .ok (.int .u8 (dgt (x / 16))) W := fun W => run_index_dig W (x / 16) (by omega) (by omega)
      have hm2 : ∀ W, (Instr.index 9 (.string { data := #[48, 49, 50, 51, 52, 53, 54, 55, 56, 57, 97, 98, 99, 100, 101, 102] }) (.int .u8 (x % 16))).run Tryz.prog W = .ok (.int .u8 (dgt (x % 16))) W := fun W => run_index_dig W (x % 16) (by omega) (by omega)
      have ha := and15 x hy.1 hy.2
      go_upto_region 5 with fail
      refine wp_region_tail 1 7 2 (by kernel_rfl) (by kernel_rfl) ?_
      simp only [List.take_succ_cons, List.take_zero, List.drop_succ_cons, List.drop_zero, List.foldl_cons, List.foldl_nil, moved]
      simp only [Act.put, Act.eval, List.setIfInBounds_toArray, List.set_cons_zero, List.set_cons_succ, Array.getD_eq_getD_getElem?, List.getElem?_toArray, List.getElem?_cons_zero, List.getElem?_cons_succ, Option.getD_some]
      repeat (go_big_quiet_step (fail))
      refine wpQuiet_nil ?_
      intro m
      refine wpTail_step (fun K hK => ?_)
      go_simp
      refine hK _ _ ?_
      clear hK K
      have hd1 := dgt_range (x / 16) (by omega) (by omega)
      have hd2 := dgt_range (x % 16) (by omega) (by omega)
      have hr2 : Rd ((wr.drewN m).alloc (.cells (cellsU8 [dgt (x / 16), dgt (x % 16)]).toArray 5)) (.slice (some ⟨(wr.drewN m).heap.size, 0, none⟩) 2 2) [dgt (x / 16), dgt (x % 16)] := Rd.block (wr.drewN m) [dgt (x / 16), dgt (x % 16)] 5 (AllB.two hd1 hd2) (by simp)
      refine wpTail_step (fun K hK => ?_)
      refine wp_append_rd _ _ _ 27 rfl w.heap.size 5 i0 z0 Tryz.underlying27 hi hz hs hb hc u3 (hexF (ids.take k)) rfl ?_ _ [dgt (x / 16), dgt (x % 16)] rfl hr2 ?_ ?_ ?_
      · exact (HO.out.later (below_drewN (Below.refl wr.heap.size wr) m) (Nat.le_refl _)).alloc _
      · rw [hexF_length, List.length_take]
        simp
        omega
      · have := hbel.size
        simp
        omega
      intro v' w' hown hgrow
      refine hK _ _ ?_
      clear hK K
      have HO' := Kept.mk hown
      have hb' : Below w.heap.size w w' := ((below_drewN hbel m).alloc (by simpa using hbel.size) _).grown hgrow (by have := hbel.size; simp; omega) (own_ge HO.out)
      clear hown hgrow hr2
      refine wpTail_step (fun K hK => ?_)
      go_simp
      refine hK _ _ (wpTail_nil (NoPanic.normal ?_))
      clear hK K
      go_wp2
      go_roundw
      case rel => exact ⟨k + 1, by omega, by go_num, by rw [HN.out]; exact HO'.out, hb'⟩
      case measure => simp [intOf]; omega
    · obtain rfl : k = 32 := by omega
      have ho := HO.out
      rw [List.take_of_length_le (by omega)] at ho
      have h1 := (Rd.own ho (hexF_allB hA)).str Tryz.underlying27 Tryz.underlying5 9 Tryz.underlying9
      clear ho HO
      go_wp2
      go_ret
      exact ⟨rfl, hbel⟩
end Go.Proofs.YtkbalngddlhlpaaGreatDoor.Sh
