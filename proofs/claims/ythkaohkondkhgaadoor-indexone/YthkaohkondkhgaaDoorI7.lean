/-
  slotBytes.
-/
import Derived.Test.YthkaohkondkhgaaDoorI6
import Derived.Lib.BufferWrite
import Derived.Laws.CopyRow
namespace Go.Proofs.YthkaohkondkhgaaDoor
open Go.RowKit

theorem info8z : (Tryd.prog.info? 5).map (fun i => (i.zero, i.size, i.bytes)) = some (some (.int .u8 0), 1, 1) := by kernel_rfl
/-- make([]byte, n). -/
theorem wpList_make_u8 (w : World) {ops : Array Oper} {rest : List Oper} {o : Oper} {a : Act} {Q : Exit → Act → World → Prop} (hg : o.guard = none) (l c : Operand) (hop : o.op = Op.makeSlice 25 l c) (L C : Int) (n : Nat) (hl : a.eval l = .int .i64 L) (hc : a.eval c = .int .i64 C) (hL : L = (n : Int)) (hC : C = (n : Int)) (hn : n ≤ 3000000)
    (hK : ∀ w', BlkK .u8 w' w.heap.size 5 (List.replicate n 0) → w.grownBy w' none → wpList Tryd.prog ops Q rest (a.put o.dst (.slice (some ⟨w.heap.size, 0, none⟩) n n)) w') :
    wpList Tryd.prog ops Q (o :: rest) a w := by
  obtain ⟨i, hi, hz, hs, hb⟩ : ∃ i, Tryd.prog.info? 5 = some i ∧ i.zero = some (.int .u8 0) ∧ i.size = 1 ∧ i.bytes = 1 := by
    have h := info8z
    cases hq : Tryd.prog.info? 5 with
    | none => rw [hq] at h; simp at h
    | some i => rw [hq] at h; simp at h; exact ⟨i, rfl, h.1, h.2.1, h.2.2⟩
  refine wpList_make_full w hg l c 25 hop w.heap.size 5 i (.int .u8 0) 1 Tryd.underlying25 hi hz hs .i64 .i64 L C n hl hc hL hC (by rw [hb]; omega) (by unfold maxLen; omega) (Nat.le_refl _) (fun w' ho hgr => hK w' ?_ hgr)
  rcases ho with ⟨h1, h2 | ⟨g, cap, cur, hv, hg2, hh, hnc, hcm, hcs, htake⟩⟩
  · cases h2.1
  · cases hv
    unfold BlkK
    rw [hh]
    have e : cur = (cellsK .u8 (List.replicate n 0)).toArray := by
      apply Array.toList_inj.1
      rw [List.take_of_length_le (by rw [Array.length_toList, hcs]; exact Nat.le_refl _)] at htake
      rw [htake]
      have ec : (Value.int .u8 0).cells = #[.int .u8 0] := rfl
      rw [ec, Nat.mul_one]
      unfold madeCells cellsK
      rw [Array.toList_map, Array.toList_range, List.map_replicate]
      apply List.ext_getElem
      · simp
      · intro j h1 h2
        simp [Nat.mod_one]
    rw [e]
section
variable {P : Program} {ops : Array Oper} {C : World → Prop} {Q : Act → Prop} {a : Act} {o : Oper} {rest : List Oper}
/-- In a quiet walk: a slice cut, by its run. -/
theorem wpQuiet_slice (t : TypeId) (x : Operand) (lo hi : Option Operand) (v : Value) (hg : o.guard = none) (ho : o.op = .slice t x lo hi none) (hr : ∀ W, (Instr.sliceAt t (a.eval x) (lo.map a.eval) (hi.map a.eval) none).run P W = .ok v W) (h : wpQuiet P ops C Q rest (a.put o.dst v)) : wpQuiet P ops C Q (o :: rest) a := by
  refine wpQuiet_step fun K hK => ?_
  rw [if_pos (by simp [Region.wanted, hg])]
  refine ⟨v, fun W _ => ?_, hK _ h⟩
  unfold Oper.quietAt execOp
  simp only [ho, Sem.run_bind, Option.map_none]
  rw [hr W]
  exact ⟨rfl, rfl⟩
end
set_option maxRecDepth 100000 in
/-- Bytes of a block, cut from a place on. -/
theorem cut_from (g L c k : Nat) (h1 : k ≤ L) (h3 : k < c) (off : Nat) (W : World) : (Instr.sliceAt 25 (.slice (some ⟨g, off, none⟩) L c) (some (.int .i64 k)) none none).run Tryd.prog W = .ok (.slice (some ⟨g, off + k, none⟩) (L - k) (c - k)) W := by
  have hs : (sizeOf (Tryd.prog.elem 25)).run Tryd.prog W = .ok 1 W := rfl
  rw [run_sliceAt_slice (P := Tryd.prog) W 25 _ _ _ _ Tryd.underlying25, run_slice_l (P := Tryd.prog) W 25 (some ⟨g, off, none⟩) L c Tryd.underlying25 .i64 k (by omega) (by omega), hs]
  have hne : ¬ c = k := by omega
  simp [sliced, Result.andThen, hne, add_plain]
def slz (n : Nat) : Nat := (74 + n) / 8 * 8 + 8
set_option maxHeartbeats 400000 in
set_option maxRecDepth 100000 in
theorem slotSize_any (n : Nat) (w : World) (hn : n ≤ 1000000000) : Calls Tryd.prog 41 #[.int .i64 n] w fun e w' => e = .returned (.int .i64 (slz n)) ∧ w' = w := by
  have e1 : IntKind.i64.wrap (74 + (n : Int)) = ((74 + n : Nat) : Int) := by rw [wr64 (by omega) (by omega)]; omega
  have e2 : (((74 + n : Nat) : Int)).tdiv 8 = (((74 + n) / 8 : Nat) : Int) := by rw [Int.tdiv_eq_ediv_of_nonneg (by omega)]; omega
  have e3 : IntKind.i64.wrap ((((74 + n) / 8 : Nat) : Int)) = (((74 + n) / 8 : Nat) : Int) := wr64 (by omega) (by omega)
  have e4 : IntKind.i64.wrap ((((74 + n) / 8 : Nat) : Int) * 8) = (((74 + n) / 8 * 8 : Nat) : Int) := by rw [wr64 (by omega) (by omega)]; omega
  have e5 : IntKind.i64.wrap ((((74 + n) / 8 * 8 : Nat) : Int) + 8) = (slz n : Int) := by unfold slz; rw [wr64 (by omega) (by omega)]; omega
  generalize slz n = z at *
  generalize (74 + n) / 8 * 8 = q at *
  generalize (74 + n) / 8 = r at *
  generalize 74 + n = s at *
  go_enter Tryd.func41, Tryd.ntmps41
  go_wp2
  go_ret
  exact ⟨rfl, rfl⟩
theorem spl_mid (A M Z ys : List Int) {off : Nat} (ho : A.length = off) (hm : M.length = ys.length) : spl (A ++ (M ++ Z)) off ys = A ++ (ys ++ Z) := by
  unfold spl
  subst ho
  rw [List.take_left, List.drop_append]
  rw [List.drop_of_length_le (show A.length ≤ A.length + ys.length by omega), List.nil_append, show A.length + ys.length - A.length = M.length by omega, List.drop_left]
def rz (n : Nat) : List Int := List.replicate n 0
def ptB (s : ByteArray) : List Int := s.data.toList.map fun b => (b.toNat : Int)
/-- The bytes of a slot. -/
def sbL (e : SlC) : List Int := rz 8 ++ (Nu.bigF 4 e.tm ++ (rz 12 ++ (Nu.bigF 4 e.md ++ (rz 8 ++ (Nu.bigF 4 e.sz ++ (e.ids ++ (Nu.bigF 2 (4096 * e.st + e.pt.size) ++ (ptB e.pt ++ rz (slz e.pt.size - 74 - e.pt.size)))))))))
theorem ptB_length (s : ByteArray) : (ptB s).length = s.size := by
  unfold ptB
  rw [List.length_map, Lib.size_eq]
theorem slz_ge (n : Nat) : 75 + n ≤ slz n ∧ slz n ≤ 82 + n := by unfold slz; omega
theorem wp_copyR {P : Program} (w : World) {o : Oper} {a : Act} {K : Act → World → Prop} {Q : Exit → Act → World → Prop} (d s : Operand) (t t' : TypeId)
    (ho : o.op = .call { callee := .builtin .copy, args := #[d, s], argTypes := #[t, t'] }) (v u : Value) (hd : a.eval d = v) (hs : a.eval s = u) {v' : Value} {w' : World}
    (hr : (Builtin.copy_ #[t, t'] o.type #[v, u]).run P w = .ok v' w') (h : K (a.put o.dst v') w') : o.wp P a w K Q := by
  unfold Oper.wp execOp
  simp only [ho, resolve, invoke, builtin, Sem.run_bind, Sem.run_pure, Result.andThen_ok, List.map_toArray, List.map_cons, List.map_nil, hd, hs, hr]
  exact h
theorem info8s : (Tryd.prog.info? 5).map (·.size) = some 1 := by kernel_rfl
/-- copy of numbers into a block of bytes. -/
theorem copy_blk (w : World) (ty : TypeId) (g off dLen dCap : Nat) (ad : Addr) (sLen sCap : Nat) (cur ys : List Int) (hg : BlkK .u8 w g 5 cur) (hn : ys.length = Nat.min sLen dLen)
    (hsrc : ∀ j, j < ys.length → w.cell? (ad.add j) = some (.int .u8 (ys.getD j 0))) (hfit : off + ys.length ≤ cur.length) :
    ∃ w', (Builtin.copy_ #[25, 25] ty #[.slice (some ⟨g, off, none⟩) dLen dCap, .slice (some ad) sLen sCap]).run Tryd.prog w = .ok (goInt ys.length) w' ∧ BlkK .u8 w' g 5 (spl cur off ys) ∧ Below g w w' := by
  have h := run_copy_row (P := Tryd.prog) w 25 25 ty 5 g off dLen dCap ad sLen sCap (cellsK .u8 cur).toArray 5 (cellsK .u8 ys) Tryd.underlying25 info8s hg (by rw [cellsK_length]; exact hn) (fun j v hj => by
    obtain ⟨hj', rfl⟩ := cellsK_get hj
    exact hsrc j hj') (by rw [cellsK_length, List.size_toArray, cellsK_length]; exact hfit) (cellsK_one _ _)
  rw [cellsK_length] at h
  refine ⟨_, h, ?_, below_setRow (Below.refl _ _) (Nat.le_refl _) _⟩
  unfold BlkK
  rw [setRow_heap w g _ _ _ _ hg]
  have := spl_cells cur off ys
  unfold splice at this
  rw [← this, cellsK_length, List.append_assoc]
theorem copy_str (w : World) (ty : TypeId) (g off dLen dCap : Nat) (s : ByteArray) (cur : List Int) (hg : BlkK .u8 w g 5 cur) (hle : s.size ≤ dLen) (hfit : off + s.size ≤ cur.length) :
    ∃ w', (Builtin.copy_ #[25, 9] ty #[.slice (some ⟨g, off, none⟩) dLen dCap, .string s]).run Tryd.prog w = .ok (goInt s.size) w' ∧ BlkK .u8 w' g 5 (spl cur off (ptB s)) ∧ Below g w w' := by
  have h := Lib.run_copy_row_string (P := Tryd.prog) w 25 9 ty 5 g off dLen dCap s (cellsK .u8 cur).toArray 5 Tryd.underlying25 info8s hg hle (by rw [List.size_toArray, cellsK_length]; exact hfit)
  refine ⟨_, h, ?_, below_setRow (Below.refl _ _) (Nat.le_refl _) _⟩
  unfold BlkK
  rw [setRow_heap w g _ _ _ _ hg]
  have hb : Lib.byteCells s.data.toList = cellsK .u8 (ptB s) := by
    unfold Lib.byteCells cellsK ptB
    rw [List.map_map]
    rfl
  have := spl_cells cur off (ptB s)
  unfold splice at this
  rw [← this, cellsK_length, ptB_length, hb, List.append_assoc]
/-- A slot whose numbers and path have room. -/
def FitZ (e : SlC) : Prop := e.ok ∧ 0 ≤ e.st ∧ e.st ≤ 3 ∧ 0 ≤ e.sz ∧ e.sz ≤ 4294967295 ∧ 0 ≤ e.tm ∧ e.tm ≤ 4294967295 ∧ 0 ≤ e.md ∧ e.md ≤ 4294967295 ∧ e.pt.size ≤ 200
set_option maxHeartbeats 2000000 in
set_option maxRecDepth 100000 in
theorem slotBytes_any {e : SlC} (hf : FitZ e) (w : World) :
    Calls Tryd.prog 21 #[.agg e.l.toArray] w fun x w' => ∃ g, x = .returned (.slice (some ⟨g, 0, none⟩) (sbL e).length (sbL e).length) ∧ BlkK .u8 w' g 5 (sbL e) ∧ Below w.heap.size w w' ∧ w.heap.size ≤ g := by
  obtain ⟨he, s0, s1, z0, z1, t0, t1, m0, m1, hp⟩ := hf
  obtain ⟨w1, hw1, hB1, hz1, hbk, hc⟩ := SlC.box w he
  obtain ⟨c0, c1, c2, c3, c4⟩ := hc w1 (CC.refl _)
  have KS := Kept.mk (slotSize_any e.pt.size w1 (by omega))
  have hge := slz_ge e.pt.size
  obtain ⟨Z, hZ⟩ : ∃ Z, slz e.pt.size = Z := ⟨_, rfl⟩
  rw [hZ] at KS hge
  have KB1 := Kept.mk hB1
  have KC := Kept.mk hc
  have KH := Kept.mk hbk
  obtain ⟨E, hE⟩ : ∃ E, e.l.toArray = E := ⟨_, rfl⟩
  rw [hE] at hw1 KH ⊢
  clear hB1 hc hbk
  go_enter Tryd.func21, Tryd.ntmps21
  go_wp2_with fail
  refine Calls.mono KS.out (fun x w2 hp => ?_)
  obtain ⟨rfl, rfl⟩ := hp
  have hZ3 : Z ≤ 3000000 := by omega
  have hZg : w2.heap.size = w.heap.size + 1 := hz1
  go_wp2_with (at_make; refine wpList_make_u8 _ rfl _ _ rfl (Z : Int) (Z : Int) Z rfl rfl rfl rfl hZ3 ?_; intro w3 hbk3 hgr3; have KK3 := Kept.mk hbk3; have KG3 := Kept.mk hgr3; clear hbk3 hgr3)
  have hB3 : Below w2.heap.size w2 w3 := (Below.refl _ _).grown KG3.out (Nat.le_refl _) (by intro k hk; cases hk)
  rw [hZg] at KK3 hB3
  obtain ⟨g, hgg⟩ : ∃ g, w.heap.size + 1 = g := ⟨_, rfl⟩
  rw [hgg] at KK3 hB3 ⊢
  have KBg := Kept.mk hB3
  have KGl3 := Kept.mk KK3.out.lt
  have hcut : ∀ k : Nat, k ≤ 74 → ∀ W : World, (Instr.sliceAt 25 (.slice (some ⟨g, 0, none⟩) Z Z) (some (.int .i64 k)) none none).run Tryd.prog W = .ok (.slice (some ⟨g, k, none⟩) (Z - k) (Z - k)) W := fun k hk W => by
    have := cut_from g Z Z k (by omega) (by omega) 0 W
    rwa [Nat.zero_add] at this
  have KCut := Kept.mk hcut
  have KCell : Kept (∀ W, Below g w2 W → (W.cell? ⟨w.heap.size, 0, none⟩ = some (.string e.pt) ∧ W.cell? ⟨w.heap.size, 1, none⟩ = some (.int .i64 e.st) ∧ W.cell? ⟨w.heap.size, 2, none⟩ = some (.int .i64 e.md) ∧ W.cell? ⟨w.heap.size, 35, none⟩ = some (.int .i64 e.sz) ∧ W.cell? ⟨w.heap.size, 36, none⟩ = some (.int .i64 e.tm))) := ⟨fun W hW => KC.out W (by unfold CC; rw [hZg, hgg]; exact hW)⟩
  have KRow : Kept (∀ W, Below g w2 W → W.heap[w.heap.size]? = some (.cells E 41)) := ⟨fun W hW => by rw [hW.block _ (by omega)]; exact KH.out⟩
  have hgw : w.heap.size < g := by omega
  have K0 : Kept (BlkK .u8 w3 g 5 (rz 8 ++ (rz 4 ++ (rz 12 ++ (rz 4 ++ (rz 8 ++ (rz 4 ++ (rz 32 ++ (rz 2 ++ (rz e.pt.size ++ rz (Z - 74 - e.pt.size))))))))))) := ⟨by
    have h := KK3.out
    have he : List.replicate Z (0 : Int) = (rz 8 ++ (rz 4 ++ (rz 12 ++ (rz 4 ++ (rz 8 ++ (rz 4 ++ (rz 32 ++ (rz 2 ++ (rz e.pt.size ++ rz (Z - 74 - e.pt.size)))))))))) := by
      unfold rz
      simp only [List.replicate_append_replicate]
      congr 1
      omega
    rw [← he]; exact h⟩
  have l1 : (Nu.bigF 4 e.tm).length = 4 := Nu.bigF_length _ _
  have l2 : (Nu.bigF 4 e.md).length = 4 := Nu.bigF_length _ _
  have l3 : (Nu.bigF 4 e.sz).length = 4 := Nu.bigF_length _ _
  have l5 : (Nu.bigF 2 (4096 * e.st + e.pt.size)).length = 2 := Nu.bigF_length _ _
  have KLs : Kept (e.ids.length = 32 ∧ (ptB e.pt).length = e.pt.size) := ⟨he.1, ptB_length _⟩
  have rzl : ∀ n, (rz n).length = n := fun n => List.length_replicate
  have KE : Kept (sbL e = rz 8 ++ (Nu.bigF 4 e.tm ++ (rz 12 ++ (Nu.bigF 4 e.md ++ (rz 8 ++ (Nu.bigF 4 e.sz ++ (e.ids ++ (Nu.bigF 2 (4096 * e.st + e.pt.size) ++ (ptB e.pt ++ rz (Z - 74 - e.pt.size)))))))))) := ⟨by unfold sbL; rw [hZ]⟩
  have KOk := Kept.mk he
  have KEE := Kept.mk hE
  have KrL : Kept ((rz 8).length = 8 ∧ (rz 4).length = 4 ∧ (rz 12).length = 12 ∧ (rz 32).length = 32 ∧ (rz 2).length = 2 ∧ (rz e.pt.size).length = e.pt.size ∧ (rz (Z - 74 - e.pt.size)).length = Z - 74 - e.pt.size) := ⟨rzl _, rzl _, rzl _, rzl _, rzl _, rzl _, rzl _⟩
  have KlL : Kept ((Nu.bigF 4 e.tm).length = 4 ∧ (Nu.bigF 4 e.md).length = 4 ∧ (Nu.bigF 4 e.sz).length = 4 ∧ (Nu.bigF 2 (4096 * e.st + e.pt.size)).length = 2) := ⟨l1, l2, l3, l5⟩
  clear hcut hB3 KS KK3 KG3 KC KH hE hw1 c0 c1 c2 c3 c4 rzl l1 l2 l3 l5 he hgg hZg hz1
  have cc := (KCell.out w3 KBg.out).2.2.2.2
  have KP : Kept (∀ m, Calls Tryd.prog 42 #[.slice (some ⟨g, 8, none⟩) (Z - 8) (Z - 8), .int .i64 e.tm, .int .i64 4] (w3.drewN m) fun x w' => x = .returned (.tuple #[]) ∧ BlkK .u8 w' g 5 (rz 8 ++ (Nu.bigF 4 e.tm ++ (rz 12 ++ (rz 4 ++ (rz 8 ++ (rz 4 ++ (rz 32 ++ (rz 2 ++ (rz e.pt.size ++ (rz (Z - 74 - e.pt.size))))))))))) ∧ Below g w2 w') := ⟨fun m => (putNumber_any g 8 (Z - 8) (Z - 8) _ e.tm 4 (w3.drewN m) (K0.out.drewN m) (by omega) (by have q := KlL.out; have q1 := KrL.out; have q2 := KLs.out; (repeat rw [List.length_append]); omega) (by omega) (by omega) (by omega) (by omega) (by omega)).mono fun x w' hp => ⟨hp.1, by
      have h := hp.2.1
      rw [show (rz 8 ++ (rz 4 ++ (rz 12 ++ (rz 4 ++ (rz 8 ++ (rz 4 ++ (rz 32 ++ (rz 2 ++ (rz e.pt.size ++ (rz (Z - 74 - e.pt.size)))))))))) : List Int) = (rz 8) ++ (rz 4 ++ (rz 12 ++ (rz 4 ++ (rz 8 ++ (rz 4 ++ (rz 32 ++ (rz 2 ++ (rz e.pt.size ++ (rz (Z - 74 - e.pt.size)))))))))) by first | rfl | simp only [List.append_assoc], spl_mid _ _ _ _ (by have q := KlL.out; have q1 := KrL.out; have q2 := KLs.out; (repeat rw [List.length_append]); omega) (by have q := KlL.out; have q1 := KrL.out; have q2 := KLs.out; (repeat rw [List.length_append]); omega)] at h
      simpa only [List.append_assoc] using h, (below_drewN KBg.out m).trans hp.2.2.1⟩⟩
  go_upto_region 2 with fail
  refine wp_region_last _ 4 (by kernel_rfl) (by kernel_rfl) rfl rfl ?_
  simp only [List.take_succ_cons, List.take_zero]
  go_big_quiet_step (fail)
  refine wpQuiet_slice 25 _ _ _ (.slice (some ⟨g, 8, none⟩) (Z - 8) (Z - 8)) rfl rfl (fun W => KCut.out 8 (by omega) W) ?_
  simp only [Act.put, List.setIfInBounds_toArray, List.set_cons_zero, List.set_cons_succ]
  go_big_quiet_step (fail)
  go_big_quiet_step (fail)
  refine wpQuiet_nil ?_
  intro m
  go_wp2_with fail
  refine Calls.mono (KP.out m) (fun x w4 hp => ?_)
  obtain ⟨rfl, hbk4, hb4⟩ := hp
  have KBg := Kept.mk hb4
  have K0 := Kept.mk hbk4
  clear hb4 hbk4 KP cc
  have cc := (KCell.out w4 KBg.out).2.2.1
  have KP : Kept (∀ m, Calls Tryd.prog 42 #[.slice (some ⟨g, 24, none⟩) (Z - 24) (Z - 24), .int .i64 e.md, .int .i64 4] (w4.drewN m) fun x w' => x = .returned (.tuple #[]) ∧ BlkK .u8 w' g 5 (rz 8 ++ (Nu.bigF 4 e.tm ++ (rz 12 ++ (Nu.bigF 4 e.md ++ (rz 8 ++ (rz 4 ++ (rz 32 ++ (rz 2 ++ (rz e.pt.size ++ (rz (Z - 74 - e.pt.size))))))))))) ∧ Below g w2 w') := ⟨fun m => (putNumber_any g 24 (Z - 24) (Z - 24) _ e.md 4 (w4.drewN m) (K0.out.drewN m) (by omega) (by have q := KlL.out; have q1 := KrL.out; have q2 := KLs.out; (repeat rw [List.length_append]); omega) (by omega) (by omega) (by omega) (by omega) (by omega)).mono fun x w' hp => ⟨hp.1, by
      have h := hp.2.1
      rw [show (rz 8 ++ (Nu.bigF 4 e.tm ++ (rz 12 ++ (rz 4 ++ (rz 8 ++ (rz 4 ++ (rz 32 ++ (rz 2 ++ (rz e.pt.size ++ (rz (Z - 74 - e.pt.size)))))))))) : List Int) = (rz 8 ++ (Nu.bigF 4 e.tm ++ (rz 12))) ++ (rz 4 ++ (rz 8 ++ (rz 4 ++ (rz 32 ++ (rz 2 ++ (rz e.pt.size ++ (rz (Z - 74 - e.pt.size)))))))) by first | rfl | simp only [List.append_assoc], spl_mid _ _ _ _ (by have q := KlL.out; have q1 := KrL.out; have q2 := KLs.out; (repeat rw [List.length_append]); omega) (by have q := KlL.out; have q1 := KrL.out; have q2 := KLs.out; (repeat rw [List.length_append]); omega)] at h
      simpa only [List.append_assoc] using h, (below_drewN KBg.out m).trans hp.2.2.1⟩⟩
  go_upto_region 3 with fail
  refine wp_region_last _ 4 (by kernel_rfl) (by kernel_rfl) rfl rfl ?_
  simp only [List.take_succ_cons, List.take_zero]
  go_big_quiet_step (fail)
  refine wpQuiet_slice 25 _ _ _ (.slice (some ⟨g, 24, none⟩) (Z - 24) (Z - 24)) rfl rfl (fun W => KCut.out 24 (by omega) W) ?_
  simp only [Act.put, List.setIfInBounds_toArray, List.set_cons_zero, List.set_cons_succ]
  go_big_quiet_step (fail)
  go_big_quiet_step (fail)
  refine wpQuiet_nil ?_
  intro m
  go_wp2_with fail
  refine Calls.mono (KP.out m) (fun x w5 hp => ?_)
  obtain ⟨rfl, hbk5, hb5⟩ := hp
  have KBg := Kept.mk hb5
  have K0 := Kept.mk hbk5
  clear hb5 hbk5 KP cc
  have cc := (KCell.out w5 KBg.out).2.2.2.1
  have KP : Kept (∀ m, Calls Tryd.prog 42 #[.slice (some ⟨g, 36, none⟩) (Z - 36) (Z - 36), .int .i64 e.sz, .int .i64 4] (w5.drewN m) fun x w' => x = .returned (.tuple #[]) ∧ BlkK .u8 w' g 5 (rz 8 ++ (Nu.bigF 4 e.tm ++ (rz 12 ++ (Nu.bigF 4 e.md ++ (rz 8 ++ (Nu.bigF 4 e.sz ++ (rz 32 ++ (rz 2 ++ (rz e.pt.size ++ (rz (Z - 74 - e.pt.size))))))))))) ∧ Below g w2 w') := ⟨fun m => (putNumber_any g 36 (Z - 36) (Z - 36) _ e.sz 4 (w5.drewN m) (K0.out.drewN m) (by omega) (by have q := KlL.out; have q1 := KrL.out; have q2 := KLs.out; (repeat rw [List.length_append]); omega) (by omega) (by omega) (by omega) (by omega) (by omega)).mono fun x w' hp => ⟨hp.1, by
      have h := hp.2.1
      rw [show (rz 8 ++ (Nu.bigF 4 e.tm ++ (rz 12 ++ (Nu.bigF 4 e.md ++ (rz 8 ++ (rz 4 ++ (rz 32 ++ (rz 2 ++ (rz e.pt.size ++ (rz (Z - 74 - e.pt.size)))))))))) : List Int) = (rz 8 ++ (Nu.bigF 4 e.tm ++ (rz 12 ++ (Nu.bigF 4 e.md ++ (rz 8))))) ++ (rz 4 ++ (rz 32 ++ (rz 2 ++ (rz e.pt.size ++ (rz (Z - 74 - e.pt.size)))))) by first | rfl | simp only [List.append_assoc], spl_mid _ _ _ _ (by have q := KlL.out; have q1 := KrL.out; have q2 := KLs.out; (repeat rw [List.length_append]); omega) (by have q := KlL.out; have q1 := KrL.out; have q2 := KLs.out; (repeat rw [List.length_append]); omega)] at h
      simpa only [List.append_assoc] using h, (below_drewN KBg.out m).trans hp.2.2.1⟩⟩
  go_upto_region 4 with fail
  refine wp_region_last _ 4 (by kernel_rfl) (by kernel_rfl) rfl rfl ?_
  simp only [List.take_succ_cons, List.take_zero]
  go_big_quiet_step (fail)
  refine wpQuiet_slice 25 _ _ _ (.slice (some ⟨g, 36, none⟩) (Z - 36) (Z - 36)) rfl rfl (fun W => KCut.out 36 (by omega) W) ?_
  simp only [Act.put, List.setIfInBounds_toArray, List.set_cons_zero, List.set_cons_succ]
  go_big_quiet_step (fail)
  go_big_quiet_step (fail)
  refine wpQuiet_nil ?_
  intro m
  go_wp2_with fail
  refine Calls.mono (KP.out m) (fun x w6 hp => ?_)
  obtain ⟨rfl, hbk6, hb6⟩ := hp
  have KBg := Kept.mk hb6
  have K0 := Kept.mk hbk6
  clear hb6 hbk6 KP cc
  have cc := KRow.out w6 KBg.out
  have KP : Kept (∀ m, ∃ w', (Builtin.copy_ #[25, 25] 3 #[.slice (some ⟨g, 40, none⟩) (Z - 40) (Z - 40), .slice (some ⟨w.heap.size, 3, none⟩) 32 32]).run Tryd.prog (w6.drewN m) = .ok (goInt (32 : Nat)) w' ∧ BlkK .u8 w' g 5 (rz 8 ++ (Nu.bigF 4 e.tm ++ (rz 12 ++ (Nu.bigF 4 e.md ++ (rz 8 ++ (Nu.bigF 4 e.sz ++ (e.ids ++ (rz 2 ++ (rz e.pt.size ++ (rz (Z - 74 - e.pt.size))))))))))) ∧ Below g w2 w') := ⟨fun m => by
    obtain ⟨w', h1, h2, h3⟩ := copy_blk (w6.drewN m) 3 g 40 (Z - 40) (Z - 40) ⟨w.heap.size, 3, none⟩ 32 32 _ e.ids (K0.out.drewN m) (by rw [KLs.out.1]; exact (Nat.min_eq_left (by omega)).symm) (fun j hj => by
      rw [add_plain]
      show w6.cell? _ = _
      unfold World.cell?
      simp only [cc]
      rw [← KEE.out, List.getElem?_toArray]
      exact SlC.cI KOk.out (by rw [KLs.out.1] at hj; exact hj)) (by have q := KlL.out; have q1 := KrL.out; have q2 := KLs.out; (repeat rw [List.length_append]); omega)
    rw [KLs.out.1] at h1
    refine ⟨w', h1, ?_, (below_drewN KBg.out m).trans h3⟩
    rw [show (rz 8 ++ (Nu.bigF 4 e.tm ++ (rz 12 ++ (Nu.bigF 4 e.md ++ (rz 8 ++ (Nu.bigF 4 e.sz ++ (rz 32 ++ (rz 2 ++ (rz e.pt.size ++ (rz (Z - 74 - e.pt.size)))))))))) : List Int) = (rz 8 ++ (Nu.bigF 4 e.tm ++ (rz 12 ++ (Nu.bigF 4 e.md ++ (rz 8 ++ (Nu.bigF 4 e.sz)))))) ++ (rz 32 ++ (rz 2 ++ (rz e.pt.size ++ (rz (Z - 74 - e.pt.size))))) by first | rfl | simp only [List.append_assoc], spl_mid _ _ _ _ (by have q := KlL.out; have q1 := KrL.out; have q2 := KLs.out; (repeat rw [List.length_append]); omega) (by have q := KlL.out; have q1 := KrL.out; have q2 := KLs.out; (repeat rw [List.length_append]); omega)] at h2
    simpa only [List.append_assoc] using h2⟩
  clear cc
  go_upto_region 5 with fail
  refine wp_region_last _ 4 (by kernel_rfl) (by kernel_rfl) rfl rfl ?_
  simp only [List.take_succ_cons, List.take_zero]
  go_big_quiet_step (fail)
  refine wpQuiet_slice 25 _ _ _ (.slice (some ⟨g, 40, none⟩) (Z - 40) (Z - 40)) rfl rfl (fun W => KCut.out 40 (by omega) W) ?_
  simp only [Act.put, List.setIfInBounds_toArray, List.set_cons_zero, List.set_cons_succ]
  go_big_quiet_step (fail)
  go_big_quiet_step (fail)
  refine wpQuiet_nil ?_
  intro m
  obtain ⟨w7, hr7, hbk7, hb7⟩ := KP.out m
  refine wp_copyR _ _ _ _ _ rfl _ _ rfl rfl hr7 ?_
  simp only [Act.put, List.setIfInBounds_toArray, List.set_cons_zero, List.set_cons_succ]
  have KBg := Kept.mk hb7
  have K0 := Kept.mk hbk7
  clear hb7 hbk7 hr7 KP
  obtain ⟨cp, cs, -⟩ := KCell.out w7 KBg.out
  have hst : IntKind.i64.wrap (4096 * e.st) = 4096 * e.st := wr64 (by omega) (by omega)
  have hst2 : IntKind.i64.wrap (4096 * e.st + (e.pt.size : Int)) = 4096 * e.st + (e.pt.size : Int) := wr64 (by omega) (by omega)
  have KP : Kept (∀ m, Calls Tryd.prog 42 #[.slice (some ⟨g, 72, none⟩) (Z - 72) (Z - 72), .int .i64 (4096 * e.st + (e.pt.size : Int)), .int .i64 2] (w7.drewN m) fun x w' => x = .returned (.tuple #[]) ∧ BlkK .u8 w' g 5 (rz 8 ++ (Nu.bigF 4 e.tm ++ (rz 12 ++ (Nu.bigF 4 e.md ++ (rz 8 ++ (Nu.bigF 4 e.sz ++ (e.ids ++ (Nu.bigF 2 (4096 * e.st + e.pt.size) ++ (rz e.pt.size ++ (rz (Z - 74 - e.pt.size))))))))))) ∧ Below g w2 w') := ⟨fun m => (putNumber_any g 72 (Z - 72) (Z - 72) _ (4096 * e.st + (e.pt.size : Int)) 2 (w7.drewN m) (K0.out.drewN m) (by omega) (by have q := KlL.out; have q1 := KrL.out; have q2 := KLs.out; (repeat rw [List.length_append]); omega) (by omega) (by omega) (by omega) (by omega) (by omega)).mono fun x w' hp => ⟨hp.1, by
      have h := hp.2.1
      rw [show (rz 8 ++ (Nu.bigF 4 e.tm ++ (rz 12 ++ (Nu.bigF 4 e.md ++ (rz 8 ++ (Nu.bigF 4 e.sz ++ (e.ids ++ (rz 2 ++ (rz e.pt.size ++ (rz (Z - 74 - e.pt.size)))))))))) : List Int) = (rz 8 ++ (Nu.bigF 4 e.tm ++ (rz 12 ++ (Nu.bigF 4 e.md ++ (rz 8 ++ (Nu.bigF 4 e.sz ++ (e.ids))))))) ++ (rz 2 ++ (rz e.pt.size ++ (rz (Z - 74 - e.pt.size)))) by first | rfl | simp only [List.append_assoc], spl_mid _ _ _ _ (by have q := KlL.out; have q1 := KrL.out; have q2 := KLs.out; (repeat rw [List.length_append]); omega) (by have q := KlL.out; have q1 := KrL.out; have q2 := KLs.out; (repeat rw [List.length_append]); omega)] at h
      simpa only [List.append_assoc] using h, (below_drewN KBg.out m).trans hp.2.2.1⟩⟩
  go_upto_region 6 with fail
  refine wp_region_last _ 9 (by kernel_rfl) (by kernel_rfl) rfl rfl ?_
  simp only [List.take_succ_cons, List.take_zero]
  go_big_quiet_step (fail)
  refine wpQuiet_slice 25 _ _ _ (.slice (some ⟨g, 72, none⟩) (Z - 72) (Z - 72)) rfl rfl (fun W => KCut.out 72 (by omega) W) ?_
  simp only [Act.put, List.setIfInBounds_toArray, List.set_cons_zero, List.set_cons_succ]
  repeat (go_big_quiet_step (fail))
  refine wpQuiet_nil ?_
  intro m
  go_wp2_with fail
  refine Calls.mono (KP.out m) (fun x w8 hp => ?_)
  obtain ⟨rfl, hbk8, hb8⟩ := hp
  have KBg := Kept.mk hb8
  have K0 := Kept.mk hbk8
  clear hb8 hbk8 KP cp cs
  obtain ⟨cp, -⟩ := KCell.out w8 KBg.out
  have KP : Kept (∀ m, ∃ w', (Builtin.copy_ #[25, 9] 3 #[.slice (some ⟨g, 74, none⟩) (Z - 74) (Z - 74), .string e.pt]).run Tryd.prog (w8.drewN m) = .ok (goInt e.pt.size) w' ∧ BlkK .u8 w' g 5 (rz 8 ++ (Nu.bigF 4 e.tm ++ (rz 12 ++ (Nu.bigF 4 e.md ++ (rz 8 ++ (Nu.bigF 4 e.sz ++ (e.ids ++ (Nu.bigF 2 (4096 * e.st + e.pt.size) ++ (ptB e.pt ++ (rz (Z - 74 - e.pt.size))))))))))) ∧ Below g w2 w') := ⟨fun m => by
    obtain ⟨w', h1, h2, h3⟩ := copy_str (w8.drewN m) 3 g 74 (Z - 74) (Z - 74) e.pt _ (K0.out.drewN m) (by omega) (by have q := KlL.out; have q1 := KrL.out; have q2 := KLs.out; (repeat rw [List.length_append]); omega)
    refine ⟨w', h1, ?_, (below_drewN KBg.out m).trans h3⟩
    rw [show (rz 8 ++ (Nu.bigF 4 e.tm ++ (rz 12 ++ (Nu.bigF 4 e.md ++ (rz 8 ++ (Nu.bigF 4 e.sz ++ (e.ids ++ (Nu.bigF 2 (4096 * e.st + e.pt.size) ++ (rz e.pt.size ++ (rz (Z - 74 - e.pt.size)))))))))) : List Int) = (rz 8 ++ (Nu.bigF 4 e.tm ++ (rz 12 ++ (Nu.bigF 4 e.md ++ (rz 8 ++ (Nu.bigF 4 e.sz ++ (e.ids ++ (Nu.bigF 2 (4096 * e.st + e.pt.size))))))))) ++ (rz e.pt.size ++ (rz (Z - 74 - e.pt.size))) by first | rfl | simp only [List.append_assoc], spl_mid _ _ _ _ (by have q := KlL.out; have q1 := KrL.out; have q2 := KLs.out; (repeat rw [List.length_append]); omega) (by have q := KlL.out; have q1 := KrL.out; have q2 := KLs.out; (repeat rw [List.length_append]); omega)] at h2
    simpa only [List.append_assoc] using h2⟩
  go_upto_region 7 with fail
  refine wp_region_last _ 4 (by kernel_rfl) (by kernel_rfl) rfl rfl ?_
  simp only [List.take_succ_cons, List.take_zero]
  go_big_quiet_step (fail)
  refine wpQuiet_slice 25 _ _ _ (.slice (some ⟨g, 74, none⟩) (Z - 74) (Z - 74)) rfl rfl (fun W => KCut.out 74 (by omega) W) ?_
  simp only [Act.put, List.setIfInBounds_toArray, List.set_cons_zero, List.set_cons_succ]
  repeat (go_big_quiet_step (fail))
  refine wpQuiet_nil ?_
  intro m
  obtain ⟨w9, hr9, hbk9, hb9⟩ := KP.out m
  refine wp_copyR _ _ _ _ _ rfl _ _ rfl rfl hr9 ?_
  simp only [Act.put, List.setIfInBounds_toArray, List.set_cons_zero, List.set_cons_succ]
  have KBg := Kept.mk hb9
  have K0 := Kept.mk hbk9
  clear hb9 hbk9 hr9 KP cp
  go_wp2
  go_ret
  have hlen : (sbL e).length = Z := by rw [KE.out]; have q := KlL.out; have q1 := KrL.out; have q2 := KLs.out; (repeat rw [List.length_append]); omega
  refine ⟨g, by rw [hlen]; rfl, by rw [KE.out]; exact K0.out, KB1.out.trans (KBg.out.mono (by omega)), by omega⟩
end Go.Proofs.YthkaohkondkhgaaDoor
