/-
  PutTree over any list of entries.
-/
import Derived.Test.YtkbalngddlhlpaaGreatDoorO21
import Derived.Deep.RegionHeld3
import Derived.Test.YtkbalngddlhlpaaGreatDoorN27
import Derived.Test.YtkbalngddlhlpaaGreatDoorO10B
namespace Go.Proofs.YtkbalngddlhlpaaGreatDoor
open Go.RowKit

theorem Own.ty {k : IntKind} {e : TypeId} {w : World} {base : Nat} {v : Value} {xs : List Int} (h : Own k e w base v xs) {q : Nat} (hq : v.ownBlock = some q) : ∃ cur, w.heap[q]? = some (.cells cur e) := by
  rcases h with ⟨-, ⟨rfl, -⟩ | ⟨g, cap, cur, rfl, -, hg, -⟩⟩
  · cases hq
  · cases hq
    exact ⟨cur, hg⟩
structure StB (w W : World) (base : Nat) (pv : Value) (xs : List Int) (g : Nat) (C : Array Value) : Prop where
  own : Own .u8 5 W base pv xs
  blk : W.heap[g]? = some (.cells C 33)
  bel : Below base w W
section
variable {w W W' : World} {base g : Nat} {pv pv' : Value} {xs ys : List Int} {C : Array Value}
theorem StB.lt (h : StB w W base pv xs g C) : g < W.heap.size := by
  rcases Nat.lt_or_ge g W.heap.size with h' | h'
  · exact h'
  · have := h.blk
    rw [Array.getElem?_eq_none h'] at this
    cases this
theorem StB.ne (h : StB w W base pv xs g C) {q : Nat} (hq : pv.ownBlock = some q) : q ≠ g := fun e => by
  obtain ⟨cur, hc⟩ := h.own.ty hq
  rw [e, h.blk] at hc
  injection hc with hc
  injection hc with _ hc
  revert hc
  decide
theorem StB.app (h : StB w W base pv xs g C) (hb : base ≤ W.heap.size) (ho : Own .u8 5 W' base pv' ys) (hg : W.grownBy W' pv.ownBlock) : StB w W' base pv' ys g C := by
  have hl := h.lt
  refine ⟨ho, ?_, h.bel.trans ((Below.refl _ W).grown hg hb (fun q hq => (h.own.lt q hq).1))⟩
  rw [hg.block g hl (fun e => h.ne e.symm rfl)]
  exact h.blk
theorem StB.alloc (h : StB w W base pv xs g C) (hb : base ≤ W.heap.size) (o : Obj) : StB w (W.alloc o) base pv xs g C :=
  ⟨h.own.alloc o, by rw [Below.heap_alloc W o g h.lt]; exact h.blk, h.bel.alloc hb o⟩
theorem StB.later (h : StB w W base pv xs g C) (hb : base ≤ W.heap.size) (hl : Below W.heap.size W W') : StB w W' base pv xs g C :=
  ⟨h.own.later hl (Nat.le_refl _), by rw [hl.block g h.lt]; exact h.blk, h.bel.trans (hl.mono hb)⟩
end
theorem rd_ids {W : World} {g : Nat} {e : EnC} (h : e.ok) (hb : W.heap[g]? = some (.cells e.l.toArray 33)) : Rd .u8 anyB W (.slice (some ⟨g, 2, none⟩) 32 32) e.ids := by
  have hlt : g < W.heap.size := by
    rcases Nat.lt_or_ge g W.heap.size with h' | h'
    · exact h'
    · rw [Array.getElem?_eq_none h'] at hb
      cases hb
  refine ⟨some ⟨g, 2, none⟩, 32, by rw [h.1], by rw [h.1]; omega, by unfold maxLen; omega, (fun h => by cases h), fun _ => ⟨g, 2, rfl, hlt, trivial, fun i hi => ?_⟩⟩
  rw [cell_of_row W g (2 + i) _ _ (0, 0) hb, List.getElem?_toArray]
  unfold EnC.l
  rw [show 2 + i = i + 2 by omega, List.getElem?_cons_succ, List.getElem?_cons_succ]
  unfold cellsK
  simp [List.getD, List.getElem?_eq_getElem hi]
def putL (es : List EnC) : List Int := if treE es = 0 then treL es else []
theorem treE_ok {es : List EnC} (h : treE es = 0) : es.length ≤ 4096 ∧ tsF es ≤ 1048576 := by
  unfold treE at h
  by_cases h1 : 4096 < es.length ∨ 1048576 < tsF es
  · rw [if_pos h1] at h; omega
  · omega

set_option maxHeartbeats 4000000 in
set_option maxRecDepth 100000 in
theorem putTree_any (v : Value) (es : List EnC) (w : World) (hg : Gv w) (hr : RdE w v es) :
    Calls Tryz.prog 7 #[v] w fun e w' => ∃ v', e = .returned (.tuple #[v', .int .i64 (treE es)]) ∧ Own .u8 5 w' w.heap.size v' (putL es) ∧ Below w.heap.size w w' := by
  have K1 := Kept.mk (treeError_any v es w hg hr)
  have KG := Kept.mk hg
  obtain ⟨a, c, rfl, hlc, hok, hrd⟩ := hr
  have KR := Kept.mk hrd
  have KK := Kept.mk hok
  obtain ⟨i0, z0, hi, hz, hsz, hbb, hc⟩ := info8
  have KT := Kept.mk (treE_ok (es := es))
  have KP : Kept (putL es = if treE es = 0 then treL es else []) := ⟨rfl⟩
  generalize treE es = E at *
  clear hg hok hrd
  go_enter Tryz.func7, Tryz.ntmps7
  go_wp2_with fail
  refine Calls.mono K1.out (fun e w1 hp => ?_)
  obtain ⟨rfl, hb1⟩ := hp
  have KB1 := Kept.mk hb1
  clear hb1 K1
  by_cases h0 : E = 0
  · subst h0
    obtain ⟨hl, hts⟩ := KT.out rfl
    have KPL : Kept (putL es = treL es) := ⟨by rw [KP.out, if_pos rfl]⟩
    have Kts := Kept.mk hts
    clear hts KT KP
    go_wp2
    go_loopw [5, 15] (fun pv kv wr => ∃ k : Nat, k ≤ es.length ∧ kv = .int .i64 k ∧ Own .u8 5 wr w.heap.size pv (treL (es.take k)) ∧ Below w.heap.size w wr) (fun _ kv _ => es.length - (intOf kv).toNat)
    case atStart => exact ⟨0, Nat.zero_le _, rfl, Own.nil _ _ _ _, KB1.out⟩
    case round =>
      obtain ⟨k, hk, rfl, how, hbel⟩ := hrel
      have KOr := Kept.mk how
      have KBr := Kept.mk hbel
      obtain ⟨pa, pc, rfl, -, -, -⟩ := how.rd.form
      by_cases hlt : k < es.length
      · have hki : (k : Int) < (es.length : Int) := by omega
        obtain ⟨b, off, rfl, hbl, hrg⟩ := KR.out (by omega)
        have hrow : wr.rangeAt b (off + k * 34) (es[k]'hlt).l := fun j u hu => by
          rw [hbel.cell (p := ⟨b, off + k * 34 + j, none⟩) hbl]
          exact hrg k hlt j u hu
        have hoke := KK.out _ (List.getElem_mem hlt)
        have h34 := EnC.len hoke
        have hones := EnC.ones (es[k]'hlt)
        have hsum := tsF_take KK.out hlt
        have htl := treL_len (es := es.take k) (fun e he => KK.out e (List.mem_of_mem_take he))
        have KSt := Kept.mk (treL_step es hlt)
        have Ken : Kept (entL (es[k]'hlt) = octS (es[k]'hlt).m ++ [32] ++ strL (es[k]'hlt).nm ++ [0] ++ (es[k]'hlt).ids) := ⟨rfl⟩
        have hosz := octS_size (es[k]'hlt).m
        have hosl := strL_strOf (octS_bytes hoke.2.2.1 hoke.2.2.2.1)
        obtain ⟨x2, hx2, hB2, c0, c1⟩ := EnC.box wr (es[k]'hlt)
        have hblk : x2.heap[wr.heap.size]? = some (.cells (es[k]'hlt).l.toArray 33) := by rw [← hx2]; exact heap_alloc_new wr _
        have hs0 : w.heap.size ≤ wr.heap.size := hbel.size
        have hs2 : w.heap.size ≤ x2.heap.size := Nat.le_trans hs0 hB2.size
        have hS2 : StB w x2 w.heap.size (.slice pa (treL (es.take k)).length pc) (treL (es.take k)) wr.heap.size (es[k]'hlt).l.toArray :=
          ⟨how.later hB2 (Nat.le_refl _), hblk, hbel.trans (hB2.mono hs0)⟩
        have KS2 := Kept.mk hS2
        have KMd := Kept.mk (modeDigits_all (es[k]'hlt).m x2 (KG.out.later hS2.bel) hoke.2.2.1 hoke.2.2.2.1)
        have e2 : IntKind.i64.wrap ((k : Int) + 1) = (k : Int) + 1 := wr64 (by omega) (by omega)
        have Kok := Kept.mk hoke
        have Kts' := Kts.out
        have KLen : Kept ((treL (es.take k)).length + (octS (es[k]'hlt).m).length + 1 + (es[k]'hlt).nm.size + 1 + 32 ≤ 1048576) := ⟨by omega⟩
        have KRi : Kept (∀ W : World, W.heap[wr.heap.size]? = some (.cells (es[k]'hlt).l.toArray 33) → Rd .u8 anyB W (.slice (some ⟨wr.heap.size, 2, none⟩) 32 32) (es[k]'hlt).ids) := ⟨fun W h => rd_ids hoke h⟩
        have K32 : Kept ((es[k]'hlt).ids.length = 32) := ⟨hoke.1⟩
        have KCs : Kept (∀ W : World, W.heap[wr.heap.size]? = some (.cells (es[k]'hlt).l.toArray 33) → W.cell? ⟨wr.heap.size, 0, none⟩ = some (.int .i64 (es[k]'hlt).m) ∧ W.cell? ⟨wr.heap.size, 1, none⟩ = some (.string (es[k]'hlt).nm)) := ⟨fun W h => ⟨by rw [cell_of_row W _ 0 _ _ (0, 0) h]; rfl, by rw [cell_of_row W _ 1 _ _ (0, 0) h]; rfl⟩⟩
        clear hbel hrg hoke hsum htl hS2 hblk hB2 how hs0 Kts'
        obtain ⟨CL, hCL⟩ : ∃ CL, (es[k]'hlt).l = CL := ⟨_, rfl⟩
        rw [hCL] at hrow h34 hones hx2 KS2 KRi KCs
        clear hCL
        have KosL : Kept (strL (strOfNums (octS (es[k]'hlt).m)) = octS (es[k]'hlt).m) := ⟨hosl⟩
        have hoz : (strOfNums (octS (es[k]'hlt).m)).size = (octS (es[k]'hlt).m).length := hosz.1
        clear hosl hosz
        generalize strOfNums (octS (es[k]'hlt).m) = T at *
        generalize octS (es[k]'hlt).m = OS at *
        generalize (es[k]'hlt).m = m at *
        generalize (es[k]'hlt).nm = nm at *
        generalize (es[k]'hlt).ids = IDS at *
        generalize treL (es.take k) = TL at *
        have hR := Kept.mk hrow
        have KI : Kept ((Tryz.prog.info? 33).map (·.size) = some CL.length) := ⟨by rw [h34]; kernel_rfl⟩
        have KI2 : Kept ((Tryz.prog.info? 33).map (·.size) = some CL.toArray.size) := ⟨by rw [List.size_toArray]; exact KI.out⟩
        have KS : Kept (CL.toArray.size = 34) := ⟨by rw [List.size_toArray]; exact h34⟩
        have KO : Kept (CL.toArray.all (·.oneCell') = true) := ⟨by rw [Array.all_eq_true_iff_forall_mem]; intro x hx; exact hones x (by simpa using hx)⟩
        have Khz := Kept.mk hoz
        have Khs2 := Kept.mk hs2
        clear hrow h34 hones hoz hs2
        go_upto_region 8 with (first | (refine wpList_load_mid rfl 33 _ rfl b (off + k * 34) rfl CL _ hR.out Tryz.underlying33 rfl KI.out ?_) | (refine BigFrame.wpList_want rfl (fun K hK => wp_store_row 33 _ _ rfl wr.heap.size CL.toArray rfl rfl 33 _ (heap_alloc_new wr _) KI2.out (by rw [KS.out]; rfl) KO.out (hK _ _ ?_)); rw [World.setRow_alloc_new]))
        try rw [hx2]
        clear hx2
        go_wp2_with fail
        refine Calls.mono KMd.out (fun e x3 hp3 => ?_)
        obtain ⟨rfl, hb3⟩ := hp3
        have KS3 := Kept.mk (KS2.out.later Khs2.out hb3)
        have Khs3 : Kept (w.heap.size ≤ x3.heap.size) := ⟨KS3.out.bel.size⟩
        clear hb3 KMd KS2 c0 c1
        go_upto_region 9 with (at_builtin; refine wpList_append_s _ rfl _ _ rfl w.heap.size _ TL rfl KS3.out.own T rfl (by have := KLen.out; have := Khz.out; omega) Khs3.out ?_; intro p4 w4 ho4 hg4; have KS4 := Kept.mk (KS3.out.app Khs3.out ho4 hg4); clear ho4 hg4)
        rw [KosL.out] at KS4
        have Khs4 : Kept (w.heap.size ≤ w4.heap.size) := ⟨KS4.out.bel.size⟩
        have KS4' := Kept.mk (KS4.out.alloc Khs4.out (.cells #[.int .u8 32] 5))
        have Khs4' : Kept (w.heap.size ≤ (w4.alloc (.cells #[.int .u8 32] 5)).heap.size) := ⟨KS4'.out.bel.size⟩
        clear KS3
        go_upto_region 10 with (at_builtin; refine wpList_append_rd _ rfl _ _ 27 rfl .u8 anyB 1 w.heap.size 5 i0 z0 Tryz.underlying27 hi hz hsz hbb hc (by omega) _ (TL ++ OS) rfl KS4'.out.own _ [32] rfl (Rd.one .u8 _ 32 _) (by have := KLen.out; simp only [List.length_append, List.length_singleton]; omega) Khs4'.out ?_; intro p5 w5 ho5 hg5 ha5; have KS5 := Kept.mk (KS4'.out.app Khs4'.out ho5 hg5); clear ho5 hg5)
        have Khs5 : Kept (w.heap.size ≤ w5.heap.size) := ⟨KS5.out.bel.size⟩
        obtain ⟨c0, c1⟩ := KCs.out w5 KS5.out.blk
        clear KS4 KS4' c0
        go_upto_region 11 with (at_builtin; refine wpList_append_s _ rfl _ _ rfl w.heap.size _ (TL ++ OS ++ [32]) rfl KS5.out.own nm rfl (by have := KLen.out; simp only [List.length_append, List.length_singleton]; omega) Khs5.out ?_; intro p6 w6 ho6 hg6; have KS6 := Kept.mk (KS5.out.app Khs5.out ho6 hg6); clear ho6 hg6)
        have Khs6 : Kept (w.heap.size ≤ w6.heap.size) := ⟨KS6.out.bel.size⟩
        have KS6' := Kept.mk (KS6.out.alloc Khs6.out (.cells #[.int .u8 0] 5))
        have Khs6' : Kept (w.heap.size ≤ (w6.alloc (.cells #[.int .u8 0] 5)).heap.size) := ⟨KS6'.out.bel.size⟩
        have Knl := Kept.mk (strL_length nm)
        clear KS5 c1
        generalize strL nm = NL at *
        go_upto_region 12 with (at_builtin; refine wpList_append_rd _ rfl _ _ 27 rfl .u8 anyB 1 w.heap.size 5 i0 z0 Tryz.underlying27 hi hz hsz hbb hc (by omega) _ (TL ++ OS ++ [32] ++ NL) rfl KS6'.out.own _ [0] rfl (Rd.one .u8 _ 0 _) (by have := KLen.out; have := Knl.out; simp only [List.length_append, List.length_singleton]; omega) Khs6'.out ?_; intro p7 w7 ho7 hg7 ha7; have KS7 := Kept.mk (KS6'.out.app Khs6'.out ho7 hg7); clear ho7 hg7)
        have Khs7 : Kept (w.heap.size ≤ w7.heap.size) := ⟨KS7.out.bel.size⟩
        have KRd7 := Kept.mk (KRi.out w7 KS7.out.blk)
        have hsl := slice32 w7 wr.heap.size 2
        clear KS6 KS6'
        go_wp2_with (at_builtin; refine wpList_append_rd _ rfl _ _ 27 rfl .u8 anyB 1 w.heap.size 5 i0 z0 Tryz.underlying27 hi hz hsz hbb hc (by omega) _ (TL ++ OS ++ [32] ++ NL ++ [0]) rfl KS7.out.own _ IDS rfl KRd7.out (by have := KLen.out; have := Knl.out; have := K32.out; simp only [List.length_append, List.length_singleton]; omega) Khs7.out ?_; intro p8 w8 ho8 hg8 ha8; have KS8 := Kept.mk (KS7.out.app Khs7.out ho8 hg8); clear ho8 hg8)
        go_roundw
        case rel =>
          refine ⟨k + 1, by omega, by go_num, ?_, KS8.out.bel⟩
          rw [KSt.out, Ken.out]
          have := KS8.out.own
          simpa only [List.append_assoc] using this
        case measure => simp [intOf]; omega
      · have hki : ¬ (k : Int) < (es.length : Int) := by omega
        have KF : Kept (Own .u8 5 wr w.heap.size (.slice pa (treL (es.take k)).length pc) (putL es)) := ⟨by
          have e : es.take k = es := List.take_of_length_le (by omega)
          rw [KPL.out]
          rw [e] at how ⊢
          exact how⟩
        clear how hbel
        generalize treL (es.take k) = TL at *
        go_wp2
        go_ret2
        exact ⟨_, rfl, KF.out, KBr.out⟩
  · have hd : (E != 0) = true := by simpa using h0
    have KF : Kept (putL es = []) := ⟨by rw [KP.out, if_neg h0]⟩
    clear h0 KP KT
    go_wp2
    go_ret2
    exact ⟨_, rfl, by rw [KF.out]; exact Own.nil _ _ _ _, KB1.out⟩


theorem strL_append (s t : ByteArray) : strL (s ++ t) = strL s ++ strL t := by
  unfold strL
  rw [ByteArray.data_append, Array.toList_append, List.map_append]
theorem wp_append_s {w : World} {o : Oper} {a : Act} {K : Act → World → Prop} {Q : Exit → Act → World → Prop} (sl x : Operand)
    (ho : o.op = .call { callee := .builtin .append, args := #[sl, x], argTypes := #[27, 9] })
    (base : Nat) (v : Value) (xs : List Int) (hs : a.eval sl = v) (hown : Own .u8 5 w base v xs) (s : ByteArray) (hx : a.eval x = .string s)
    (hbytes : xs.length + s.size ≤ 140737488355328) (hbase : base ≤ w.heap.size)
    (h : ∀ v' w', Own .u8 5 w' base v' (xs ++ strL s) → w.grownBy w' v.ownBlock → K (a.put o.dst v') w') : o.wp Tryz.prog a w K Q := by
  obtain ⟨i, hi, hz, hsz, hb⟩ := info8z
  obtain ⟨v', w', hr, h2, h3, -⟩ := Lib.run_append_own_string (P := Tryz.prog) w base 27 9 o.type 5 i Tryz.underlying27 Tryz.underlying9 hi hz hsz hb v xs.length (cellsK .u8 xs) hown s (by unfold maxLen; omega) hbytes hbase
  unfold Oper.wp execOp
  simp only [ho, resolve, invoke, builtin, Sem.run_bind, Sem.run_pure, Result.andThen_ok, List.map_toArray, List.map_cons, List.map_nil, hs, hx, hr]
  refine h v' w' ?_ h3
  unfold Own
  rw [List.length_append, strL_length, cellsK_append, cells_strL]
  exact h2
theorem exec_cat {a : Act} {o : Oper} {W : World} (x y : Operand) (ho : o.op = .binOp .add 9 x y 9) (s t : ByteArray) (hx : a.eval x = .string s) (hy : a.eval y = .string t) (hb : s.size + t.size ≤ 9223372036854775807) : (execOp a.eval o).run Tryz.prog W = .ok (.value (.string (s ++ t))) W := by
  unfold execOp
  have h := run_string_add_sum (P := Tryz.prog) W s t (by omega)
  simp only [ho, hx, hy, Sem.run_bind]
  first
    | (simp [binOp, eqGuard, h]; done)
    | (simp only [binOp]; simp [h])
theorem ids_range {W : World} {g : Nat} {e : EnC} (hb : W.heap[g]? = some (.cells e.l.toArray 33)) : W.rangeAt g 2 (cellsK .u8 e.ids) := fun j u hu => by
  rw [cell_of_row W g (2 + j) _ _ (0, 0) hb, List.getElem?_toArray]
  unfold EnC.l
  rw [show 2 + j = j + 2 by omega, List.getElem?_cons_succ, List.getElem?_cons_succ]
  exact hu
theorem id_box (w : World) {ids : List Int} (h : ids.length = 32) : ∃ w1, w.alloc (.cells (cellsK .u8 ids).toArray 31) = w1 ∧ Below w.heap.size w w1 ∧ Rd .u8 anyB w1 (.slice (some ⟨w.heap.size, 0, none⟩) 32 32) ids := by
  refine ⟨_, rfl, (Below.refl _ _).alloc (Nat.le_refl _) _, ⟨some ⟨w.heap.size, 0, none⟩, 32, by rw [h], by rw [h]; omega, by unfold maxLen; omega, (fun h => by cases h), fun _ => ⟨w.heap.size, 0, rfl, by simp, trivial, fun i hi => ?_⟩⟩⟩
  rw [Nat.zero_add]
  refine alloc_cell _ _ _ _ _ ?_
  unfold cellsK
  simp [List.getD, List.getElem?_eq_getElem hi]

set_option maxHeartbeats 4000000 in
set_option maxRecDepth 100000 in
theorem dTree_any (v : Value) (es : List EnC) (w : World) (hg : Gv w) (hr : RdE w v es) (hl : es.length ≤ 1048576) (hts : tsF es ≤ 100000000) :
    Calls Tryz.prog 41 #[v] w fun e w' => ∃ v', e = .returned v' ∧ Own .u8 5 w' w.heap.size v' (treL es) ∧ Below w.heap.size w w' := by
  have KG := Kept.mk hg
  obtain ⟨a, c, rfl, hlc, hok, hrd⟩ := hr
  have KR := Kept.mk hrd
  have KK := Kept.mk hok
  obtain ⟨i0, z0, hi, hz, hsz, hbb, hc⟩ := info8
  have Kts := Kept.mk hts
  clear hg hok hrd hts
  go_enter Tryz.func41, Tryz.ntmps41
  go_wp2
  go_loopw [3, 9] (fun pv kv wr => ∃ k : Nat, k ≤ es.length ∧ kv = .int .i64 k ∧ Own .u8 5 wr w.heap.size pv (treL (es.take k)) ∧ Below w.heap.size w wr) (fun _ kv _ => es.length - (intOf kv).toNat)
  case atStart => exact ⟨0, Nat.zero_le _, rfl, Own.nil _ _ _ _, Below.refl _ _⟩
  case round =>
    obtain ⟨k, hk, rfl, how, hbel⟩ := hrel
    have KOr := Kept.mk how
    have KBr := Kept.mk hbel
    obtain ⟨pa, pc, rfl, -, -, -⟩ := how.rd.form
    by_cases hlt : k < es.length
    · have hki : (k : Int) < (es.length : Int) := by omega
      obtain ⟨b, off, rfl, hbl, hrg⟩ := KR.out (by omega)
      have hrow : wr.rangeAt b (off + k * 34) (es[k]'hlt).l := fun j u hu => by
        rw [hbel.cell (p := ⟨b, off + k * 34 + j, none⟩) hbl]
        exact hrg k hlt j u hu
      have hoke := KK.out _ (List.getElem_mem hlt)
      have h34 := EnC.len hoke
      have hones := EnC.ones (es[k]'hlt)
      have hsum := tsF_take KK.out hlt
      have htl := treL_len (es := es.take k) (fun e he => KK.out e (List.mem_of_mem_take he))
      have KSt := Kept.mk (treL_step es hlt)
      have Ken : Kept (entL (es[k]'hlt) = octS (es[k]'hlt).m ++ [32] ++ strL (es[k]'hlt).nm ++ [0] ++ (es[k]'hlt).ids) := ⟨rfl⟩
      have hosz := octS_size (es[k]'hlt).m
      have hosl := strL_strOf (octS_bytes hoke.2.2.1 hoke.2.2.2.1)
      obtain ⟨x2, hx2, hB2, -, -⟩ := EnC.box wr (es[k]'hlt)
      have hblk : x2.heap[wr.heap.size]? = some (.cells (es[k]'hlt).l.toArray 33) := by rw [← hx2]; exact heap_alloc_new wr _
      have hs0 : w.heap.size ≤ wr.heap.size := hbel.size
      have hs2 : w.heap.size ≤ x2.heap.size := Nat.le_trans hs0 hB2.size
      have hS2 : StB w x2 w.heap.size (.slice pa (treL (es.take k)).length pc) (treL (es.take k)) wr.heap.size (es[k]'hlt).l.toArray :=
        ⟨how.later hB2 (Nat.le_refl _), hblk, hbel.trans (hB2.mono hs0)⟩
      have KS2 := Kept.mk hS2
      have KMd : Kept (∀ W, Below w.heap.size w W → Calls Tryz.prog 60 #[.int .i64 (es[k]'hlt).m, .int .i64 8] W fun e w' => e = .returned (.string (strOfNums (octS (es[k]'hlt).m))) ∧ Below W.heap.size W w') := ⟨fun W hW => fmt_all (es[k]'hlt).m W (KG.out.later hW) hoke.2.2.1 hoke.2.2.2.1⟩
      have e2 : IntKind.i64.wrap ((k : Int) + 1) = (k : Int) + 1 := wr64 (by omega) (by omega)
      have Kts' := Kts.out
      have KLen : Kept ((treL (es.take k)).length + (octS (es[k]'hlt).m).length + 1 + (es[k]'hlt).nm.size + 1 + 32 ≤ 100000000) := ⟨by omega⟩
      have KRi : Kept (∀ W : World, W.heap[wr.heap.size]? = some (.cells (es[k]'hlt).l.toArray 33) → W.rangeAt wr.heap.size 2 (cellsK .u8 (es[k]'hlt).ids)) := ⟨fun W h => ids_range h⟩
      have K32 : Kept ((es[k]'hlt).ids.length = 32) := ⟨hoke.1⟩
      have KCs : Kept (∀ W : World, W.heap[wr.heap.size]? = some (.cells (es[k]'hlt).l.toArray 33) → W.cell? ⟨wr.heap.size, 0, none⟩ = some (.int .i64 (es[k]'hlt).m) ∧ W.cell? ⟨wr.heap.size, 1, none⟩ = some (.string (es[k]'hlt).nm)) := ⟨fun W h => ⟨by rw [cell_of_row W _ 0 _ _ (0, 0) h]; rfl, by rw [cell_of_row W _ 1 _ _ (0, 0) h]; rfl⟩⟩
      clear hbel hrg hoke hsum htl hS2 hblk hB2 how hs0 Kts'
      obtain ⟨CL, hCL⟩ : ∃ CL, (es[k]'hlt).l = CL := ⟨_, rfl⟩
      rw [hCL] at hrow h34 hones hx2 KS2 KRi KCs
      clear hCL
      have KosL : Kept (strL (strOfNums (octS (es[k]'hlt).m)) = octS (es[k]'hlt).m) := ⟨hosl⟩
      have hoz : (strOfNums (octS (es[k]'hlt).m)).size = (octS (es[k]'hlt).m).length := hosz.1
      clear hosl hosz
      generalize strOfNums (octS (es[k]'hlt).m) = T at *
      generalize octS (es[k]'hlt).m = OS at *
      generalize (es[k]'hlt).m = m at *
      generalize (es[k]'hlt).nm = nm at *
      generalize (es[k]'hlt).ids = IDS at *
      generalize treL (es.take k) = TL at *
      generalize Value.slice pa TL.length pc = pv at *
      have hR := Kept.mk hrow
      have KI : Kept ((Tryz.prog.info? 33).map (·.size) = some CL.length) := ⟨by rw [h34]; kernel_rfl⟩
      have KI2 : Kept ((Tryz.prog.info? 33).map (·.size) = some CL.toArray.size) := ⟨by rw [List.size_toArray]; exact KI.out⟩
      have KS : Kept (CL.toArray.size = 34) := ⟨by rw [List.size_toArray]; exact h34⟩
      have KO : Kept (CL.toArray.all (·.oneCell') = true) := ⟨by rw [Array.all_eq_true_iff_forall_mem]; intro x hx; exact hones x (by simpa using hx)⟩
      have Khz := Kept.mk hoz
      have Khs2 := Kept.mk hs2
      clear hrow h34 hones hoz hs2
      go_upto_region 5 with (first | (refine wpList_load_mid rfl 33 _ rfl b (off + k * 34) rfl CL _ hR.out Tryz.underlying33 rfl KI.out ?_) | (refine BigFrame.wpList_want rfl (fun K hK => wp_store_row 33 _ _ rfl wr.heap.size CL.toArray rfl rfl 33 _ (heap_alloc_new wr _) KI2.out (by rw [KS.out]; rfl) KO.out (hK _ _ ?_)); rw [World.setRow_alloc_new]))
      try rw [hx2]
      clear hx2
      have KSD := Kept.mk (KS2.out.later Khs2.out (Below.refl x2.heap.size x2).drew)
      have hS0 : x2.drew.heap[wr.heap.size]? = some (.cells CL.toArray 33) := KSD.out.blk
      refine wp_region_noPanic ?_
      refine wp_region_held_drew (S := fun W => W.heap[wr.heap.size]? = some (.cells CL.toArray 33)) (by kernel_rfl) hS0 (fun hHeld => ?_)
      generalize x2.drew = xD at *
      refine wpAnyH_takeD (i := 0) (d := some 13) (v := pv) rfl rfl (by kernel_rfl) (by kernel_rfl) (by kernel_rfl) (fun _ _ _ h => h) (Or.inl ⟨by rfl, fun W hSw => by (try dsimp only at hSw); go_simp⟩) (by assumption) ?_
      simp only [Act.put, List.setIfInBounds_toArray, List.set_cons_zero, List.set_cons_succ]
      refine wpAnyH_takeD (i := 1) (d := some 14) (v := .pointer (some ⟨wr.heap.size, 0, none⟩)) rfl rfl (by kernel_rfl) (by kernel_rfl) (by kernel_rfl) (fun _ _ _ h => h) (Or.inl ⟨by rfl, fun W hSw => by (try dsimp only at hSw); go_simp⟩) (by assumption) ?_
      simp only [Act.put, List.setIfInBounds_toArray, List.set_cons_zero, List.set_cons_succ]
      refine wpAnyH_takeD (i := 2) (d := some 15) (v := .int .i64 m) rfl rfl (by kernel_rfl) (by kernel_rfl) (by kernel_rfl) (fun _ _ _ h => h) (Or.inl ⟨by rfl, fun W hSw => by obtain ⟨c0, c1⟩ := KCs.out W hSw; go_simp⟩) (by assumption) ?_
      simp only [Act.put, List.setIfInBounds_toArray, List.set_cons_zero, List.set_cons_succ]
      refine wpAnyH_takeD (i := 5) (d := some 18) (v := .pointer (some ⟨wr.heap.size, 1, none⟩)) rfl rfl (by kernel_rfl) (by kernel_rfl) (by kernel_rfl) (fun _ _ _ h => h) (Or.inl ⟨by rfl, fun W hSw => by (try dsimp only at hSw); go_simp⟩) (by assumption) ?_
      simp only [Act.put, List.setIfInBounds_toArray, List.set_cons_zero, List.set_cons_succ]
      refine wpAnyH_takeD (i := 6) (d := some 19) (v := .string nm) rfl rfl (by kernel_rfl) (by kernel_rfl) (by kernel_rfl) (fun _ _ _ h => h) (Or.inl ⟨by rfl, fun W hSw => by obtain ⟨c0, c1⟩ := KCs.out W hSw; go_simp⟩) (by assumption) ?_
      simp only [Act.put, List.setIfInBounds_toArray, List.set_cons_zero, List.set_cons_succ]
      refine wpAnyH_ready (rs := [3]) (by kernel_rfl) (by simp) ?_
      refine AllReadyH.cons (o := _) rfl (fun K hK => ?_) AllReadyH.nil
      go_simp
      refine Calls.mono (KMd.out _ KSD.out.bel) (fun e x3 hp3 => ?_)
      obtain ⟨rfl, hb3⟩ := hp3
      have KhsD : Kept (w.heap.size ≤ xD.heap.size) := ⟨KSD.out.bel.size⟩
      have KS3 := Kept.mk (KSD.out.later KhsD.out hb3)
      have Khs3 : Kept (w.heap.size ≤ x3.heap.size) := ⟨KS3.out.bel.size⟩
      have hS3 := KS3.out.blk
      refine hK.out _ _ hS3 (fun hHeld1 => ?_)
      clear hK K hHeld hS0 hb3 KMd KSD
      refine wpAnyH_takeD (i := 4) (d := some 17) (v := .string (T ++ ⟨#[32]⟩)) rfl rfl (by kernel_rfl) (by kernel_rfl) (by kernel_rfl) (fun _ _ _ h => h) (Or.inl ⟨by rfl, fun W hSw => exec_cat _ _ rfl (T) (⟨#[32]⟩) rfl rfl (by have := KLen.out; have := Khz.out; (try simp only [ByteArray.size_append]); first | (show T.size + 1 ≤ _; omega) | (show T.size + 1 + nm.size ≤ _; omega) | (show T.size + 1 + nm.size + 1 ≤ _; omega))⟩) (by assumption) ?_
      simp only [Act.put, List.setIfInBounds_toArray, List.set_cons_zero, List.set_cons_succ]
      refine wpAnyH_takeD (i := 7) (d := some 20) (v := .string (T ++ ⟨#[32]⟩ ++ nm)) rfl rfl (by kernel_rfl) (by kernel_rfl) (by kernel_rfl) (fun _ _ _ h => h) (Or.inl ⟨by rfl, fun W hSw => exec_cat _ _ rfl (T ++ ⟨#[32]⟩) (nm) rfl rfl (by have := KLen.out; have := Khz.out; (try simp only [ByteArray.size_append]); first | (show T.size + 1 ≤ _; omega) | (show T.size + 1 + nm.size ≤ _; omega) | (show T.size + 1 + nm.size + 1 ≤ _; omega))⟩) (by assumption) ?_
      simp only [Act.put, List.setIfInBounds_toArray, List.set_cons_zero, List.set_cons_succ]
      refine wpAnyH_takeD (i := 8) (d := some 21) (v := .string (T ++ ⟨#[32]⟩ ++ nm ++ ⟨#[0]⟩)) rfl rfl (by kernel_rfl) (by kernel_rfl) (by kernel_rfl) (fun _ _ _ h => h) (Or.inl ⟨by rfl, fun W hSw => exec_cat _ _ rfl (T ++ ⟨#[32]⟩ ++ nm) (⟨#[0]⟩) rfl rfl (by have := KLen.out; have := Khz.out; (try simp only [ByteArray.size_append]); first | (show T.size + 1 ≤ _; omega) | (show T.size + 1 + nm.size ≤ _; omega) | (show T.size + 1 + nm.size + 1 ≤ _; omega))⟩) (by assumption) ?_
      simp only [Act.put, List.setIfInBounds_toArray, List.set_cons_zero, List.set_cons_succ]
      refine wpAnyH_ready (rs := [9]) (by kernel_rfl) (by simp) ?_
      refine AllReadyH.cons (o := _) rfl (fun K hK => ?_) AllReadyH.nil
      refine wp_append_s _ _ rfl w.heap.size pv TL rfl KS3.out.own _ rfl (by have := KLen.out; have := Khz.out; simp only [ByteArray.size_append]; show TL.length + (T.size + 1 + nm.size + 1) ≤ _; omega) Khs3.out (fun p4 w4 ho4 hg4 => ?_)
      have KS4 := Kept.mk (KS3.out.app Khs3.out ho4 hg4)
      have hS4 := KS4.out.blk
      refine hK.out _ _ hS4 (fun hHeld2 => ?_)
      clear hK K hHeld1 hS3 ho4 hg4
      refine wpAnyH_takeD (i := 10) (d := some 3) (v := p4) rfl rfl (by kernel_rfl) (by kernel_rfl) (by kernel_rfl) (fun _ _ _ h => h) (Or.inl ⟨by rfl, fun W hSw => by (try dsimp only at hSw); go_simp⟩) (by assumption) ?_
      simp only [Act.put, List.setIfInBounds_toArray]
      refine wpAnyH_done (by kernel_rfl) ?_ _
      refine NoPanic.normal ?_
      clear hHeld2
      rw [strL_append, strL_append, strL_append, KosL.out] at KS4
      have Khs4 : Kept (w.heap.size ≤ w4.heap.size) := ⟨KS4.out.bel.size⟩
      have KRd := Kept.mk (KRi.out w4 hS4)
      obtain ⟨w5, hw5, hB5, hR5⟩ := id_box w4 K32.out
      have KS5 := Kept.mk (KS4.out.later Khs4.out hB5)
      have Khs5 : Kept (w.heap.size ≤ w5.heap.size) := ⟨KS5.out.bel.size⟩
      have KR5 := Kept.mk hR5
      have KIi : Kept ((Tryz.prog.info? 31).map (·.size) = some (cellsK .u8 IDS).length) := ⟨by rw [cellsK_length, K32.out]; kernel_rfl⟩
      have KIa : Kept ((Tryz.prog.info? 31).map (·.size) = some (cellsK .u8 IDS).toArray.size) := ⟨by rw [List.size_toArray]; exact KIi.out⟩
      have KIz : Kept ((cellsK .u8 IDS).toArray.size = 32) := ⟨by rw [List.size_toArray, cellsK_length, K32.out]⟩
      have KIo : Kept ((cellsK .u8 IDS).toArray.all (·.oneCell') = true) := ⟨by rw [Array.all_eq_true_iff_forall_mem]; intro x hx; exact cellsK_one .u8 _ x (by simpa using hx)⟩
      have hsl := slice32 w5 w4.heap.size 0
      have Knl := Kept.mk (strL_length nm)
      have Kfin : Kept (TL ++ (OS ++ strL ⟨#[32]⟩ ++ strL nm ++ strL ⟨#[0]⟩) ++ IDS = TL ++ (OS ++ [32] ++ strL nm ++ [0] ++ IDS)) := ⟨by simp [strL]⟩
      have Kl2 : Kept ((TL ++ (OS ++ strL ⟨#[32]⟩ ++ strL nm ++ strL ⟨#[0]⟩)).length ≤ 100000000) := ⟨by have := KLen.out; have h1 : (strL ⟨#[32]⟩).length = 1 := rfl; have h2 : (strL ⟨#[0]⟩).length = 1 := rfl; simp only [List.length_append, h1, h2, Knl.out]; omega⟩
      clear hB5 hR5 hS4 KS3
      generalize TL ++ (OS ++ strL ⟨#[32]⟩ ++ strL nm ++ strL ⟨#[0]⟩) = X4 at *
      generalize cellsK .u8 IDS = CI at *
      go_upto_region 7 with (first | (refine wpList_load_mid rfl 31 _ rfl wr.heap.size 2 rfl CI _ KRd.out Tryz.underlying31 rfl KIi.out ?_) | (refine BigFrame.wpList_want rfl (fun K hK => wp_store_row 31 _ _ rfl w4.heap.size CI.toArray rfl rfl 31 _ (heap_alloc_new w4 _) KIa.out (by rw [KIz.out]; rfl) KIo.out (hK _ _ ?_)); rw [World.setRow_alloc_new]))
      try rw [hw5]
      clear hw5
      go_wp2_with (at_builtin; refine wpList_append_rd _ rfl _ _ 27 rfl .u8 anyB 1 w.heap.size 5 i0 z0 Tryz.underlying27 hi hz hsz hbb hc (by omega) _ X4 rfl KS5.out.own _ IDS rfl KR5.out (by have := Kl2.out; have := K32.out; omega) Khs5.out ?_; intro p8 w8 ho8 hg8 ha8; have KS8 := Kept.mk (KS5.out.app Khs5.out ho8 hg8); clear ho8 hg8 ha8)
      go_roundw
      case rel =>
        refine ⟨k + 1, by omega, by go_num, ?_, KS8.out.bel⟩
        rw [KSt.out, Ken.out, ← Kfin.out]
        exact KS8.out.own
      case measure => simp [intOf]; omega
    · have hki : ¬ (k : Int) < (es.length : Int) := by omega
      have KF : Kept (Own .u8 5 wr w.heap.size (.slice pa (treL (es.take k)).length pc) (treL es)) := ⟨by
        have e : es.take k = es := List.take_of_length_le (by omega)
        rw [e] at how ⊢
        exact how⟩
      clear how hbel
      generalize treL (es.take k) = TL at *
      go_wp2
      go_ret
      exact ⟨_, rfl, KF.out, KBr.out⟩


def Un (es : List EnC) (k : Nat) : Prop := ∀ i j (hi : i < es.length) (hj : j < es.length), j < i → i < k → (es[i]'hi).nm ≠ (es[j]'hj).nm
theorem un_smB {es : List EnC} (h : Un es es.length) : smB es = false := by
  cases hs : smB es with
  | false => rfl
  | true =>
    exfalso
    refine (smB_iff es).1 hs ?_
    rw [List.Nodup, List.pairwise_map, List.pairwise_iff_getElem]
    intro i j hi hj hij e
    exact h j i hj hi hij hj (by rcases h1 : (es[j]'hj).nm with ⟨a⟩; rcases h2 : (es[i]'hi).nm with ⟨b⟩; rw [h1, h2] at e; simp only at e; exact congrArg ByteArray.mk (Array.toList_inj.1 e.symm))
theorem same_smB {es : List EnC} {i j : Nat} (hi : i < es.length) (hj : j < es.length) (hij : j < i) (e : (es[i]'hi).nm = (es[j]'hj).nm) : smB es = true := by
  rw [smB_iff]
  intro h
  rw [List.Nodup, List.pairwise_map, List.pairwise_iff_getElem] at h
  exact h j i hj hi hij (by rw [e])
set_option maxHeartbeats 2000000 in
set_option maxRecDepth 100000 in
theorem dtwice_any (v : Value) (es : List EnC) (w : World) (hr : RdE w v es) (hl : es.length ≤ 4096) :
    Calls Tryz.prog 81 #[v] w fun e w' => e = .returned (.bool (smB es)) ∧ Below w.heap.size w w' := by
  obtain ⟨a, c, rfl, hlc, hok, hrd⟩ := hr
  have KR := Kept.mk hrd
  have hci : (es.length : Int) ≤ (c : Int) := by omega
  have KU : Kept (Un es es.length → smB es = false) := ⟨un_smB⟩
  have KD : Kept (∀ i j (hi : i < es.length) (hj : j < es.length), j < i → (es[i]'hi).nm = (es[j]'hj).nm → smB es = true) := ⟨fun i j hi hj h e => same_smB hi hj h e⟩
  clear hrd hok
  generalize smB es = SB at *
  go_enter Tryz.func81, Tryz.ntmps81
  go_wp2
  go_loopw [7] (fun iv wr => ∃ k : Nat, k ≤ es.length ∧ iv = .int .i64 k ∧ Un es k ∧ Below w.heap.size w wr) (fun iv _ => es.length - (intOf iv).toNat)
  case atStart => exact ⟨0, Nat.zero_le _, rfl, fun i j _ _ _ h => absurd h (by omega), Below.refl _ _⟩
  case round =>
    obtain ⟨k, hk, rfl, hun, hbel⟩ := hrel
    have KBr := Kept.mk hbel
    have KUn := Kept.mk hun
    clear hun
    by_cases hlt : k < es.length
    · have hki : (k : Int) < (es.length : Int) := by omega
      have hke : (k : Int) ≤ (es.length : Int) := by omega
      have hkc : (k : Int) ≤ (c : Int) := by omega
      have e2 : IntKind.i64.wrap ((k : Int) + 1) = (k : Int) + 1 := wr64 (by omega) (by omega)
      obtain ⟨b, off, rfl, hbl, hrg⟩ := KR.out (by omega)
      have KRg := Kept.mk hrg
      have Kbl := Kept.mk hbl
      obtain ⟨wm, hwm⟩ : ∃ wm, wm = wr := ⟨_, rfl⟩
      clear hbel hrg hbl
      go_wp2
      go_loopw [14] (fun jv wq => ∃ j : Nat, j ≤ k ∧ jv = .int .i64 j ∧ (∀ i (hi : i < es.length), i < j → (es[k]'hlt).nm ≠ (es[i]'hi).nm) ∧ Below w.heap.size w wq) (fun jv _ => k - (intOf jv).toNat)
      case atStart => exact ⟨0, Nat.zero_le _, rfl, fun i _ h => absurd h (by omega), KBr.out⟩
      case round =>
        obtain ⟨j, hj, rfl, hne, hbq⟩ := hrel
        have KBq := Kept.mk hbq
        have KNe := Kept.mk hne
        clear hne
        by_cases hjl : j < k
        · have hji : (j : Int) < (k : Int) := by omega
          have hjn : (j : Int) < (es.length : Int) := by omega
          have hje : j < es.length := by omega
          have e3 : IntKind.i64.wrap ((j : Int) + 1) = (j : Int) + 1 := wr64 (by omega) (by omega)
          have hbr : b < wr.heap.size := Nat.lt_of_lt_of_le Kbl.out hbq.size
          have KcA : Kept (∀ W, CC wr W → W.cell? ⟨b, off + k * 34 + 1, none⟩ = some (.string (es[k]'hlt).nm)) := ⟨fun W hW => by
            rw [hW.cell (p := ⟨b, off + k * 34 + 1, none⟩) hbr, hbq.cell (p := ⟨b, off + k * 34 + 1, none⟩) Kbl.out]
            exact KRg.out k hlt 1 _ rfl⟩
          have KcB : Kept (∀ W, CC wr W → W.cell? ⟨b, off + j * 34 + 1, none⟩ = some (.string (es[j]'hje).nm)) := ⟨fun W hW => by
            rw [hW.cell (p := ⟨b, off + j * 34 + 1, none⟩) hbr, hbq.cell (p := ⟨b, off + j * 34 + 1, none⟩) Kbl.out]
            exact KRg.out j hje 1 _ rfl⟩
          have KDd := Kept.mk (KD.out k j hlt hje hjl)
          have KNn : Kept ((es[k]'hlt).nm ≠ (es[j]'hje).nm → ∀ i (hi : i < es.length), i < j + 1 → (es[k]'hlt).nm ≠ (es[i]'hi).nm) := ⟨fun h i hi hij => by
            rcases Nat.lt_or_ge i j with h2 | h2
            · exact KNe.out i hi h2
            · obtain rfl : i = j := by omega
              exact h⟩
          obtain ⟨q, hq⟩ : ∃ q, ((es[k]'hlt).nm.toList == (es[j]'hje).nm.toList) = q := ⟨_, rfl⟩
          have Kqe := Kept.mk hq
          have Kqd : Kept (q = decide ((es[k]'hlt).nm = (es[j]'hje).nm)) := ⟨by rw [← hq, str_eq]⟩
          clear hbq hq
          generalize (es[k]'hlt).nm = nA at *
          generalize (es[j]'hje).nm = nB at *
          clear hbr
          go_upto_region 7 with fail
          refine wp_region_quietC (C := CC wr) (by kernel_rfl) (by kernel_rfl) (Below.refl _ _).drew ?_
          go_big_quiet_step ((intro _; rfl))
          go_big_quiet_step ((intro _; rfl))
          refine BigFrame.wpQuiet_want rfl (fun K hK => quiet_run (v := .pointer (some ⟨b, off + k * 34, none⟩)) (fun W hW => by go_simp; all_goals first | rfl | (intro hneg; exfalso; omega)) (hK _ ?_))
          clear hK K
          simp only [Act.put, List.setIfInBounds_toArray, List.set_cons_zero, List.set_cons_succ]
          refine BigFrame.wpQuiet_want rfl (fun K hK => quiet_run (v := .pointer (some ⟨b, off + k * 34 + 1, none⟩)) (fun W hW => by go_simp; all_goals first | rfl | (intro hneg; exfalso; omega)) (hK _ ?_))
          clear hK K
          simp only [Act.put, List.setIfInBounds_toArray, List.set_cons_zero, List.set_cons_succ]
          refine BigFrame.wpQuiet_want rfl (fun K hK => quiet_run (v := .string nA) (fun W hW => by have := KcA.out W hW; go_simp) (hK _ ?_))
          clear hK K
          simp only [Act.put, List.setIfInBounds_toArray, List.set_cons_zero, List.set_cons_succ]
          go_big_quiet_step ((intro _; rfl))
          go_big_quiet_step ((intro _; rfl))
          refine BigFrame.wpQuiet_want rfl (fun K hK => quiet_run (v := .pointer (some ⟨b, off + j * 34, none⟩)) (fun W hW => by go_simp; all_goals first | rfl | (intro hneg; exfalso; omega)) (hK _ ?_))
          clear hK K
          simp only [Act.put, List.setIfInBounds_toArray, List.set_cons_zero, List.set_cons_succ]
          refine BigFrame.wpQuiet_want rfl (fun K hK => quiet_run (v := .pointer (some ⟨b, off + j * 34 + 1, none⟩)) (fun W hW => by go_simp; all_goals first | rfl | (intro hneg; exfalso; omega)) (hK _ ?_))
          clear hK K
          simp only [Act.put, List.setIfInBounds_toArray, List.set_cons_zero, List.set_cons_succ]
          refine BigFrame.wpQuiet_want rfl (fun K hK => quiet_run (v := .string nB) (fun W hW => by have := KcB.out W hW; go_simp) (hK _ ?_))
          clear hK K
          simp only [Act.put, List.setIfInBounds_toArray, List.set_cons_zero, List.set_cons_succ]
          refine BigFrame.wpQuiet_want rfl (fun K hK => quiet_run (v := .bool q) (fun W hW => by have := Kqe.out; go_simp) (hK _ ?_))
          clear hK K
          simp only [Act.put, List.setIfInBounds_toArray, List.set_cons_zero, List.set_cons_succ]
          refine wpQuiet_nil ?_
          intro w3 hw3
          have KB3 := Kept.mk (KBq.out.trans (Below.mono hw3 KBq.out.size))
          clear hw3
          cases q with
          | true =>
            have KF : Kept (SB = true) := ⟨KDd.out (of_decide_eq_true Kqd.out.symm)⟩
            go_wp2
            go_ret
            exact ⟨by rw [KF.out]; rfl, KB3.out⟩
          | false =>
            have KF := Kept.mk (KNn.out (of_decide_eq_false Kqd.out.symm))
            go_wp2
            go_roundw
            case rel => exact ⟨j + 1, by omega, by go_num, KF.out, KB3.out⟩
            case measure => simp [intOf]; omega
        · have hji : ¬ (j : Int) < (k : Int) := by omega
          obtain rfl : j = k := by omega
          have KF : Kept (Un es (j + 1)) := ⟨fun i i' hi hi' h1 h2 => by
            rcases Nat.lt_or_ge i j with h3 | h3
            · exact KUn.out i i' hi hi' h1 h3
            · obtain rfl : i = j := by omega
              exact KNe.out i' hi' h1⟩
          clear hbq
          go_wp2
          go_roundw
          case rel => exact ⟨j + 1, by omega, by go_num, KF.out, KBq.out⟩
          case measure => simp [intOf]; omega
    · have hki : ¬ (k : Int) < (es.length : Int) := by omega
      have KF : Kept (SB = false) := ⟨KU.out (by
        have hkl : k = es.length := by omega
        rw [← hkl]
        exact KUn.out)⟩
      clear hbel
      go_wp2
      go_ret
      exact ⟨by rw [KF.out]; rfl, KBr.out⟩


def fmB (es : List EnC) (k : Nat) : Bool := (List.range k).any fun i => noMode (eI es i) || (decide (0 < i) && decide (0 ≤ ordE (eI es (i - 1)) (eI es i)))
theorem fmB_step (es : List EnC) (k : Nat) : fmB es (k + 1) = (fmB es k || noMode (eI es k) || (decide (0 < k) && decide (0 ≤ ordE (eI es (k - 1)) (eI es k)))) := by
  unfold fmB
  rw [List.range_succ, List.any_append]
  simp [Bool.or_assoc]
theorem fmB_all (es : List EnC) : fmB es es.length = (es.any noMode || !riB es) := by
  rw [Bool.eq_iff_iff]
  unfold fmB
  rw [List.any_eq_true, Bool.or_eq_true, List.any_eq_true]
  constructor
  · rintro ⟨i, hi, h⟩
    have hi : i < es.length := by simpa using hi
    rcases Bool.or_eq_true_iff.1 h with h | h
    · exact .inl ⟨eI es i, by rw [eI_get hi]; exact List.getElem_mem hi, h⟩
    · right
      have h1 := of_decide_eq_true (Bool.and_eq_true_iff.1 h).1
      have h2 := of_decide_eq_true (Bool.and_eq_true_iff.1 h).2
      cases hr : riB es with
      | false => rfl
      | true =>
        exfalso
        have := (riB_iff es).1 hr (i - 1) (by omega)
        obtain ⟨j, rfl⟩ : ∃ j, i = j + 1 := ⟨i - 1, by omega⟩
        rw [show j + 1 - 1 = j by omega, eI_get (by omega), eI_get hi] at h2
        simp only [Nat.add_sub_cancel] at this
        omega
  · rintro (⟨e, he, h⟩ | h)
    · obtain ⟨i, hi, rfl⟩ := List.getElem_of_mem he
      exact ⟨i, by simpa using hi, by rw [eI_get hi, h]; rfl⟩
    · have hr : riB es = false := by simpa using h
      have hn : ¬ RiE es := fun hh => by rw [(riB_iff es).2 hh] at hr; cases hr
      unfold RiE at hn
      have : ∃ k, ∃ h : k + 1 < es.length, ¬ ordE (es[k]'(by omega)) es[k + 1] < 0 := Classical.byContradiction fun hc => hn fun k hk => Classical.byContradiction fun hc2 => hc ⟨k, hk, hc2⟩
      obtain ⟨k, hk, hc⟩ := this
      refine ⟨k + 1, by simpa using hk, ?_⟩
      rw [Nat.add_sub_cancel, eI_get (show k < es.length by omega), eI_get hk]
      simp only [Bool.or_eq_true, Bool.and_eq_true, decide_eq_true_eq]
      right
      omega
theorem rorderE_any {a b : EnC} (ha : a.ok) (hb : b.ok) (hn : a.nm.size ≤ 140737488351232) (gn : b.nm.size ≤ 140737488351232) (w : World) :
    Calls Tryz.prog 78 #[.agg a.l.toArray, .agg b.l.toArray] w fun e w' => e = .returned (.int .i64 (ordE a b)) ∧ Below w.heap.size w w' :=
  Nm.rorder_any (EnC.ent ha) (EnC.ent hb) hn gn w
theorem least_tree {es : List EnC} (hl : es.length ≤ 4096) : [if es.any noName = true then 3 else 0, if (es.any noMode || !riB es) = true then 4 else 0, if smB es = true then 8 else 0, if decide (1048576 < tsF es) = true then 2 else 0].foldl lsF 0 = treE es := by
  unfold treE
  have e1 : (4096 < es.length ∨ 1048576 < tsF es) ↔ decide (1048576 < tsF es) = true := by rw [decide_eq_true_iff]; omega
  have e2 : (es.any noMode = true ∨ riB es = false) ↔ (es.any noMode || !riB es) = true := by simp
  simp only [e1, e2]
  generalize decide (1048576 < tsF es) = p1
  generalize es.any noName = p2
  generalize (es.any noMode || !riB es) = p3
  generalize smB es = p4
  revert p1 p2 p3 p4
  decide

set_option maxHeartbeats 4000000 in
set_option maxRecDepth 100000 in
theorem dtree_any (v : Value) (es : List EnC) (w : World) (hg : Gv w) (hr : RdE w v es) (hnm : ∀ e ∈ es, e.nm.size ≤ 140737488351232) (hts : es.length ≤ 4096 → tsF es ≤ 100000000) :
    Calls Tryz.prog 40 #[v] w fun e w' => e = .returned (.int .i64 (treE es)) ∧ Below w.heap.size w w' := by
  have KRd := Kept.mk hr
  have KG := Kept.mk hg
  have KTs := Kept.mk hts
  obtain ⟨a, c, rfl, hlc, hok, hrd⟩ := hr
  have KR := Kept.mk hrd
  have KK := Kept.mk hok
  have KN := Kept.mk hnm
  clear hrd hok hnm hg hts
  by_cases h1 : 4096 < es.length
  · have h1i : (4096 : Int) < (es.length : Int) := by omega
    have KE : Kept (treE es = 2) := ⟨by unfold treE; rw [if_pos (.inl h1)]⟩
    rw [KE.out]
    clear h1
    go_enter Tryz.func40, Tryz.ntmps40
    go_wp2
    go_ret
    exact ⟨rfl, Below.refl _ _⟩
  · have h1i : ¬ (4096 : Int) < (es.length : Int) := by omega
    have hl : es.length ≤ 4096 := by omega
    have KLt := Kept.mk (least_tree hl)
    clear h1
    go_enter Tryz.func40, Tryz.ntmps40
    go_wp2
    go_loopw [3, 4, 12] (fun nv fv iv wr => ∃ (k : Nat) (nb fb : Bool), k ≤ es.length ∧ iv = .int .i64 k ∧ nv = .bool nb ∧ fv = .bool fb ∧ nb = (es.take k).any noName ∧ fb = fmB es k ∧ Below w.heap.size w wr) (fun _ _ iv _ => es.length - (intOf iv).toNat)
    case atStart => exact ⟨0, false, false, Nat.zero_le _, rfl, rfl, rfl, rfl, rfl, Below.refl _ _⟩
    case round =>
      obtain ⟨k, nb, fb, hk, rfl, rfl, rfl, hnb, hfb, hbel⟩ := hrel
      have Knb := Kept.mk hnb
      have Kfb := Kept.mk hfb
      have KBr := Kept.mk hbel
      clear hnb hfb
      by_cases hlt : k < es.length
      · have hki : (k : Int) < (es.length : Int) := by omega
        have e2 : IntKind.i64.wrap ((k : Int) + 1) = (k : Int) + 1 := wr64 (by omega) (by omega)
        obtain ⟨b, off, rfl, hbl, hrg⟩ := KR.out (by omega)
        have hrow : wr.rangeAt b (off + k * 34) (es[k]'hlt).l := fun j u hu => by
          rw [hbel.cell (p := ⟨b, off + k * 34 + j, none⟩) hbl]
          exact hrg k hlt j u hu
        have hoke := KK.out _ (List.getElem_mem hlt)
        have h34 := EnC.len hoke
        have hones := EnC.ones (es[k]'hlt)
        obtain ⟨x2, hx2, hB2, -, -⟩ := EnC.box wr (es[k]'hlt)
        have hblk : x2.heap[wr.heap.size]? = some (.cells (es[k]'hlt).l.toArray 33) := by rw [← hx2]; exact heap_alloc_new wr _
        have hlt2 : wr.heap.size < x2.heap.size := by rw [← hx2]; simp
        have KNs : Kept ((es.take (k + 1)).any noName = ((es.take k).any noName || noName (es[k]'hlt))) := ⟨by rw [List.take_add_one, List.getElem?_eq_getElem hlt, List.any_append]; simp⟩
        have KFs := Kept.mk (fmB_step es k)
        have hBr2 := hbel.trans (hB2.mono hbel.size)
        have KB2 := Kept.mk hBr2
        have KBlk : Kept (∀ W, Below x2.heap.size x2 W → W.heap[wr.heap.size]? = some (.cells (es[k]'hlt).l.toArray 33)) := ⟨fun W hW => by rw [hW.block _ hlt2]; exact hblk⟩
        have KCs : Kept (∀ W, Below x2.heap.size x2 W → W.cell? ⟨wr.heap.size, 0, none⟩ = some (.int .i64 (es[k]'hlt).m) ∧ W.cell? ⟨wr.heap.size, 1, none⟩ = some (.string (es[k]'hlt).nm)) := ⟨fun W hW => by
          have h := KBlk.out W hW
          exact ⟨by rw [cell_of_row W _ 0 _ _ (0, 0) h]; rfl, by rw [cell_of_row W _ 1 _ _ (0, 0) h]; rfl⟩⟩
        have KRs : Kept (∀ W, Below x2.heap.size x2 W → W.rangeAt wr.heap.size 0 (es[k]'hlt).l) := ⟨fun W hW j u hu => by
          rw [Nat.zero_add, cell_of_row W _ j _ _ (0, 0) (KBlk.out W hW)]
          simpa using hu⟩
        have KRg : Kept (∀ W, Below x2.heap.size x2 W → ∀ j (hj : j < es.length), W.rangeAt b (off + j * 34) (es[j]'hj).l) := ⟨fun W hW j hj i u hu => by
          rw [hW.cell (p := ⟨b, off + j * 34 + i, none⟩) (Nat.lt_of_lt_of_le hbl hBr2.size), hBr2.cell (p := ⟨b, off + j * 34 + i, none⟩) hbl]
          exact hrg j hj i u hu⟩
        have KNm := Kept.mk (rname_any (es[k]'hlt).nm x2)
        have KOO : Kept (∀ j, k = j + 1 → ∀ W, Calls Tryz.prog 78 #[.agg (eI es j).l.toArray, .agg (es[k]'hlt).l.toArray] W fun e w' => e = .returned (.int .i64 (ordE (eI es j) (eI es (j + 1)))) ∧ Below W.heap.size W w') := ⟨fun j hj W => by
          subst hj
          rw [eI_get (show j < es.length by omega), eI_get hlt]
          exact rorderE_any (KK.out _ (List.getElem_mem _)) hoke (KN.out _ (List.getElem_mem _)) (KN.out _ (List.getElem_mem _)) W⟩
        have KeI : Kept (eI es k = es[k]'hlt) := ⟨eI_get hlt⟩
        have KnmE : Kept (noName (es[k]'hlt) = !nameF (es[k]'hlt).nm) := ⟨rfl⟩
        have KmoE : Kept (noMode (es[k]'hlt) = !modF (es[k]'hlt).m) := ⟨rfl⟩
        have KOk := Kept.mk hoke
        clear hbel hrg hoke hBr2 hblk hlt2 hB2
        obtain ⟨CL, hCL⟩ : ∃ CL, (es[k]'hlt).l = CL := ⟨_, rfl⟩
        rw [hCL] at hrow h34 hones hx2 KBlk KRs KOO
        clear hCL
        rw [KeI.out] at KFs
        generalize hqm : noMode (es[k]'hlt) = qm0 at *
        generalize hqn : noName (es[k]'hlt) = qn0 at *
        generalize (es[k]'hlt).m = m at *
        generalize (es[k]'hlt).nm = nm at *
        clear hqm hqn
        have hR := Kept.mk hrow
        have KI : Kept ((Tryz.prog.info? 33).map (·.size) = some CL.length) := ⟨by rw [h34]; kernel_rfl⟩
        have KI2 : Kept ((Tryz.prog.info? 33).map (·.size) = some CL.toArray.size) := ⟨by rw [List.size_toArray]; exact KI.out⟩
        have KS : Kept (CL.toArray.size = 34) := ⟨by rw [List.size_toArray]; exact h34⟩
        have KO : Kept (CL.toArray.all (·.oneCell') = true) := ⟨by rw [Array.all_eq_true_iff_forall_mem]; intro x hx; exact hones x (by simpa using hx)⟩
        clear hrow h34 hones
        go_upto_region 7 with (first | (refine wpList_load_mid rfl 33 _ rfl b (off + k * 34) rfl CL _ hR.out Tryz.underlying33 rfl KI.out ?_) | (refine BigFrame.wpList_want rfl (fun K hK => wp_store_row 33 _ _ rfl wr.heap.size CL.toArray rfl rfl 33 _ (heap_alloc_new wr _) KI2.out (by rw [KS.out]; rfl) KO.out (hK _ _ ?_)); rw [World.setRow_alloc_new]))
        try rw [hx2]
        clear hx2
        have Khub : Kept (∀ (nb2 : Bool) (x3 : World), True) := ⟨fun _ _ => trivial⟩
        clear Khub
        cases nb with
        | true =>
          have KNb : Kept (true = (es.take (k + 1)).any noName) := ⟨by rw [KNs.out, ← Knb.out]; rfl⟩
          obtain ⟨x3, hx3⟩ : ∃ x3, x3 = x2 := ⟨_, rfl⟩
          have hx23 : Below x2.heap.size x2 x3 := by rw [hx3]; exact Below.refl _ _
          have KB3 := Kept.mk (KB2.out.trans (hx23.mono KB2.out.size))
          have KCx : Kept (∀ W, CC x3 W → W.cell? ⟨wr.heap.size, 0, none⟩ = some (.int .i64 m) ∧ W.cell? ⟨wr.heap.size, 1, none⟩ = some (.string nm)) := ⟨fun W hW => KCs.out W (hx23.trans (Below.mono hW hx23.size))⟩
          have KBx : Kept (∀ W, CC x3 W → W.rangeAt wr.heap.size 0 CL) := ⟨fun W hW => KRs.out W (hx23.trans (Below.mono hW hx23.size))⟩
          obtain ⟨qm, hqm⟩ : ∃ qm, (!modF m) = qm := ⟨_, rfl⟩
          have Kqm : Kept (qm = qm0) := ⟨by rw [← hqm, KmoE.out]⟩
          have KMo : Kept (∀ W, CC x3 W → Calls Tryz.prog 77 #[.int .i64 m] W fun e w' => e = .returned (.bool (modF m)) ∧ CC x3 w') := ⟨fun W hW => (rmode_any m W).mono fun e w' hp => ⟨hp.1, hW.on hp.2⟩⟩
          have KOrd : Kept (∀ j, k = j + 1 → Kept (∀ W, CC x3 W → W.rangeAt b (off + j * 34) (eI es j).l) ∧ Kept ((Tryz.prog.info? 33).map (·.size) = some (eI es j).l.length) ∧ Kept (∀ W, CC x3 W → Calls Tryz.prog 78 #[.agg (eI es j).l.toArray, .agg CL.toArray] W fun e w' => e = .returned (.int .i64 (ordE (eI es j) (eI es (j + 1)))) ∧ CC x3 w')) := ⟨fun j hj => by
            have hje : j < es.length := by omega
            refine ⟨⟨fun W hW => by rw [eI_get hje]; exact KRg.out W (hx23.trans (Below.mono hW hx23.size)) j hje⟩, ⟨?_⟩, ⟨fun W hW => (KOO.out j hj W).mono fun e w' hp => ⟨hp.1, hW.on hp.2⟩⟩⟩
            rw [eI_get hje, EnC.len (KK.out _ (List.getElem_mem hje))]
            kernel_rfl⟩
          obtain ⟨qmm, hqmm⟩ : ∃ qmm, modF m = qmm := ⟨_, rfl⟩
          rw [hqmm] at KMo hqm
          have Kmm : Kept ((!qmm) = qm) := ⟨hqm⟩
          clear hqm hqmm hx23
          subst hx3
          go_upto_region 8 with fail
          cases fb with
          | true =>
            have KFb : Kept (true = fmB es (k + 1)) := ⟨by rw [KFs.out, ← Kfb.out, Bool.true_or, Bool.true_or]⟩
            refine wp_region_quietC (C := CC x3) (by kernel_rfl) (by kernel_rfl) (Below.refl _ _).drew ?_
            repeat (go_big_quiet_step ((intro _; rfl)))
            refine wpQuiet_nil ?_
            intro x4 hx4
            have KB4 := Kept.mk (KB3.out.trans (Below.mono hx4 KB3.out.size))
            clear hx4
            go_wp2
            go_roundw
            case rel => exact ⟨k + 1, _, true, by omega, by go_num, rfl, rfl, KNb.out, KFb.out, KB4.out⟩
            case measure => simp [intOf]; omega
          | false =>
            refine wp_region_quietC (C := CC x3) (by kernel_rfl) (by kernel_rfl) (Below.refl _ _).drew ?_
            go_big_quiet_step ((intro _; rfl))
            go_big_quiet_step ((intro _; rfl))
            refine BigFrame.wpQuiet_want rfl (fun K hK => quiet_run (v := .pointer (some ⟨wr.heap.size, 0, none⟩)) (fun W hW => by go_simp; all_goals first | rfl | (intro hneg; exfalso; omega)) (hK _ ?_))
            clear hK K
            simp only [Act.put, List.setIfInBounds_toArray, List.set_cons_zero, List.set_cons_succ]
            refine BigFrame.wpQuiet_want rfl (fun K hK => quiet_run (v := .int .i64 m) (fun W hW => by have := (KCx.out W hW).1; go_simp) (hK _ ?_))
            clear hK K
            simp only [Act.put, List.setIfInBounds_toArray, List.set_cons_zero, List.set_cons_succ]
            go_big_quiet_step ((intro hCw; exact KMo.out _ hCw))
            cases qmm with
            | false =>
              have Kqt : Kept (qm0 = true) := ⟨by rw [← Kqm.out, ← Kmm.out]; rfl⟩
              have KFb : Kept (true = fmB es (k + 1)) := ⟨by rw [KFs.out, ← Kfb.out, Kqt.out]; rfl⟩
              repeat (go_big_quiet_step ((intro _; rfl)))
              refine wpQuiet_nil ?_
              intro x4 hx4
              have KB4 := Kept.mk (KB3.out.trans (Below.mono hx4 KB3.out.size))
              clear hx4
              go_wp2
              go_roundw
              case rel => exact ⟨k + 1, _, true, by omega, by go_num, rfl, rfl, KNb.out, KFb.out, KB4.out⟩
              case measure => simp [intOf]; omega
            | true =>
              have Kqt : Kept (qm0 = false) := ⟨by rw [← Kqm.out, ← Kmm.out]; rfl⟩
              by_cases hk0 : k = 0
              · subst hk0
                have KFb : Kept (false = fmB es (0 + 1)) := ⟨by rw [KFs.out, ← Kfb.out, Kqt.out]; rfl⟩
                repeat (go_big_quiet_step ((intro _; rfl)))
                refine wpQuiet_nil ?_
                intro x4 hx4
                have KB4 := Kept.mk (KB3.out.trans (Below.mono hx4 KB3.out.size))
                clear hx4
                go_wp2
                go_roundw
                case rel => exact ⟨0 + 1, _, false, by omega, by go_num, rfl, rfl, KNb.out, KFb.out, KB4.out⟩
                case measure => simp [intOf]; omega
              · obtain ⟨j, rfl⟩ : ∃ j, k = j + 1 := ⟨k - 1, by omega⟩
                obtain ⟨KR1, KI1, KOr⟩ := KOrd.out j rfl
                have hjp : decide ((0 : Int) < ((j + 1 : Nat) : Int)) = true := decide_eq_true (by omega)
                have hjn : (j : Int) < (es.length : Int) := by omega
                have e1 : ((j + 1 : Nat) : Int) - 1 = (j : Int) := by omega
                have e4 : IntKind.i64.wrap (j : Int) = (j : Int) := wr64 (by omega) (by omega)
                obtain ⟨OO, hOO⟩ : ∃ OO, ordE (eI es j) (eI es (j + 1)) = OO := ⟨_, rfl⟩
                rw [hOO] at KOr
                have KFb : Kept (decide (0 ≤ OO) = fmB es (j + 1 + 1)) := ⟨by rw [KFs.out, ← Kfb.out, Kqt.out, ← hOO, ← KeI.out]; simp⟩
                generalize (eI es j).l = LA at *
                go_big_quiet_step ((intro _; rfl))
                go_big_quiet_step ((intro _; rfl))
                go_big_quiet_step ((intro _; rfl))
                go_big_quiet_step ((intro _; rfl))
                refine BigFrame.wpQuiet_want rfl (fun K hK => quiet_run (v := .bool true) (fun W hW => by go_simp; all_goals first | rfl | omega | (simp; done) | (simp; omega)) (hK _ ?_))
                clear hK K
                simp only [Act.put, List.setIfInBounds_toArray, List.set_cons_zero, List.set_cons_succ]
                go_big_quiet_step ((intro _; rfl))
                go_big_quiet_step ((intro _; rfl))
                go_big_quiet_step ((intro _; rfl))
                refine BigFrame.wpQuiet_want rfl (fun K hK => quiet_run (v := .int .i64 (j : Int)) (fun W hW => by go_simp; all_goals first | rfl | (intro hneg; exfalso; omega)) (hK _ ?_))
                clear hK K
                simp only [Act.put, List.setIfInBounds_toArray, List.set_cons_zero, List.set_cons_succ]
                refine BigFrame.wpQuiet_want rfl (fun K hK => quiet_run (v := .pointer (some ⟨b, off + j * 34, none⟩)) (fun W hW => by go_simp; all_goals first | rfl | (intro hneg; exfalso; omega)) (hK _ ?_))
                clear hK K
                simp only [Act.put, List.setIfInBounds_toArray, List.set_cons_zero, List.set_cons_succ]
                refine BigFrame.wpQuiet_want rfl (fun K hK => quiet_load_mid 33 _ rfl b (off + j * 34) rfl LA _ KR1.out Tryz.underlying33 rfl KI1.out (hK _ ?_))
                clear hK K
                simp only [Act.put, List.setIfInBounds_toArray, List.set_cons_zero, List.set_cons_succ]
                refine BigFrame.wpQuiet_want rfl (fun K hK => quiet_load_mid 33 _ rfl wr.heap.size (0) rfl CL _ KBx.out Tryz.underlying33 rfl KI.out (hK _ ?_))
                clear hK K
                simp only [Act.put, List.setIfInBounds_toArray, List.set_cons_zero, List.set_cons_succ]
                go_big_quiet_step ((intro hCw; exact KOr.out _ hCw))
                refine BigFrame.wpQuiet_want rfl (fun K hK => quiet_run (v := .bool (decide (0 ≤ OO))) (fun W hW => by go_simp; all_goals first | rfl | (intro hneg; exfalso; omega)) (hK _ ?_))
                clear hK K
                simp only [Act.put, List.setIfInBounds_toArray, List.set_cons_zero, List.set_cons_succ]
                repeat (go_big_quiet_step ((intro _; rfl)))
                refine wpQuiet_nil ?_
                intro x4 hx4
                have KB4 := Kept.mk (KB3.out.trans (Below.mono hx4 KB3.out.size))
                clear hx4
                go_wp2
                go_roundw
                case rel => exact ⟨j + 1 + 1, _, decide (0 ≤ OO), by omega, by go_num, rfl, rfl, KNb.out, KFb.out, KB4.out⟩
                case measure => simp [intOf]; omega
        | false =>
          obtain ⟨c0, c1⟩ := KCs.out x2 (Below.refl _ _)
          clear c0
          go_wp2_with fail
          refine Calls.mono KNm.out (fun e x3 hp3 => ?_)
          obtain ⟨rfl, hx23⟩ := hp3
          have KNb : Kept ((!nameF nm) = (es.take (k + 1)).any noName) := ⟨by rw [KNs.out, ← Knb.out, KnmE.out]; rfl⟩
          generalize nameF nm = qn at *
          clear c1
          have KB3 := Kept.mk (KB2.out.trans (hx23.mono KB2.out.size))
          have KCx : Kept (∀ W, CC x3 W → W.cell? ⟨wr.heap.size, 0, none⟩ = some (.int .i64 m) ∧ W.cell? ⟨wr.heap.size, 1, none⟩ = some (.string nm)) := ⟨fun W hW => KCs.out W (hx23.trans (Below.mono hW hx23.size))⟩
          have KBx : Kept (∀ W, CC x3 W → W.rangeAt wr.heap.size 0 CL) := ⟨fun W hW => KRs.out W (hx23.trans (Below.mono hW hx23.size))⟩
          obtain ⟨qm, hqm⟩ : ∃ qm, (!modF m) = qm := ⟨_, rfl⟩
          have Kqm : Kept (qm = qm0) := ⟨by rw [← hqm, KmoE.out]⟩
          have KMo : Kept (∀ W, CC x3 W → Calls Tryz.prog 77 #[.int .i64 m] W fun e w' => e = .returned (.bool (modF m)) ∧ CC x3 w') := ⟨fun W hW => (rmode_any m W).mono fun e w' hp => ⟨hp.1, hW.on hp.2⟩⟩
          have KOrd : Kept (∀ j, k = j + 1 → Kept (∀ W, CC x3 W → W.rangeAt b (off + j * 34) (eI es j).l) ∧ Kept ((Tryz.prog.info? 33).map (·.size) = some (eI es j).l.length) ∧ Kept (∀ W, CC x3 W → Calls Tryz.prog 78 #[.agg (eI es j).l.toArray, .agg CL.toArray] W fun e w' => e = .returned (.int .i64 (ordE (eI es j) (eI es (j + 1)))) ∧ CC x3 w')) := ⟨fun j hj => by
            have hje : j < es.length := by omega
            refine ⟨⟨fun W hW => by rw [eI_get hje]; exact KRg.out W (hx23.trans (Below.mono hW hx23.size)) j hje⟩, ⟨?_⟩, ⟨fun W hW => (KOO.out j hj W).mono fun e w' hp => ⟨hp.1, hW.on hp.2⟩⟩⟩
            rw [eI_get hje, EnC.len (KK.out _ (List.getElem_mem hje))]
            kernel_rfl⟩
          obtain ⟨qmm, hqmm⟩ : ∃ qmm, modF m = qmm := ⟨_, rfl⟩
          rw [hqmm] at KMo hqm
          have Kmm : Kept ((!qmm) = qm) := ⟨hqm⟩
          clear hqm hqmm hx23
          go_upto_region 8 with fail
          cases fb with
          | true =>
            have KFb : Kept (true = fmB es (k + 1)) := ⟨by rw [KFs.out, ← Kfb.out, Bool.true_or, Bool.true_or]⟩
            refine wp_region_quietC (C := CC x3) (by kernel_rfl) (by kernel_rfl) (Below.refl _ _).drew ?_
            repeat (go_big_quiet_step ((intro _; rfl)))
            refine wpQuiet_nil ?_
            intro x4 hx4
            have KB4 := Kept.mk (KB3.out.trans (Below.mono hx4 KB3.out.size))
            clear hx4
            go_wp2
            go_roundw
            case rel => exact ⟨k + 1, _, true, by omega, by go_num, rfl, rfl, KNb.out, KFb.out, KB4.out⟩
            case measure => simp [intOf]; omega
          | false =>
            refine wp_region_quietC (C := CC x3) (by kernel_rfl) (by kernel_rfl) (Below.refl _ _).drew ?_
            go_big_quiet_step ((intro _; rfl))
            go_big_quiet_step ((intro _; rfl))
            refine BigFrame.wpQuiet_want rfl (fun K hK => quiet_run (v := .pointer (some ⟨wr.heap.size, 0, none⟩)) (fun W hW => by go_simp; all_goals first | rfl | (intro hneg; exfalso; omega)) (hK _ ?_))
            clear hK K
            simp only [Act.put, List.setIfInBounds_toArray, List.set_cons_zero, List.set_cons_succ]
            refine BigFrame.wpQuiet_want rfl (fun K hK => quiet_run (v := .int .i64 m) (fun W hW => by have := (KCx.out W hW).1; go_simp) (hK _ ?_))
            clear hK K
            simp only [Act.put, List.setIfInBounds_toArray, List.set_cons_zero, List.set_cons_succ]
            go_big_quiet_step ((intro hCw; exact KMo.out _ hCw))
            cases qmm with
            | false =>
              have Kqt : Kept (qm0 = true) := ⟨by rw [← Kqm.out, ← Kmm.out]; rfl⟩
              have KFb : Kept (true = fmB es (k + 1)) := ⟨by rw [KFs.out, ← Kfb.out, Kqt.out]; rfl⟩
              repeat (go_big_quiet_step ((intro _; rfl)))
              refine wpQuiet_nil ?_
              intro x4 hx4
              have KB4 := Kept.mk (KB3.out.trans (Below.mono hx4 KB3.out.size))
              clear hx4
              go_wp2
              go_roundw
              case rel => exact ⟨k + 1, _, true, by omega, by go_num, rfl, rfl, KNb.out, KFb.out, KB4.out⟩
              case measure => simp [intOf]; omega
            | true =>
              have Kqt : Kept (qm0 = false) := ⟨by rw [← Kqm.out, ← Kmm.out]; rfl⟩
              by_cases hk0 : k = 0
              · subst hk0
                have KFb : Kept (false = fmB es (0 + 1)) := ⟨by rw [KFs.out, ← Kfb.out, Kqt.out]; rfl⟩
                repeat (go_big_quiet_step ((intro _; rfl)))
                refine wpQuiet_nil ?_
                intro x4 hx4
                have KB4 := Kept.mk (KB3.out.trans (Below.mono hx4 KB3.out.size))
                clear hx4
                go_wp2
                go_roundw
                case rel => exact ⟨0 + 1, _, false, by omega, by go_num, rfl, rfl, KNb.out, KFb.out, KB4.out⟩
                case measure => simp [intOf]; omega
              · obtain ⟨j, rfl⟩ : ∃ j, k = j + 1 := ⟨k - 1, by omega⟩
                obtain ⟨KR1, KI1, KOr⟩ := KOrd.out j rfl
                have hjp : decide ((0 : Int) < ((j + 1 : Nat) : Int)) = true := decide_eq_true (by omega)
                have hjn : (j : Int) < (es.length : Int) := by omega
                have e1 : ((j + 1 : Nat) : Int) - 1 = (j : Int) := by omega
                have e4 : IntKind.i64.wrap (j : Int) = (j : Int) := wr64 (by omega) (by omega)
                obtain ⟨OO, hOO⟩ : ∃ OO, ordE (eI es j) (eI es (j + 1)) = OO := ⟨_, rfl⟩
                rw [hOO] at KOr
                have KFb : Kept (decide (0 ≤ OO) = fmB es (j + 1 + 1)) := ⟨by rw [KFs.out, ← Kfb.out, Kqt.out, ← hOO, ← KeI.out]; simp⟩
                generalize (eI es j).l = LA at *
                go_big_quiet_step ((intro _; rfl))
                go_big_quiet_step ((intro _; rfl))
                go_big_quiet_step ((intro _; rfl))
                go_big_quiet_step ((intro _; rfl))
                refine BigFrame.wpQuiet_want rfl (fun K hK => quiet_run (v := .bool true) (fun W hW => by go_simp; all_goals first | rfl | omega | (simp; done) | (simp; omega)) (hK _ ?_))
                clear hK K
                simp only [Act.put, List.setIfInBounds_toArray, List.set_cons_zero, List.set_cons_succ]
                go_big_quiet_step ((intro _; rfl))
                go_big_quiet_step ((intro _; rfl))
                go_big_quiet_step ((intro _; rfl))
                refine BigFrame.wpQuiet_want rfl (fun K hK => quiet_run (v := .int .i64 (j : Int)) (fun W hW => by go_simp; all_goals first | rfl | (intro hneg; exfalso; omega)) (hK _ ?_))
                clear hK K
                simp only [Act.put, List.setIfInBounds_toArray, List.set_cons_zero, List.set_cons_succ]
                refine BigFrame.wpQuiet_want rfl (fun K hK => quiet_run (v := .pointer (some ⟨b, off + j * 34, none⟩)) (fun W hW => by go_simp; all_goals first | rfl | (intro hneg; exfalso; omega)) (hK _ ?_))
                clear hK K
                simp only [Act.put, List.setIfInBounds_toArray, List.set_cons_zero, List.set_cons_succ]
                refine BigFrame.wpQuiet_want rfl (fun K hK => quiet_load_mid 33 _ rfl b (off + j * 34) rfl LA _ KR1.out Tryz.underlying33 rfl KI1.out (hK _ ?_))
                clear hK K
                simp only [Act.put, List.setIfInBounds_toArray, List.set_cons_zero, List.set_cons_succ]
                refine BigFrame.wpQuiet_want rfl (fun K hK => quiet_load_mid 33 _ rfl wr.heap.size (0) rfl CL _ KBx.out Tryz.underlying33 rfl KI.out (hK _ ?_))
                clear hK K
                simp only [Act.put, List.setIfInBounds_toArray, List.set_cons_zero, List.set_cons_succ]
                go_big_quiet_step ((intro hCw; exact KOr.out _ hCw))
                refine BigFrame.wpQuiet_want rfl (fun K hK => quiet_run (v := .bool (decide (0 ≤ OO))) (fun W hW => by go_simp; all_goals first | rfl | (intro hneg; exfalso; omega)) (hK _ ?_))
                clear hK K
                simp only [Act.put, List.setIfInBounds_toArray, List.set_cons_zero, List.set_cons_succ]
                repeat (go_big_quiet_step ((intro _; rfl)))
                refine wpQuiet_nil ?_
                intro x4 hx4
                have KB4 := Kept.mk (KB3.out.trans (Below.mono hx4 KB3.out.size))
                clear hx4
                go_wp2
                go_roundw
                case rel => exact ⟨j + 1 + 1, _, decide (0 ≤ OO), by omega, by go_num, rfl, rfl, KNb.out, KFb.out, KB4.out⟩
                case measure => simp [intOf]; omega
      · have hki : ¬ (k : Int) < (es.length : Int) := by omega
        obtain rfl : k = es.length := by omega
        rw [List.take_length] at Knb
        have Kfa : Kept (fb = (es.any noMode || !riB es)) := ⟨by rw [Kfb.out, fmB_all]⟩
        have K4 : Kept (∀ W, Below w.heap.size w W → _) := ⟨fun W hW => dtwice_any _ es W (KRd.out.later hW) hl⟩
        have K5 : Kept (∀ W, Below w.heap.size w W → _) := ⟨fun W hW => dTree_any _ es W (KG.out.later hW) (KRd.out.later hW) (by omega) (KTs.out hl)⟩
        have KTl := Kept.mk (treL_len KK.out)
        have KLt2 : Kept ([if nb = true then 3 else 0, if fb = true then 4 else 0, if smB es = true then 8 else 0, if decide (1048576 < tsF es) = true then 2 else 0].foldl lsF 0 = treE es) := ⟨by rw [Knb.out, Kfa.out]; exact KLt.out⟩
        clear hbel KLt Knb Kfb Kfa hlt hk
        generalize hEE : treE es = E at *
        have KEE := Kept.mk hEE
        clear hEE
        generalize smB es = q3 at *
        generalize tsF es = T at *
        generalize treL es = TL at *
        obtain ⟨r1, hr1⟩ : ∃ r1 : Int, (if nb = true then 3 else 0) = r1 := ⟨_, rfl⟩
        obtain ⟨r2, hr2⟩ : ∃ r2 : Int, (if fb = true then 4 else 0) = r2 := ⟨_, rfl⟩
        obtain ⟨r3, hr3⟩ : ∃ r3 : Int, (if q3 = true then 8 else 0) = r3 := ⟨_, rfl⟩
        rw [hr1, hr2, hr3] at KLt2
        have KI1 : Kept (∀ W, Calls Tryz.prog 80 #[.bool nb, .int .i64 3] W fun x w' => x = .returned (.int .i64 r1) ∧ w' = W) := ⟨fun W => by rw [← hr1]; exact if_any nb 3 W⟩
        have KI2 : Kept (∀ W, Calls Tryz.prog 80 #[.bool fb, .int .i64 4] W fun x w' => x = .returned (.int .i64 r2) ∧ w' = W) := ⟨fun W => by rw [← hr2]; exact if_any fb 4 W⟩
        have KI3 : Kept (∀ W, Calls Tryz.prog 80 #[.bool q3, .int .i64 8] W fun x w' => x = .returned (.int .i64 r3) ∧ w' = W) := ⟨fun W => by rw [← hr3]; exact if_any q3 8 W⟩
        clear hr1 hr2 hr3
        go_wp2_with fail
        refine Calls.mono (KI1.out wr) (fun e w1 hp => ?_)
        obtain ⟨rfl, hw1⟩ := hp
        subst w1
        go_wp2_with fail
        refine Calls.mono (KI2.out wr) (fun e w1 hp => ?_)
        obtain ⟨rfl, hw1⟩ := hp
        subst w1
        go_wp2_with fail
        refine Calls.mono (K4.out wr KBr.out) (fun e w2 hp => ?_)
        obtain ⟨rfl, hb2⟩ := hp
        have KB2 := Kept.mk (KBr.out.trans (hb2.mono KBr.out.size))
        clear hb2 K4
        go_wp2_with fail
        refine Calls.mono (KI3.out w2) (fun e w1 hp => ?_)
        obtain ⟨rfl, hw1⟩ := hp
        subst w1
        go_wp2_with fail
        refine Calls.mono (K5.out w2 KB2.out) (fun e w3 hp => ?_)
        obtain ⟨v3, rfl, hO3, hb3⟩ := hp
        have KB3 := Kept.mk (KB2.out.trans (hb3.mono KB2.out.size))
        obtain ⟨a3, c3, rfl, -, -, -⟩ := hO3.rd.form
        have hTl : (TL.length : Int) = T := KTl.out
        obtain ⟨q4, hq4⟩ : ∃ q4, decide ((1048576 : Int) < (TL.length : Int)) = q4 := ⟨_, rfl⟩
        rw [← hTl, hq4] at KLt2
        obtain ⟨r4, hr4⟩ : ∃ r4 : Int, (if q4 = true then 2 else 0) = r4 := ⟨_, rfl⟩
        rw [hr4] at KLt2
        have KI4 : Kept (∀ W, Calls Tryz.prog 80 #[.bool q4, .int .i64 2] W fun x w' => x = .returned (.int .i64 r4) ∧ w' = W) := ⟨fun W => by rw [← hr4]; exact if_any q4 2 W⟩
        clear hb3 K5 hO3 hTl hr4 KTl
        go_wp2_with fail
        refine Calls.mono (KI4.out w3) (fun e w1 hp => ?_)
        obtain ⟨rfl, hw1⟩ := hp
        subst w1
        obtain ⟨w4, hw4⟩ : ∃ w4, w3.alloc (.cells #[.int .i64 r1, .int .i64 r2, .int .i64 r3, .int .i64 r4] 23) = w4 := ⟨_, rfl⟩
        have hh4 : w4.heap[w3.heap.size]? = some (.cells (cellsK .i64 [r1, r2, r3, r4]).toArray 23) := by rw [← hw4]; exact heap_alloc_new w3 _
        have hB4 : Below w3.heap.size w3 w4 := by rw [← hw4]; exact (Below.refl _ _).alloc (Nat.le_refl _) _
        have hLs := least_any [r1, r2, r3, r4] w3.heap.size w4 hh4 (by simp)
        rw [KLt2.out] at hLs
        have KLs : Kept (Calls Tryz.prog 79 #[.slice (some ⟨w3.heap.size, 0, none⟩) 4 4] w4 fun e w' => e = .returned (.int .i64 E) ∧ w' = w4) := ⟨hLs⟩
        have KB4 := Kept.mk (KB3.out.trans (hB4.mono KB3.out.size))
        clear hh4 hB4 hLs
        go_wp2_with fail
        try rw [hw4]
        refine Calls.mono KLs.out (fun e w5 hp => ?_)
        obtain ⟨rfl, hw5⟩ := hp
        subst w5
        go_wp2
        go_ret
        exact ⟨by rw [KEE.out]; rfl, KB4.out⟩
set_option maxHeartbeats 1000000 in
set_option maxRecDepth 100000 in
theorem docPutTree_any (v : Value) (es : List EnC) (w : World) (hg : Gv w) (hr : RdE w v es) (hnm : ∀ e ∈ es, e.nm.size ≤ 140737488351232) (hts : es.length ≤ 4096 → tsF es ≤ 100000000) :
    Calls Tryz.prog 19 #[v] w fun e w' => ∃ v', e = .returned (.tuple #[v', .int .i64 (treE es)]) ∧ Own .u8 5 w' w.heap.size v' (putL es) ∧ Below w.heap.size w w' := by
  have K1 := Kept.mk (dtree_any v es w hg hr hnm hts)
  have K2 : Kept (treE es = 0 → ∀ W, Below w.heap.size w W → Calls Tryz.prog 41 #[v] W fun e w' => ∃ v', e = .returned v' ∧ Own .u8 5 w' W.heap.size v' (treL es) ∧ Below W.heap.size W w') := ⟨fun h W hW => dTree_any v es W (hg.later hW) (hr.later hW) (by have := treE_ok h; omega) (hts (treE_ok h).1)⟩
  have KP : Kept (putL es = if treE es = 0 then treL es else []) := ⟨rfl⟩
  clear hg hr hnm hts
  generalize treE es = E at *
  generalize putL es = PL at *
  go_enter Tryz.func19, Tryz.ntmps19
  go_wp2_with fail
  refine Calls.mono K1.out (fun e w1 hp => ?_)
  obtain ⟨rfl, hb1⟩ := hp
  have KB1 := Kept.mk hb1
  clear hb1 K1
  by_cases h0 : E = 0
  · subst h0
    have KC := Kept.mk (K2.out rfl w1 KB1.out)
    have KF : Kept (PL = treL es) := ⟨by rw [KP.out, if_pos rfl]⟩
    clear K2 KP
    go_wp2_with fail
    refine Calls.mono KC.out (fun e w2 hp => ?_)
    obtain ⟨v2, rfl, hO2, hb2⟩ := hp
    have KO : Kept (Own .u8 5 w2 w.heap.size v2 PL) := ⟨by rw [KF.out]; exact hO2.mono KB1.out.size⟩
    have KB2 := Kept.mk (KB1.out.trans (hb2.mono KB1.out.size))
    clear hO2 hb2 KC
    go_wp2
    go_ret2
    exact ⟨_, rfl, KO.out, KB2.out⟩
  · have hd : (E != 0) = true := by simpa using h0
    have KF : Kept (PL = []) := ⟨by rw [KP.out, if_neg h0]⟩
    clear h0 K2 KP
    go_wp2
    go_ret2
    exact ⟨_, rfl, by rw [KF.out]; exact Own.nil _ _ _ _, KB1.out⟩
end Go.Proofs.YtkbalngddlhlpaaGreatDoor
