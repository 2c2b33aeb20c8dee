/-
  PutTree over any list of entries.
-/
import Derived.Test.YtfdemmndbjaipaaGreatDoorO21
import Derived.Deep.RegionHeld3
import Derived.Test.YtfdemmndbjaipaaGreatDoorN21
import Derived.Test.YtfdemmndbjaipaaGreatDoorO10B
namespace Go.Proofs.YtfdemmndbjaipaaGreatDoor
open Go.RowKit

theorem Own.ty {k : IntKind} {e : TypeId} {w : World} {base : Nat} {v : Value} {xs : List Int} (h : Own k e w base v xs) {q : Nat} (hq : v.ownBlock = some q) : ∃ cur, w.heap[q]? = some (.cells cur e) := by
  rcases h with ⟨-, ⟨rfl, -⟩ | ⟨g, cap, cur, rfl, -, hg, -⟩⟩
  · cases hq
  · cases hq
    exact ⟨cur, hg⟩
/-- Bytes that grow beside an entry's block, which stays. -/
structure StB (w W : World) (base : Nat) (pv : Value) (xs : List Int) (g : Nat) (C : Array Value) : Prop where
  own : Own .u8 5 W base pv xs
  blk : W.heap[g]? = some (.cells C 57)
  bel : Below base w W
section
variable {w W W' : World} {base g : Nat} {pv pv' : Value} {xs ys : List Int} {C : Array Value}
theorem StB.lt (h : StB w W base pv xs g C) : g < W.heap.size := by
  rcases Nat.lt_or_ge g W.heap.size with h' | h'
  · exact h'
  · have := h.blk
    rw [Array.getElem?_eq_none h'] at this
    cases this
theorem StB.ne (h : StB w W base pv xs g C) {q : Nat} (hq : pv.ownBlock = some q) : q ≠ g := fun e => by
  obtain ⟨cur, hc⟩ := h.own.ty hq
  rw [e, h.blk] at hc
  injection hc with hc
  injection hc with _ hc
  revert hc
  decide
theorem StB.app (h : StB w W base pv xs g C) (hb : base ≤ W.heap.size) (ho : Own .u8 5 W' base pv' ys) (hg : W.grownBy W' pv.ownBlock) : StB w W' base pv' ys g C := by
  have hl := h.lt
  refine ⟨ho, ?_, h.bel.trans ((Below.refl _ W).grown hg hb (fun q hq => (h.own.lt q hq).1))⟩
  rw [hg.block g hl (fun e => h.ne e.symm rfl)]
  exact h.blk
theorem StB.alloc (h : StB w W base pv xs g C) (hb : base ≤ W.heap.size) (o : Obj) : StB w (W.alloc o) base pv xs g C :=
  ⟨h.own.alloc o, by rw [Below.heap_alloc W o g h.lt]; exact h.blk, h.bel.alloc hb o⟩
theorem StB.later (h : StB w W base pv xs g C) (hb : base ≤ W.heap.size) (hl : Below W.heap.size W W') : StB w W' base pv xs g C :=
  ⟨h.own.later hl (Nat.le_refl _), by rw [hl.block g h.lt]; exact h.blk, h.bel.trans (hl.mono hb)⟩
end
theorem rd_ids {W : World} {g : Nat} {e : EnC} (h : e.ok) (hb : W.heap[g]? = some (.cells e.l.toArray 57)) : Rd .u8 anyB W (.slice (some ⟨g, 2, none⟩) 32 32) e.ids := by
  have hlt : g < W.heap.size := by
    rcases Nat.lt_or_ge g W.heap.size with h' | h'
    · exact h'
    · rw [Array.getElem?_eq_none h'] at hb
      cases hb
  refine ⟨some ⟨g, 2, none⟩, 32, by rw [h.1], by rw [h.1]; omega, by unfold maxLen; omega, (fun h => by cases h), fun _ => ⟨g, 2, rfl, hlt, trivial, fun i hi => ?_⟩⟩
  rw [cell_of_row W g (2 + i) _ _ (0, 0) hb, List.getElem?_toArray]
  unfold EnC.l
  rw [show 2 + i = i + 2 by omega, List.getElem?_cons_succ, List.getElem?_cons_succ]
  unfold cellsK
  simp [List.getD, List.getElem?_eq_getElem hi]
/-- What PutTree answers. -/
def putL (es : List EnC) : List Int := if treE es = 0 then treL es else []
theorem treE_ok {es : List EnC} (h : treE es = 0) : es.length ≤ 4096 ∧ tsF es ≤ 1048576 := by
  unfold treE at h
  by_cases h1 : 4096 < es.length ∨ 1048576 < tsF es
  · rw [if_pos h1] at h; omega
  · omega

set_option maxHeartbeats 4000000 in
set_option maxRecDepth 100000 in
theorem putTree_any (v : Value) (es : List EnC) (w : World) (hg : Gv w) (hr : RdE w v es) :
    Calls Tryz.prog 5 #[v] w fun e w' => ∃ v', e = .returned (.tuple #[v', .int .i64 (treE es)]) ∧ Own .u8 5 w' w.heap.size v' (putL es) ∧ Below w.heap.size w w' := by
  have K1 := Kept.mk (treeError_any v es w hg hr)
  have KG := Kept.mk hg
  obtain ⟨a, c, rfl, hlc, hok, hrd⟩ := hr
  have KR := Kept.mk hrd
  have KK := Kept.mk hok
  obtain ⟨i0, z0, hi, hz, hsz, hbb, hc⟩ := info8
  have KT := Kept.mk (treE_ok (es := es))
  have KP : Kept (putL es = if treE es = 0 then treL es else []) := ⟨rfl⟩
  generalize treE es = E at *
  clear hg hok hrd
  go_enter Tryz.func5, Tryz.ntmps5
  go_wp2_with fail
  refine Calls.mono K1.out (fun e w1 hp => ?_)
  obtain ⟨rfl, hb1⟩ := hp
  have KB1 := Kept.mk hb1
  clear hb1 K1
  by_cases h0 : E = 0
  · subst h0
    obtain ⟨hl, hts⟩ := KT.out rfl
    have KPL : Kept (putL es = treL es) := ⟨by rw [KP.out, if_pos rfl]⟩
    have Kts := Kept.mk hts
    clear hts KT KP
    go_wp2
    go_loopw [5, 15] (fun pv kv wr => ∃ k : Nat, k ≤ es.length ∧ kv = .int .i64 k ∧ Own .u8 5 wr w.heap.size pv (treL (es.take k)) ∧ Below w.heap.size w wr) (fun _ kv _ => es.length - (intOf kv).toNat)
    case atStart => exact ⟨0, Nat.zero_le _, rfl, Own.nil _ _ _ _, KB1.out⟩
    case round =>
      obtain ⟨k, hk, rfl, how, hbel⟩ := hrel
      have KOr := Kept.mk how
      have KBr := Kept.mk hbel
      obtain ⟨pa, pc, rfl, -, -, -⟩ := how.rd.form
      by_cases hlt : k < es.length
      · have hki : (k : Int) < (es.length : Int) := by omega
        obtain ⟨b, off, rfl, hbl, hrg⟩ := KR.out (by omega)
        have hrow : wr.rangeAt b (off + k * 34) (es[k]'hlt).l := fun j u hu => by
          rw [hbel.cell (p := ⟨b, off + k * 34 + j, none⟩) hbl]
          exact hrg k hlt j u hu
        have hoke := KK.out _ (List.getElem_mem hlt)
        have h34 := EnC.len hoke
        have hones := EnC.ones (es[k]'hlt)
        have hsum := tsF_take KK.out hlt
        have htl := treL_len (es := es.take k) (fun e he => KK.out e (List.mem_of_mem_take he))
        have KSt := Kept.mk (treL_step es hlt)
        have Ken : Kept (entL (es[k]'hlt) = octS (es[k]'hlt).m ++ [32] ++ strL (es[k]'hlt).nm ++ [0] ++ (es[k]'hlt).ids) := ⟨rfl⟩
        have hosz := octS_size (es[k]'hlt).m
        have hosl := strL_strOf (octS_bytes hoke.2.2.1 hoke.2.2.2.1)
        obtain ⟨x2, hx2, hB2, c0, c1⟩ := EnC.box wr (es[k]'hlt)
        have hblk : x2.heap[wr.heap.size]? = some (.cells (es[k]'hlt).l.toArray 57) := by rw [← hx2]; exact heap_alloc_new wr _
        have hs0 : w.heap.size ≤ wr.heap.size := hbel.size
        have hs2 : w.heap.size ≤ x2.heap.size := Nat.le_trans hs0 hB2.size
        have hS2 : StB w x2 w.heap.size (.slice pa (treL (es.take k)).length pc) (treL (es.take k)) wr.heap.size (es[k]'hlt).l.toArray :=
          ⟨how.later hB2 (Nat.le_refl _), hblk, hbel.trans (hB2.mono hs0)⟩
        have KS2 := Kept.mk hS2
        have KMd := Kept.mk (modeDigits_all (es[k]'hlt).m x2 (KG.out.later hS2.bel) hoke.2.2.1 hoke.2.2.2.1)
        have e2 : IntKind.i64.wrap ((k : Int) + 1) = (k : Int) + 1 := wr64 (by omega) (by omega)
        have Kok := Kept.mk hoke
        have Kts' := Kts.out
        have KLen : Kept ((treL (es.take k)).length + (octS (es[k]'hlt).m).length + 1 + (es[k]'hlt).nm.size + 1 + 32 ≤ 1048576) := ⟨by omega⟩
        have KRi : Kept (∀ W : World, W.heap[wr.heap.size]? = some (.cells (es[k]'hlt).l.toArray 57) → Rd .u8 anyB W (.slice (some ⟨wr.heap.size, 2, none⟩) 32 32) (es[k]'hlt).ids) := ⟨fun W h => rd_ids hoke h⟩
        have K32 : Kept ((es[k]'hlt).ids.length = 32) := ⟨hoke.1⟩
        have KCs : Kept (∀ W : World, W.heap[wr.heap.size]? = some (.cells (es[k]'hlt).l.toArray 57) → W.cell? ⟨wr.heap.size, 0, none⟩ = some (.int .i64 (es[k]'hlt).m) ∧ W.cell? ⟨wr.heap.size, 1, none⟩ = some (.string (es[k]'hlt).nm)) := ⟨fun W h => ⟨by rw [cell_of_row W _ 0 _ _ (0, 0) h]; rfl, by rw [cell_of_row W _ 1 _ _ (0, 0) h]; rfl⟩⟩
        clear hbel hrg hoke hsum htl hS2 hblk hB2 how hs0 Kts'
        obtain ⟨CL, hCL⟩ : ∃ CL, (es[k]'hlt).l = CL := ⟨_, rfl⟩
        rw [hCL] at hrow h34 hones hx2 KS2 KRi KCs
        clear hCL
        have KosL : Kept (strL (strOfNums (octS (es[k]'hlt).m)) = octS (es[k]'hlt).m) := ⟨hosl⟩
        have hoz : (strOfNums (octS (es[k]'hlt).m)).size = (octS (es[k]'hlt).m).length := hosz.1
        clear hosl hosz
        generalize strOfNums (octS (es[k]'hlt).m) = T at *
        generalize octS (es[k]'hlt).m = OS at *
        generalize (es[k]'hlt).m = m at *
        generalize (es[k]'hlt).nm = nm at *
        generalize (es[k]'hlt).ids = IDS at *
        generalize treL (es.take k) = TL at *
        have hR := Kept.mk hrow
        have KI : Kept ((Tryz.prog.info? 57).map (·.size) = some CL.length) := ⟨by rw [h34]; kernel_rfl⟩
        have KI2 : Kept ((Tryz.prog.info? 57).map (·.size) = some CL.toArray.size) := ⟨by rw [List.size_toArray]; exact KI.out⟩
        have KS : Kept (CL.toArray.size = 34) := ⟨by rw [List.size_toArray]; exact h34⟩
        have KO : Kept (CL.toArray.all (·.oneCell') = true) := ⟨by rw [Array.all_eq_true_iff_forall_mem]; intro x hx; exact hones x (by simpa using hx)⟩
        have Khz := Kept.mk hoz
        have Khs2 := Kept.mk hs2
        clear hrow h34 hones hoz hs2
        go_upto_region 8 with (first | (refine wpList_load_mid rfl 57 _ rfl b (off + k * 34) rfl CL _ hR.out Tryz.underlying57 rfl KI.out ?_) | (refine BigFrame.wpList_want rfl (fun K hK => wp_store_row 57 _ _ rfl wr.heap.size CL.toArray rfl rfl 57 _ (heap_alloc_new wr _) KI2.out (by rw [KS.out]; rfl) KO.out (hK _ _ ?_)); rw [World.setRow_alloc_new]))
        try rw [hx2]
        clear hx2
        go_wp2_with fail
        refine Calls.mono KMd.out (fun e x3 hp3 => ?_)
        obtain ⟨rfl, hb3⟩ := hp3
        have KS3 := Kept.mk (KS2.out.later Khs2.out hb3)
        have Khs3 : Kept (w.heap.size ≤ x3.heap.size) := ⟨KS3.out.bel.size⟩
        clear hb3 KMd KS2 c0 c1
        go_upto_region 9 with (at_builtin; refine wpList_append_s _ rfl _ _ rfl w.heap.size _ TL rfl KS3.out.own T rfl (by have := KLen.out; have := Khz.out; omega) Khs3.out ?_; intro p4 w4 ho4 hg4; have KS4 := Kept.mk (KS3.out.app Khs3.out ho4 hg4); clear ho4 hg4)
        rw [KosL.out] at KS4
        have Khs4 : Kept (w.heap.size ≤ w4.heap.size) := ⟨KS4.out.bel.size⟩
        have KS4' := Kept.mk (KS4.out.alloc Khs4.out (.cells #[.int .u8 32] 5))
        have Khs4' : Kept (w.heap.size ≤ (w4.alloc (.cells #[.int .u8 32] 5)).heap.size) := ⟨KS4'.out.bel.size⟩
        clear KS3
        go_upto_region 10 with (at_builtin; refine wpList_append_rd _ rfl _ _ 33 rfl .u8 anyB 1 w.heap.size 5 i0 z0 Tryz.underlying33 hi hz hsz hbb hc (by omega) _ (TL ++ OS) rfl KS4'.out.own _ [32] rfl (Rd.one .u8 _ 32 _) (by have := KLen.out; simp only [List.length_append, List.length_singleton]; omega) Khs4'.out ?_; intro p5 w5 ho5 hg5 ha5; have KS5 := Kept.mk (KS4'.out.app Khs4'.out ho5 hg5); clear ho5 hg5)
        have Khs5 : Kept (w.heap.size ≤ w5.heap.size) := ⟨KS5.out.bel.size⟩
        obtain ⟨c0, c1⟩ := KCs.out w5 KS5.out.blk
        clear KS4 KS4' c0
        go_upto_region 11 with (at_builtin; refine wpList_append_s _ rfl _ _ rfl w.heap.size _ (TL ++ OS ++ [32]) rfl KS5.out.own nm rfl (by have := KLen.out; simp only [List.length_append, List.length_singleton]; omega) Khs5.out ?_; intro p6 w6 ho6 hg6; have KS6 := Kept.mk (KS5.out.app Khs5.out ho6 hg6); clear ho6 hg6)
        have Khs6 : Kept (w.heap.size ≤ w6.heap.size) := ⟨KS6.out.bel.size⟩
        have KS6' := Kept.mk (KS6.out.alloc Khs6.out (.cells #[.int .u8 0] 5))
        have Khs6' : Kept (w.heap.size ≤ (w6.alloc (.cells #[.int .u8 0] 5)).heap.size) := ⟨KS6'.out.bel.size⟩
        have Knl := Kept.mk (strL_length nm)
        clear KS5 c1
        generalize strL nm = NL at *
        go_upto_region 12 with (at_builtin; refine wpList_append_rd _ rfl _ _ 33 rfl .u8 anyB 1 w.heap.size 5 i0 z0 Tryz.underlying33 hi hz hsz hbb hc (by omega) _ (TL ++ OS ++ [32] ++ NL) rfl KS6'.out.own _ [0] rfl (Rd.one .u8 _ 0 _) (by have := KLen.out; have := Knl.out; simp only [List.length_append, List.length_singleton]; omega) Khs6'.out ?_; intro p7 w7 ho7 hg7 ha7; have KS7 := Kept.mk (KS6'.out.app Khs6'.out ho7 hg7); clear ho7 hg7)
        have Khs7 : Kept (w.heap.size ≤ w7.heap.size) := ⟨KS7.out.bel.size⟩
        have KRd7 := Kept.mk (KRi.out w7 KS7.out.blk)
        have hsl := slice32 w7 wr.heap.size 2
        clear KS6 KS6'
        go_wp2_with (at_builtin; refine wpList_append_rd _ rfl _ _ 33 rfl .u8 anyB 1 w.heap.size 5 i0 z0 Tryz.underlying33 hi hz hsz hbb hc (by omega) _ (TL ++ OS ++ [32] ++ NL ++ [0]) rfl KS7.out.own _ IDS rfl KRd7.out (by have := KLen.out; have := Knl.out; have := K32.out; simp only [List.length_append, List.length_singleton]; omega) Khs7.out ?_; intro p8 w8 ho8 hg8 ha8; have KS8 := Kept.mk (KS7.out.app Khs7.out ho8 hg8); clear ho8 hg8)
        go_roundw
        case rel =>
          refine ⟨k + 1, by omega, by go_num, ?_, KS8.out.bel⟩
          rw [KSt.out, Ken.out]
          have := KS8.out.own
          simpa only [List.append_assoc] using this
        case measure => simp [intOf]; omega
      · have hki : ¬ (k : Int) < (es.length : Int) := by omega
        have KF : Kept (Own .u8 5 wr w.heap.size (.slice pa (treL (es.take k)).length pc) (putL es)) := ⟨by
          have e : es.take k = es := List.take_of_length_le (by omega)
          rw [KPL.out]
          rw [e] at how ⊢
          exact how⟩
        clear how hbel
        generalize treL (es.take k) = TL at *
        go_wp2
        go_ret2
        exact ⟨_, rfl, KF.out, KBr.out⟩
  · have hd : (E != 0) = true := by simpa using h0
    have KF : Kept (putL es = []) := ⟨by rw [KP.out, if_neg h0]⟩
    clear h0 KP KT
    go_wp2
    go_ret2
    exact ⟨_, rfl, by rw [KF.out]; exact Own.nil _ _ _ _, KB1.out⟩


theorem strL_append (s t : ByteArray) : strL (s ++ t) = strL s ++ strL t := by
  unfold strL
  rw [ByteArray.data_append, Array.toList_append, List.map_append]
theorem wp_append_s {w : World} {o : Oper} {a : Act} {K : Act → World → Prop} {Q : Exit → Act → World → Prop} (sl x : Operand)
    (ho : o.op = .call { callee := .builtin .append, args := #[sl, x], argTypes := #[33, 9] })
    (base : Nat) (v : Value) (xs : List Int) (hs : a.eval sl = v) (hown : Own .u8 5 w base v xs) (s : ByteArray) (hx : a.eval x = .string s)
    (hbytes : xs.length + s.size ≤ 140737488355328) (hbase : base ≤ w.heap.size)
    (h : ∀ v' w', Own .u8 5 w' base v' (xs ++ strL s) → w.grownBy w' v.ownBlock → K (a.put o.dst v') w') : o.wp Tryz.prog a w K Q := by
  obtain ⟨i, hi, hz, hsz, hb⟩ := info8z
  obtain ⟨v', w', hr, h2, h3, -⟩ := Lib.run_append_own_string (P := Tryz.prog) w base 33 9 o.type 5 i Tryz.underlying33 Tryz.underlying9 hi hz hsz hb v xs.length (cellsK .u8 xs) hown s (by unfold maxLen; omega) hbytes hbase
  unfold Oper.wp execOp
  simp only [ho, resolve, invoke, builtin, Sem.run_bind, Sem.run_pure, Result.andThen_ok, List.map_toArray, List.map_cons, List.map_nil, hs, hx, hr]
  refine h v' w' ?_ h3
  unfold Own
  rw [List.length_append, strL_length, cellsK_append, cells_strL]
  exact h2
theorem exec_cat {a : Act} {o : Oper} {W : World} (x y : Operand) (ho : o.op = .binOp .add 9 x y 9) (s t : ByteArray) (hx : a.eval x = .string s) (hy : a.eval y = .string t) (hb : s.size + t.size ≤ 9223372036854775807) : (execOp a.eval o).run Tryz.prog W = .ok (.value (.string (s ++ t))) W := by
  unfold execOp
  have h := run_string_add_sum (P := Tryz.prog) W s t (by omega)
  simp only [ho, hx, hy, Sem.run_bind]
  first
    | (simp [binOp, eqGuard, h]; done)
    | (simp only [binOp]; simp [h])
theorem ids_range {W : World} {g : Nat} {e : EnC} (hb : W.heap[g]? = some (.cells e.l.toArray 57)) : W.rangeAt g 2 (cellsK .u8 e.ids) := fun j u hu => by
  rw [cell_of_row W g (2 + j) _ _ (0, 0) hb, List.getElem?_toArray]
  unfold EnC.l
  rw [show 2 + j = j + 2 by omega, List.getElem?_cons_succ, List.getElem?_cons_succ]
  exact hu
theorem id_box (w : World) {ids : List Int} (h : ids.length = 32) : ∃ w1, w.alloc (.cells (cellsK .u8 ids).toArray 24) = w1 ∧ Below w.heap.size w w1 ∧ Rd .u8 anyB w1 (.slice (some ⟨w.heap.size, 0, none⟩) 32 32) ids := by
  refine ⟨_, rfl, (Below.refl _ _).alloc (Nat.le_refl _) _, ⟨some ⟨w.heap.size, 0, none⟩, 32, by rw [h], by rw [h]; omega, by unfold maxLen; omega, (fun h => by cases h), fun _ => ⟨w.heap.size, 0, rfl, by simp, trivial, fun i hi => ?_⟩⟩⟩
  rw [Nat.zero_add]
  refine alloc_cell _ _ _ _ _ ?_
  unfold cellsK
  simp [List.getD, List.getElem?_eq_getElem hi]

/-- No two of the first k entries have one name. -/
def Un (es : List EnC) (k : Nat) : Prop := ∀ i j (hi : i < es.length) (hj : j < es.length), j < i → i < k → (es[i]'hi).nm ≠ (es[j]'hj).nm
theorem un_smB {es : List EnC} (h : Un es es.length) : smB es = false := by
  cases hs : smB es with
  | false => rfl
  | true =>
    exfalso
    refine (smB_iff es).1 hs ?_
    rw [List.Nodup, List.pairwise_map, List.pairwise_iff_getElem]
    intro i j hi hj hij e
    exact h j i hj hi hij hj (by rcases h1 : (es[j]'hj).nm with ⟨a⟩; rcases h2 : (es[i]'hi).nm with ⟨b⟩; rw [h1, h2] at e; simp only at e; exact congrArg ByteArray.mk (Array.toList_inj.1 e.symm))
theorem same_smB {es : List EnC} {i j : Nat} (hi : i < es.length) (hj : j < es.length) (hij : j < i) (e : (es[i]'hi).nm = (es[j]'hj).nm) : smB es = true := by
  rw [smB_iff]
  intro h
  rw [List.Nodup, List.pairwise_map, List.pairwise_iff_getElem] at h
  exact h j i hj hi hij (by rw [e])
/-- One of the first k entries has a mode that is none, or doesn't stand behind the one ahead. -/
def fmB (es : List EnC) (k : Nat) : Bool := (List.range k).any fun i => noMode (eI es i) || (decide (0 < i) && decide (0 ≤ ordE (eI es (i - 1)) (eI es i)))
theorem fmB_step (es : List EnC) (k : Nat) : fmB es (k + 1) = (fmB es k || noMode (eI es k) || (decide (0 < k) && decide (0 ≤ ordE (eI es (k - 1)) (eI es k)))) := by
  unfold fmB
  rw [List.range_succ, List.any_append]
  simp [Bool.or_assoc]
theorem fmB_all (es : List EnC) : fmB es es.length = (es.any noMode || !riB es) := by
  rw [Bool.eq_iff_iff]
  unfold fmB
  rw [List.any_eq_true, Bool.or_eq_true, List.any_eq_true]
  constructor
  · rintro ⟨i, hi, h⟩
    have hi : i < es.length := by simpa using hi
    rcases Bool.or_eq_true_iff.1 h with h | h
    · exact .inl ⟨eI es i, by rw [eI_get hi]; exact List.getElem_mem hi, h⟩
    · right
      have h1 := of_decide_eq_true (Bool.and_eq_true_iff.1 h).1
      have h2 := of_decide_eq_true (Bool.and_eq_true_iff.1 h).2
      cases hr : riB es with
      | false => rfl
      | true =>
        exfalso
        have := (riB_iff es).1 hr (i - 1) (by omega)
        obtain ⟨j, rfl⟩ : ∃ j, i = j + 1 := ⟨i - 1, by omega⟩
        rw [show j + 1 - 1 = j by omega, eI_get (by omega), eI_get hi] at h2
        simp only [Nat.add_sub_cancel] at this
        omega
  · rintro (⟨e, he, h⟩ | h)
    · obtain ⟨i, hi, rfl⟩ := List.getElem_of_mem he
      exact ⟨i, by simpa using hi, by rw [eI_get hi, h]; rfl⟩
    · have hr : riB es = false := by simpa using h
      have hn : ¬ RiE es := fun hh => by rw [(riB_iff es).2 hh] at hr; cases hr
      unfold RiE at hn
      have : ∃ k, ∃ h : k + 1 < es.length, ¬ ordE (es[k]'(by omega)) es[k + 1] < 0 := Classical.byContradiction fun hc => hn fun k hk => Classical.byContradiction fun hc2 => hc ⟨k, hk, hc2⟩
      obtain ⟨k, hk, hc⟩ := this
      refine ⟨k + 1, by simpa using hk, ?_⟩
      rw [Nat.add_sub_cancel, eI_get (show k < es.length by omega), eI_get hk]
      simp only [Bool.or_eq_true, Bool.and_eq_true, decide_eq_true_eq]
      right
      omega
/-- The least of the four errors is the program's. -/
theorem least_tree {es : List EnC} (hl : es.length ≤ 4096) : [if es.any noName = true then 3 else 0, if (es.any noMode || !riB es) = true then 4 else 0, if smB es = true then 8 else 0, if decide (1048576 < tsF es) = true then 2 else 0].foldl lsF 0 = treE es := by
  unfold treE
  have e1 : (4096 < es.length ∨ 1048576 < tsF es) ↔ decide (1048576 < tsF es) = true := by rw [decide_eq_true_iff]; omega
  have e2 : (es.any noMode = true ∨ riB es = false) ↔ (es.any noMode || !riB es) = true := by simp
  simp only [e1, e2]
  generalize decide (1048576 < tsF es) = p1
  generalize es.any noName = p2
  generalize (es.any noMode || !riB es) = p3
  generalize smB es = p4
  revert p1 p2 p3 p4
  decide

end Go.Proofs.YtfdemmndbjaipaaGreatDoor
