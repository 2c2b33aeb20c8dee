/-
  PutTree over any list of entries.
-/
import Derived.Test.YtkbalngddlhlpaaGreatDoorO21
import Derived.Deep.RegionHeld3
import Derived.Test.YtkbalngddlhlpaaGreatDoorN27
import Derived.Test.YtkbalngddlhlpaaGreatDoorO10B
namespace Go.Proofs.YtkbalngddlhlpaaGreatDoor
open Go.RowKit

theorem Own.ty {k : IntKind} {e : TypeId} {w : World} {base : Nat} {v : Value} {xs : List Int} (h : Own k e w base v xs) {q : Nat} (hq : v.ownBlock = some q) : ∃ cur, w.heap[q]? = some (.cells cur e) := by
  rcases h with ⟨-, ⟨rfl, -⟩ | ⟨g, cap, cur, rfl, -, hg, -⟩⟩
  · cases hq
  · cases hq
    exact ⟨cur, hg⟩
structure StB (w W : World) (base : Nat) (pv : Value) (xs : List Int) (g : Nat) (C : Array Value) : Prop where
  own : Own .u8 5 W base pv xs
  blk : W.heap[g]? = some (.cells C 33)
  bel : Below base w W
section
variable {w W W' : World} {base g : Nat} {pv pv' : Value} {xs ys : List Int} {C : Array Value}
theorem StB.lt (h : StB w W base pv xs g C) : g < W.heap.size := by
  rcases Nat.lt_or_ge g W.heap.size with h' | h'
  · exact h'
  · have := h.blk
    rw [Array.getElem?_eq_none h'] at this
    cases this
theorem StB.ne (h : StB w W base pv xs g C) {q : Nat} (hq : pv.ownBlock = some q) : q ≠ g := fun e => by
  obtain ⟨cur, hc⟩ := h.own.ty hq
  rw [e, h.blk] at hc
  injection hc with hc
  injection hc with _ hc
  revert hc
  decide
theorem StB.app (h : StB w W base pv xs g C) (hb : base ≤ W.heap.size) (ho : Own .u8 5 W' base pv' ys) (hg : W.grownBy W' pv.ownBlock) : StB w W' base pv' ys g C := by
  have hl := h.lt
  refine ⟨ho, ?_, h.bel.trans ((Below.refl _ W).grown hg hb (fun q hq => (h.own.lt q hq).1))⟩
  rw [hg.block g hl (fun e => h.ne e.symm rfl)]
  exact h.blk
theorem StB.alloc (h : StB w W base pv xs g C) (hb : base ≤ W.heap.size) (o : Obj) : StB w (W.alloc o) base pv xs g C :=
  ⟨h.own.alloc o, by rw [Below.heap_alloc W o g h.lt]; exact h.blk, h.bel.alloc hb o⟩
theorem StB.later (h : StB w W base pv xs g C) (hb : base ≤ W.heap.size) (hl : Below W.heap.size W W') : StB w W' base pv xs g C :=
  ⟨h.own.later hl (Nat.le_refl _), by rw [hl.block g h.lt]; exact h.blk, h.bel.trans (hl.mono hb)⟩
end
theorem rd_ids {W : World} {g : Nat} {e : EnC} (h : e.ok) (hb : W.heap[g]? = some (.cells e.l.toArray 33)) : Rd .u8 anyB W (.slice (some ⟨g, 2, none⟩) 32 32) e.ids := by
  have hlt : g < W.heap.size := by
    rcases Nat.lt_or_ge g W.heap.size with h' | h'
    · exact h'
    · rw [Array.getElem?_eq_none h'] at hb
      cases hb
  refine ⟨some ⟨g, 2, none⟩, 32, by rw [h.1], by rw [h.1]; omega, by unfold maxLen; omega, (fun h => by cases h), fun _ => ⟨g, 2, rfl, hlt, trivial, fun i hi => ?_⟩⟩
  rw [cell_of_row W g (2 + i) _ _ (0, 0) hb, List.getElem?_toArray]
  unfold EnC.l
  rw [show 2 + i = i + 2 by omega, List.getElem?_cons_succ, List.getElem?_cons_succ]
  unfold cellsK
  simp [List.getD, List.getElem?_eq_getElem hi]
def putL (es : List EnC) : List Int := if treE es = 0 then treL es else []
theorem treE_ok {es : List EnC} (h : treE es = 0) : es.length ≤ 4096 ∧ tsF es ≤ 1048576 := by
  unfold treE at h
  by_cases h1 : 4096 < es.length ∨ 1048576 < tsF es
  · rw [if_pos h1] at h; omega
  · omega

set_option maxHeartbeats 4000000 in
set_option maxRecDepth 100000 in
theorem putTree_any (v : Value) (es : List EnC) (w : World) (hg : Gv w) (hr : RdE w v es) :
    Calls Tryz.prog 7 #[v] w fun e w' => ∃ v', e = .returned (.tuple #[v', .int .i64 (treE es)]) ∧ Own .u8 5 w' w.heap.size v' (putL es) ∧ Below w.heap.size w w' := by
  have K1 := Kept.mk (treeError_any v es w hg hr)
  have KG := Kept.mk hg
  obtain ⟨a, c, rfl, hlc, hok, hrd⟩ := hr
  have KR := Kept.mk hrd
  have KK := Kept.mk hok
  obtain ⟨i0, z0, hi, hz, hsz, hbb, hc⟩ := info8
  have KT := Kept.mk (treE_ok (es := es))
  have KP : Kept (putL es = if treE es = 0 then treL es else []) := ⟨rfl⟩
  generalize treE es = E at *
  clear hg hok hrd
  go_enter Tryz.func7, Tryz.ntmps7
  go_wp2_with fail
  refine Calls.mono K1.out (fun e w1 hp => ?_)
  obtain ⟨rfl, hb1⟩ := hp
  have KB1 := Kept.mk hb1
  clear hb1 K1
  by_cases h0 : E = 0
  · subst h0
    obtain ⟨hl, hts⟩ := KT.out rfl
    have KPL : Kept (putL es = treL es) := ⟨by rw [KP.out, if_pos rfl]⟩
    have Kts := Kept.mk hts
    clear hts KT KP
    go_wp2
    go_loopw [5, 15] (fun pv kv wr => ∃ k : Nat, k ≤ es.length ∧ kv = .int .i64 k ∧ Own .u8 5 wr w.heap.size pv (treL (es.take k)) ∧ Below w.heap.size w wr) (fun _ kv _ => es.length - (intOf kv).toNat)
    case atStart => exact ⟨0, Nat.zero_le _, rfl, Own.nil _ _ _ _, KB1.out⟩
    case round =>
      obtain ⟨k, hk, rfl, how, hbel⟩ := hrel
      have KOr := Kept.mk how
      have KBr := Kept.mk hbel
      obtain ⟨pa, pc, rfl, -, -, -⟩ := how.rd.form
      by_cases hlt : k < es.length
      · have hki : (k : Int) < (es.length : Int) := by omega
        obtain ⟨b, off, rfl, hbl, hrg⟩ := KR.out (by omega)
        have hrow : wr.rangeAt b (off + k * 34) (es[k]'hlt).l := fun j u hu => by
          rw [hbel.cell (p := ⟨b, off + k * 34 + j, none⟩) hbl]
          exact hrg k hlt j u hu
        have hoke := KK.out _ (List.getElem_mem hlt)
        have h34 := EnC.len hoke
        have hones := EnC.ones (es[k]'hlt)
        have hsum := tsF_take KK.out hlt
        have htl := treL_len (es := es.take k) (fun e he => KK.out e (List.mem_of_mem_take he))
        have KSt := Kept.mk (treL_step es hlt)
        have Ken : Kept (entL (es[k]'hlt) = octS (es[k]'hlt).m ++ [32] ++ strL (es[k]'hlt).nm ++ [0] ++ (es[k]'hlt).ids) := ⟨rfl⟩
        have hosz := octS_size (es[k]'hlt).m
        have hosl := strL_strOf (octS_bytes hoke.2.2.1 hoke.2.2.2.1)
        obtain ⟨x2, hx2, hB2, c0, c1⟩ := EnC.box wr (es[k]'hlt)
        have hblk : x2.heap[wr.heap.size]? = some (.cells (es[k]'hlt).l.toArray 33) := by rw [← hx2]; exact heap_alloc_new wr _
        have hs0 : w.heap.size ≤ wr.heap.size := hbel.size
        have hs2 : w.heap.size ≤ x2.heap.size := Nat.le_trans hs0 hB2.size
        have hS2 : StB w x2 w.heap.size (.slice pa (treL (es.take k)).length pc) (treL (es.take k)) wr.heap.size (es[k]'hlt).l.toArray :=
          ⟨how.later hB2 (Nat.le_refl _), hblk, hbel.trans (hB2.mono hs0)⟩
        have KS2 := Kept.mk hS2
        have KMd := Kept.mk (modeDigits_all (es[k]'hlt).m x2 (KG.out.later hS2.bel) hoke.2.2.1 hoke.2.2.2.1)
        have e2 : IntKind.i64.wrap ((k : Int) + 1) = (k : Int) + 1 := wr64 (by omega) (by omega)
        have Kok := Kept.mk hoke
        have Kts' := Kts.out
        have KLen : Kept ((treL (es.take k)).length + (octS (es[k]'hlt).m).length + 1 + (es[k]'hlt).nm.size + 1 + 32 ≤ 1048576) := ⟨by omega⟩
        have KRi : Kept (∀ W : World, W.heap[wr.heap.size]? = some (.cells (es[k]'hlt).l.toArray 33) → Rd .u8 anyB W (.slice (some ⟨wr.heap.size, 2, none⟩) 32 32) (es[k]'hlt).ids) := ⟨fun W h => rd_ids hoke h⟩
        have K32 : Kept ((es[k]'hlt).ids.length = 32) := ⟨hoke.1⟩
        have KCs : Kept (∀ W : World, W.heap[wr.heap.size]? = some (.cells (es[k]'hlt).l.toArray 33) → W.cell? ⟨wr.heap.size, 0, none⟩ = some (.int .i64 (es[k]'hlt).m) ∧ W.cell? ⟨wr.heap.size, 1, none⟩ = some (.string (es[k]'hlt).nm)) := ⟨fun W h => ⟨by rw [cell_of_row W _ 0 _ _ (0, 0) h]; rfl, by rw [cell_of_row W _ 1 _ _ (0, 0) h]; rfl⟩⟩
        clear hbel hrg hoke hsum htl hS2 hblk hB2 how hs0 Kts'
        obtain ⟨CL, hCL⟩ : ∃ CL, (es[k]'hlt).l = CL := ⟨_, rfl⟩
        rw [hCL] at hrow h34 hones hx2 KS2 KRi KCs
        clear hCL
        have KosL : Kept (strL (strOfNums (octS (es[k]'hlt).m)) = octS (es[k]'hlt).m) := ⟨hosl⟩
        have hoz : (strOfNums (octS (es[k]'hlt).m)).size = (octS (es[k]'hlt).m).length := hosz.1
        clear hosl hosz
        generalize strOfNums (octS (es[k]'hlt).m) = T at *
        generalize octS (es[k]'hlt).m = OS at *
        generalize (es[k]'hlt).m = m at *
        generalize (es[k]'hlt).nm = nm at *
        generalize (es[k]'hlt).ids = IDS at *
        generalize treL (es.take k) = TL at *
        have hR := Kept.mk hrow
        have KI : Kept ((Tryz.prog.info? 33).map (·.size) = some CL.length) := ⟨by rw [h34]; kernel_rfl⟩
        have KI2 : Kept ((Tryz.prog.info? 33).map (·.size) = some CL.toArray.size) := ⟨by rw [List.size_toArray]; exact KI.out⟩
        have KS : Kept (CL.toArray.size = 34) := ⟨by rw [List.size_toArray]; exact h34⟩
        have KO : Kept (CL.toArray.all (·.oneCell') = true) := ⟨by rw [Array.all_eq_true_iff_forall_mem]; intro x hx; exact hones x (by simpa using hx)⟩
        have Khz := Kept.mk hoz
        have Khs2 := Kept.mk hs2
        clear hrow h34 hones hoz hs2
        go_upto_region 8 with (first | (refine wpList_load_mid rfl 33 _ rfl b (off + k * 34) rfl CL _ hR.out Tryz.underlying33 rfl KI.out ?_) | (refine BigFrame.wpList_want rfl (fun K hK => wp_store_row 33 _ _ rfl wr.heap.size CL.toArray rfl rfl 33 _ (heap_alloc_new wr _) KI2.out (by rw [KS.out]; rfl) KO.out (hK _ _ ?_)); rw [World.setRow_alloc_new]))
        try rw [hx2]
        clear hx2
        go_wp2_with fail
        refine Calls.mono KMd.out (fun e x3 hp3 => ?_)
        obtain ⟨rfl, hb3⟩ := hp3
        have KS3 := Kept.mk (KS2.out.later Khs2.out hb3)
        have Khs3 : Kept (w.heap.size ≤ x3.heap.size) := ⟨KS3.out.bel.size⟩
        clear hb3 KMd KS2 c0 c1
        go_upto_region 9 with (at_builtin; refine wpList_append_s _ rfl _ _ rfl w.heap.size _ TL rfl KS3.out.own T rfl (by have := KLen.out; have := Khz.out; omega) Khs3.out ?_; intro p4 w4 ho4 hg4; have KS4 := Kept.mk (KS3.out.app Khs3.out ho4 hg4); clear ho4 hg4)
        rw [KosL.out] at KS4
        have Khs4 : Kept (w.heap.size ≤ w4.heap.size) := ⟨KS4.out.bel.size⟩
        have KS4' := Kept.mk (KS4.out.alloc Khs4.out (.cells #[.int .u8 32] 5))
        have Khs4' : Kept (w.heap.size ≤ (w4.alloc (.cells #[.int .u8 32] 5)).heap.size) := ⟨KS4'.out.bel.size⟩
        clear KS3
        go_upto_region 10 with (at_builtin; refine wpList_append_rd _ rfl _ _ 27 rfl .u8 anyB 1 w.heap.size 5 i0 z0 Tryz.underlying27 hi hz hsz hbb hc (by omega) _ (TL ++ OS) rfl KS4'.out.own _ [32] rfl (Rd.one .u8 _ 32 _) (by have := KLen.out; simp only [List.length_append, List.length_singleton]; omega) Khs4'.out ?_; intro p5 w5 ho5 hg5 ha5; have KS5 := Kept.mk (KS4'.out.app Khs4'.out ho5 hg5); clear ho5 hg5)
        have Khs5 : Kept (w.heap.size ≤ w5.heap.size) := ⟨KS5.out.bel.size⟩
        obtain ⟨c0, c1⟩ := KCs.out w5 KS5.out.blk
        clear KS4 KS4' c0
        go_upto_region 11 with (at_builtin; refine wpList_append_s _ rfl _ _ rfl w.heap.size _ (TL ++ OS ++ [32]) rfl KS5.out.own nm rfl (by have := KLen.out; simp only [List.length_append, List.length_singleton]; omega) Khs5.out ?_; intro p6 w6 ho6 hg6; have KS6 := Kept.mk (KS5.out.app Khs5.out ho6 hg6); clear ho6 hg6)
        have Khs6 : Kept (w.heap.size ≤ w6.heap.size) := ⟨KS6.out.bel.size⟩
        have KS6' := Kept.mk (KS6.out.alloc Khs6.out (.cells #[.int .u8 0] 5))
        have Khs6' : Kept (w.heap.size ≤ (w6.alloc (.cells #[.int .u8 0] 5)).heap.size) := ⟨KS6'.out.bel.size⟩
        have Knl := Kept.mk (strL_length nm)
        clear KS5 c1
        generalize strL nm = NL at *
        go_upto_region 12 with (at_builtin; refine wpList_append_rd _ rfl _ _ 27 rfl .u8 anyB 1 w.heap.size 5 i0 z0 Tryz.underlying27 hi hz hsz hbb hc (by omega) _ (TL ++ OS ++ [32] ++ NL) rfl KS6'.out.own _ [0] rfl (Rd.one .u8 _ 0 _) (by have := KLen.out; have := Knl.out; simp only [List.length_append, List.length_singleton]; omega) Khs6'.out ?_; intro p7 w7 ho7 hg7 ha7; have KS7 := Kept.mk (KS6'.out.app Khs6'.out ho7 hg7); clear ho7 hg7)
        have Khs7 : Kept (w.heap.size ≤ w7.heap.size) := ⟨KS7.out.bel.size⟩
        have KRd7 := Kept.mk (KRi.out w7 KS7.out.blk)
        have hsl := slice32 w7 wr.heap.size 2
        clear KS6 KS6'
        go_wp2_with (at_builtin; refine wpList_append_rd _ rfl _ _ 27 rfl .u8 anyB 1 w.heap.size 5 i0 z0 Tryz.underlying27 hi hz hsz hbb hc (by omega) _ (TL ++ OS ++ [32] ++ NL ++ [0]) rfl KS7.out.own _ IDS rfl KRd7.out (by have := KLen.out; have := Knl.out; have := K32.out; simp only [List.length_append, List.length_singleton]; omega) Khs7.out ?_; intro p8 w8 ho8 hg8 ha8; have KS8 := Kept.mk (KS7.out.app Khs7.out ho8 hg8); clear ho8 hg8)
        go_roundw
        case rel =>
          refine ⟨k + 1, by omega, by go_num, ?_, KS8.out.bel⟩
          rw [KSt.out, Ken.out]
          have := KS8.out.own
          simpa only [List.append_assoc] using this
        case measure => simp [intOf]; omega
      · have hki : ¬ (k : Int) < (es.length : Int) := by omega
        have KF : Kept (Own .u8 5 wr w.heap.size (.slice pa (treL (es.take k)).length pc) (putL es)) := ⟨by
          have e : es.take k = es := List.take_of_length_le (by omega)
          rw [KPL.out]
          rw [e] at how ⊢
          exact how⟩
        clear how hbel
        generalize treL (es.take k) = TL at *
        go_wp2
        go_ret2
        exact ⟨_, rfl, KF.out, KBr.out⟩
  · have hd : (E != 0) = true := by simpa using h0
    have KF : Kept (putL es = []) := ⟨by rw [KP.out, if_neg h0]⟩
    clear h0 KP KT
    go_wp2
    go_ret2
    exact ⟨_, rfl, by rw [KF.out]; exact Own.nil _ _ _ _, KB1.out⟩






end Go.Proofs.YtkbalngddlhlpaaGreatDoor
