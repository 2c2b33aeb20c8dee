/-
  A label built of three fields; what the document's reader of tags guesses. (Pure.)
-/
import Derived.Test.YtkdlhcegimnocaaGreatDoorL11
import Derived.Test.YtkdlhcegimnocaaGreatDoorL13
import Derived.Test.YtkdlhcegimnocaaGreatDoorShD3
import Derived.Test.YtkdlhcegimnocaaGreatDoorO10C
import Derived.Test.YtkdlhcegimnocaaGreatDoorO15
namespace Go.Proofs.YtkdlhcegimnocaaGreatDoor
open Go.RowKit

set_option maxRecDepth 100000 in
theorem builtL (X Y Z : Value) : Tryz.prog.built 61 [(1, X), (2, Y), (4, Z)] = Instr.fill ((#[(0, 32), (32, 1), (33, 1), (34, 4), (38, 1)] : Array (Nat × Nat))[·]?) lb0.l.toArray [(1, X), (2, Y), (4, Z)] := by kernel_rfl
theorem z32N_len : (cellsK .u8 z32N).length = 32 := by rw [cellsK_length]; simp [z32N]
theorem fillL_three (k : Int) (nm ms : ByteArray) : Instr.fill ((#[(0, 32), (32, 1), (33, 1), (34, 4), (38, 1)] : Array (Nat × Nat))[·]?) lb0.l.toArray [(1, .int .i64 k), (2, .string nm), (4, .string ms)] = some (LbC.l ⟨z32N, k, nm, idt0, ms⟩).toArray := by
  have e0 : lb0.l = cellsK .u8 z32N ++ [Value.int .i64 0] ++ [.string ⟨#[]⟩, .string ⟨#[]⟩, .string ⟨#[]⟩, .int .i64 0, .int .i64 0, .string ⟨#[]⟩] := by
    unfold LbC.l LbC.tl lb0 idt0
    simp
  rw [e0, fillE_cons _ 1 _ _ (cellsK .u8 z32N) [Value.int .i64 0] _ [Value.int .i64 k] (by rw [z32N_len]; rfl) rfl rfl]
  have e1 : cellsK .u8 z32N ++ [Value.int .i64 k] ++ [.string ⟨#[]⟩, .string ⟨#[]⟩, .string ⟨#[]⟩, .int .i64 0, .int .i64 0, .string ⟨#[]⟩] = (cellsK .u8 z32N ++ [Value.int .i64 k]) ++ [.string ⟨#[]⟩] ++ [.string ⟨#[]⟩, .string ⟨#[]⟩, .int .i64 0, .int .i64 0, .string ⟨#[]⟩] := by simp
  rw [e1, fillE_cons _ 2 _ _ (cellsK .u8 z32N ++ [Value.int .i64 k]) [.string ⟨#[]⟩] _ [Value.string nm] (by rw [List.length_append, z32N_len]; rfl) rfl rfl]
  have e2 : cellsK .u8 z32N ++ [Value.int .i64 k] ++ [.string nm] ++ [.string ⟨#[]⟩, .string ⟨#[]⟩, .int .i64 0, .int .i64 0, .string ⟨#[]⟩] = (cellsK .u8 z32N ++ [Value.int .i64 k, .string nm, .string ⟨#[]⟩, .string ⟨#[]⟩, .int .i64 0, .int .i64 0]) ++ [.string ⟨#[]⟩] ++ [] := by simp
  rw [e2, fillE_cons _ 4 _ _ (cellsK .u8 z32N ++ [Value.int .i64 k, .string nm, .string ⟨#[]⟩, .string ⟨#[]⟩, .int .i64 0, .int .i64 0]) [.string ⟨#[]⟩] [] [Value.string ms] (by rw [List.length_append, z32N_len]; rfl) rfl rfl]
  unfold Instr.fill LbC.l LbC.tl idt0
  simp
theorem yieldsIf_buildL {ops : Array Oper} {S : World → Prop} {op : Oper} {a : Act} (hw : Region.wanted op (yielded ops a.tmps) = true) (o1 o2 o3 : Operand) (ho : op.op = .build 61 #[(1, o1), (2, o2), (4, o3)])
    (k : Int) (nm ms : ByteArray) (h1 : a.eval o1 = .int .i64 k) (h2 : a.eval o2 = .string nm) (h3 : a.eval o3 = .string ms) : YieldsIf Tryz.prog ops S op (.agg (LbC.l ⟨z32N, k, nm, idt0, ms⟩).toArray) a :=
  .inl ⟨hw, fun w _ => by
    have hb : Tryz.prog.built 61 [(1, Value.int .i64 k), (2, Value.string nm), (4, Value.string ms)] = some (LbC.l ⟨z32N, k, nm, idt0, ms⟩).toArray := by
      rw [builtL]
      exact fillL_three k nm ms
    have hr := run_build (P := Tryz.prog) w 61 #[(1, Value.int .i64 k), (2, Value.string nm), (4, Value.string ms)] _ hb
    unfold execOp
    simp only [ho, Sem.run_bind, List.map_toArray, List.map_cons, List.map_nil, h1, h2, h3, hr, Result.andThen_ok, Sem.run_pure]⟩
def LnR (t word a b : List UInt8) (ok : Bool) : Prop := (ok = true ∧ LnAt t word a b) ∨ (ok = false ∧ LnNo t word)
theorem ln_force {t word a b a' b' : List UInt8} {ok : Bool} (h : LnAt t word a' b') (g : LnR t word a b ok) : ok = true ∧ a = a' ∧ b = b' := by
  rcases g with ⟨rfl, g⟩ | ⟨rfl, g⟩
  · have := ln_one g h
    exact ⟨rfl, this.1, this.2⟩
  · exact absurd h (g _ _)
theorem ln_at_size {t word a b : ByteArray} (h : LnAt t.data.toList word.data.toList a.data.toList b.data.toList) : a.size ≤ t.size ∧ b.size ≤ t.size := by
  have := congrArg List.length h.1
  simp only [List.length_append, List.length_cons, ← Lib.size_eq] at this
  omega
def LnG (t word : ByteArray) (w : World) (e : Ending) (w' : World) : Prop := ∃ (a b : ByteArray) (ok : Bool), e = .returned (.tuple #[.string a, .string b, .bool ok]) ∧ LnR t.data.toList word.data.toList a.data.toList b.data.toList ok ∧ a.size ≤ t.size ∧ b.size ≤ t.size ∧ Below w.heap.size w w'
theorem lineG_any (t word : ByteArray) (w : World) (hs : t.size ≤ 1048576) (hw : word.size ≤ 100) : Calls Tryz.prog 31 #[.string t, .string word] w (LnG t word w) :=
  (line_any t word w hs hw).mono fun e w' h => by
    rcases h with ⟨h1, h2, h3⟩ | ⟨a, b, h1, h2, h3⟩
    · exact ⟨_, _, _, h2, .inr ⟨rfl, h1⟩, Nat.zero_le _, Nat.zero_le _, h3⟩
    · exact ⟨a, b, true, h2, .inl ⟨rfl, h1⟩, (ln_at_size h1).1, (ln_at_size h1).2, h3⟩
theorem tg_force {t a1 t1 a2 t2 a3 t3 a4 t4 : List UInt8} {k1 k2 k3 k4 : Bool} (h1 : LnR t wO a1 t1 k1) (h2 : LnR t1 wT a2 t2 k2) (h3 : LnR t2 wG a3 t3 k3) (h4 : LnR t3 wR a4 t4 k4)
    {c : LbC} (hc : c.ok) (h0 : teF c = 0) (he : tgU c = t) : k1 = true ∧ k2 = true ∧ k3 = true ∧ k4 = true ∧ t4 ≠ [] ∧ pcF a1 a2 a3 a4 (t4.drop 1) = c := by
  obtain ⟨g1, g2, g3, g4⟩ := tg_lines hc h0
  rw [he] at g1
  obtain ⟨e1, f1, rfl⟩ := ln_force g1 h1
  obtain ⟨e2, f2, rfl⟩ := ln_force g2 h2
  obtain ⟨e3, f3, rfl⟩ := ln_force g3 h3
  obtain ⟨e4, f4, rfl⟩ := ln_force g4 h4
  refine ⟨e1, e2, e3, e4, by simp, ?_⟩
  rw [f1, f2, f3, f4, List.drop_one, List.tail_cons]
  exact pc_back hc h0
theorem dg_none {xs : List Int} (hl : xs.length ≤ 1048576) {a1 t1 a2 t2 a3 t3 a4 t4 : List UInt8} {k1 k2 k3 k4 : Bool} (h1 : LnR (strOfNums xs).data.toList wO a1 t1 k1) (h2 : LnR t1 wT a2 t2 k2) (h3 : LnR t2 wG a3 t3 k3) (h4 : LnR t3 wR a4 t4 k4)
    (h : ¬ (k1 = true ∧ k2 = true ∧ k3 = true ∧ k4 = true ∧ t4 ≠ [])) : DgEnd xs lb0 4 :=
  .inr ⟨hl, .inr ⟨fun c hc h0 he => by
    obtain ⟨e1, e2, e3, e4, e5, -⟩ := tg_force h1 h2 h3 h4 hc h0 he
    exact h ⟨e1, e2, e3, e4, e5⟩, rfl, rfl⟩⟩
theorem dg_bad {xs : List Int} (hl : xs.length ≤ 1048576) {a1 t1 a2 t2 a3 t3 a4 t4 : List UInt8} {k1 k2 k3 k4 : Bool} (h1 : LnR (strOfNums xs).data.toList wO a1 t1 k1) (h2 : LnR t1 wT a2 t2 k2) (h3 : LnR t2 wG a3 t3 k3) (h4 : LnR t3 wR a4 t4 k4)
    (h : ¬ (teF (pcF a1 a2 a3 a4 (t4.drop 1)) = 0 ∧ tgU (pcF a1 a2 a3 a4 (t4.drop 1)) = (strOfNums xs).data.toList)) : DgEnd xs lb0 4 :=
  .inr ⟨hl, .inr ⟨fun c hc h0 he => by
    obtain ⟨-, -, -, -, -, e⟩ := tg_force h1 h2 h3 h4 hc h0 he
    rw [e] at h
    exact h ⟨h0, he⟩, rfl, rfl⟩⟩
theorem tgL_bytes {c : LbC} (hok : c.ok) : Sh.AllB (tgL c) := by
  rw [← tg_str c hok]
  exact strL_allB _
theorem tgL_eq {c : LbC} (hok : c.ok) {xs : List Int} (hA : Sh.AllB xs) : tgL c = xs ↔ tgU c = (strOfNums xs).data.toList := by
  constructor
  · rintro rfl
    exact (tgL_U c).symm
  · intro h
    rw [← tgL_U] at h
    have := strs_eq (tgL_bytes hok) hA
    have e : strOfNums (tgL c) = strOfNums xs := by
      apply ByteArray.ext
      apply Array.ext'
      exact h
    rw [e] at this
    simp at this
    exact this


set_option maxHeartbeats 8000000 in
set_option maxRecDepth 100000 in
theorem docParseTag_any (v : Value) (xs : List Int) (w : World) (hgl : Gl w) (hr : Rd .u8 anyB w v xs) (hA : Sh.AllB xs) :
    Calls Tryz.prog 19 #[v] w fun e w' => ∃ R E, e = .returned (.tuple #[.agg R.l.toArray, .int .i64 E]) ∧ DgEnd xs R E ∧ Below w.heap.size w w' := by
  have hB0 : Below w.heap.size w (w.alloc (.cells lb0.l.toArray 61)) := (Below.refl _ _).alloc (Nat.le_refl _) _
  have hE0 : LbB (w.alloc (.cells lb0.l.toArray 61)) w.heap.size lb0 := heap_alloc_new w _
  obtain ⟨w0, hw0⟩ : ∃ w0, w.alloc (.cells lb0.l.toArray 61) = w0 := ⟨_, rfl⟩
  rw [hw0] at hB0 hE0
  have KRd := Kept.mk (hr.later hB0 (Nat.le_refl _))
  have KRdw := Kept.mk hr
  obtain ⟨pa, pc, rfl, -, -, -, -⟩ := hr
  have KGl : Kept (∀ W, Below w.heap.size w W → Gl W) := ⟨fun W hW => hgl.later hW⟩
  have KBw0 := Kept.mk hB0
  have KEw0 := Kept.mk hE0
  have Kltw0 := Kept.mk hE0.lt
  have KA := Kept.mk hA
  clear hgl hA
  by_cases hl : 1048576 < xs.length
  · have hli : (1048576 : Int) < (xs.length : Int) := by omega
    have KE : Kept (DgEnd xs lb0 2) := ⟨.inl ⟨hl, rfl, rfl⟩⟩
    have KL := Kept.mk (lb_end lb0_ok hE0 hE0 hB0)
    clear hl hB0 hE0 KRd KRdw
    go_enter Tryz.func19, Tryz.ntmps19
    go_upto_region 1 with fail
    generalize hOb : Obj.cells (_ : Array Value) 61 = Ob
    have hOb2 : Ob = Obj.cells lb0.l.toArray 61 := by subst hOb; rfl
    subst hOb2
    clear hOb
    rw [hw0]
    clear hw0
    go_wp2_with (first | (refine wpList_store_mid rfl 61 _ _ rfl w.heap.size 0 lb0.l.toArray rfl rfl KL.out.th KL.out.il2 KL.out.ol ?_))
    refine bodyPost_ret (v := .tuple #[.agg lb0.l.toArray, .int .i64 2]) (Sh.results_row2 (p := 2) (u := 3) (ty := 61) Tryz.results19 _ _ w.heap.size 61 _ (0, 0) _ rfl KL.out.fin Tryz.underlying61 rfl KL.out.il2) rfl ⟨_, 2, rfl, KE.out, KL.out.bf⟩
  · have hli : ¬ (1048576 : Int) < (xs.length : Int) := by omega
    have Kl : Kept (xs.length ≤ 1048576) := ⟨by omega⟩
    have hcv := KRd.out.str Tryz.underlying22 Tryz.underlying5 9 Tryz.underlying9
    obtain ⟨S, hS⟩ : ∃ S, strOfNums xs = S := ⟨_, rfl⟩
    have KS := Kept.mk hS
    rw [hS] at hcv
    have Ks1 : Kept (S.size ≤ 1048576) := ⟨by rw [← hS, strOfNums_size]; exact Kl.out⟩
    have L1 := Kept.mk (lineG_any S ⟨wO.toArray⟩ w0 Ks1.out (by decide))
    clear hl hB0 hE0 KRd hS
    go_enter Tryz.func19, Tryz.ntmps19
    go_upto_region 1 with fail
    generalize hOb : Obj.cells (_ : Array Value) 61 = Ob
    have hOb2 : Ob = Obj.cells lb0.l.toArray 61 := by subst hOb; rfl
    subst hOb2
    clear hOb
    rw [hw0]
    clear hw0
    go_wp2_with fail
    refine Calls.mono L1.out (fun e w1 hp => ?_)
    obtain ⟨a1, t1, k1, rfl, hln, hsa, hst, hb⟩ := hp
    have KR1 := Kept.mk hln
    have Ksa1 : Kept (a1.size ≤ 1048576) := ⟨Nat.le_trans hsa Ks1.out⟩
    have Ks2 : Kept (t1.size ≤ 1048576) := ⟨Nat.le_trans hst Ks1.out⟩
    have KBw1 := Kept.mk (KBw0.out.trans (hb.mono KBw0.out.size))
    have KEw1 := Kept.mk (KEw0.out.far hb Kltw0.out)
    have Kltw1 : Kept (w.heap.size < w1.heap.size) := ⟨KEw1.out.lt⟩
    clear hln hsa hst hb L1
    have L2 := Kept.mk (lineG_any t1 ⟨wT.toArray⟩ w1 Ks2.out (by decide))
    go_wp2_with fail
    refine Calls.mono L2.out (fun e w2 hp => ?_)
    obtain ⟨a2, t2, k2, rfl, hln, hsa, hst, hb⟩ := hp
    have KR2 := Kept.mk hln
    have Ksa2 : Kept (a2.size ≤ 1048576) := ⟨Nat.le_trans hsa Ks2.out⟩
    have Ks3 : Kept (t2.size ≤ 1048576) := ⟨Nat.le_trans hst Ks2.out⟩
    have KBw2 := Kept.mk (KBw1.out.trans (hb.mono KBw1.out.size))
    have KEw2 := Kept.mk (KEw1.out.far hb Kltw1.out)
    have Kltw2 : Kept (w.heap.size < w2.heap.size) := ⟨KEw2.out.lt⟩
    clear hln hsa hst hb L2
    have L3 := Kept.mk (lineG_any t2 ⟨wG.toArray⟩ w2 Ks3.out (by decide))
    go_wp2_with fail
    refine Calls.mono L3.out (fun e w3 hp => ?_)
    obtain ⟨a3, t3, k3, rfl, hln, hsa, hst, hb⟩ := hp
    have KR3 := Kept.mk hln
    have Ksa3 : Kept (a3.size ≤ 1048576) := ⟨Nat.le_trans hsa Ks3.out⟩
    have Ks4 : Kept (t3.size ≤ 1048576) := ⟨Nat.le_trans hst Ks3.out⟩
    have KBw3 := Kept.mk (KBw2.out.trans (hb.mono KBw2.out.size))
    have KEw3 := Kept.mk (KEw2.out.far hb Kltw2.out)
    have Kltw3 : Kept (w.heap.size < w3.heap.size) := ⟨KEw3.out.lt⟩
    clear hln hsa hst hb L3
    have L4 := Kept.mk (lineG_any t3 ⟨wR.toArray⟩ w3 Ks4.out (by decide))
    go_wp2_with fail
    refine Calls.mono L4.out (fun e w4 hp => ?_)
    obtain ⟨a4, t4, k4, rfl, hln, hsa, hst, hb⟩ := hp
    have KR4 := Kept.mk hln
    have Ksa4 : Kept (a4.size ≤ 1048576) := ⟨Nat.le_trans hsa Ks4.out⟩
    have Ks5 : Kept (t4.size ≤ 1048576) := ⟨Nat.le_trans hst Ks4.out⟩
    have KBw4 := Kept.mk (KBw3.out.trans (hb.mono KBw3.out.size))
    have KEw4 := Kept.mk (KEw3.out.far hb Kltw3.out)
    have Kltw4 : Kept (w.heap.size < w4.heap.size) := ⟨KEw4.out.lt⟩
    clear hln hsa hst hb L4
    have KR1x : Kept (LnR (strOfNums xs).data.toList wO a1.data.toList t1.data.toList k1) := ⟨by rw [KS.out]; exact KR1.out⟩
    clear hcv
    cases k1 with
    | false =>
      have KE : Kept (DgEnd xs lb0 4) := ⟨dg_none Kl.out KR1x.out KR2.out KR3.out KR4.out (by simp)⟩
      have KL := Kept.mk (lb_end lb0_ok KEw4.out KEw4.out KBw4.out)
      go_wp2_with (first | (refine wpList_store_mid rfl 61 _ _ rfl w.heap.size 0 lb0.l.toArray rfl rfl KL.out.th KL.out.il2 KL.out.ol ?_))
      refine bodyPost_ret (v := .tuple #[.agg lb0.l.toArray, .int .i64 4]) (Sh.results_row2 (p := 2) (u := 3) (ty := 61) Tryz.results19 _ _ w.heap.size 61 _ (0, 0) _ rfl KL.out.fin Tryz.underlying61 rfl KL.out.il2) rfl ⟨_, 4, rfl, KE.out, KL.out.bf⟩
    | true =>
      cases k2 with
      | false =>
        have KE : Kept (DgEnd xs lb0 4) := ⟨dg_none Kl.out KR1x.out KR2.out KR3.out KR4.out (by simp)⟩
        have KL := Kept.mk (lb_end lb0_ok KEw4.out KEw4.out KBw4.out)
        go_wp2_with (first | (refine wpList_store_mid rfl 61 _ _ rfl w.heap.size 0 lb0.l.toArray rfl rfl KL.out.th KL.out.il2 KL.out.ol ?_))
        refine bodyPost_ret (v := .tuple #[.agg lb0.l.toArray, .int .i64 4]) (Sh.results_row2 (p := 2) (u := 3) (ty := 61) Tryz.results19 _ _ w.heap.size 61 _ (0, 0) _ rfl KL.out.fin Tryz.underlying61 rfl KL.out.il2) rfl ⟨_, 4, rfl, KE.out, KL.out.bf⟩
      | true =>
        cases k3 with
        | false =>
          have KE : Kept (DgEnd xs lb0 4) := ⟨dg_none Kl.out KR1x.out KR2.out KR3.out KR4.out (by simp)⟩
          have KL := Kept.mk (lb_end lb0_ok KEw4.out KEw4.out KBw4.out)
          go_wp2_with (first | (refine wpList_store_mid rfl 61 _ _ rfl w.heap.size 0 lb0.l.toArray rfl rfl KL.out.th KL.out.il2 KL.out.ol ?_))
          refine bodyPost_ret (v := .tuple #[.agg lb0.l.toArray, .int .i64 4]) (Sh.results_row2 (p := 2) (u := 3) (ty := 61) Tryz.results19 _ _ w.heap.size 61 _ (0, 0) _ rfl KL.out.fin Tryz.underlying61 rfl KL.out.il2) rfl ⟨_, 4, rfl, KE.out, KL.out.bf⟩
        | true =>
          cases k4 with
          | false =>
            have KE : Kept (DgEnd xs lb0 4) := ⟨dg_none Kl.out KR1x.out KR2.out KR3.out KR4.out (by simp)⟩
            have KL := Kept.mk (lb_end lb0_ok KEw4.out KEw4.out KBw4.out)
            go_wp2_with (first | (refine wpList_store_mid rfl 61 _ _ rfl w.heap.size 0 lb0.l.toArray rfl rfl KL.out.th KL.out.il2 KL.out.ol ?_))
            refine bodyPost_ret (v := .tuple #[.agg lb0.l.toArray, .int .i64 4]) (Sh.results_row2 (p := 2) (u := 3) (ty := 61) Tryz.results19 _ _ w.heap.size 61 _ (0, 0) _ rfl KL.out.fin Tryz.underlying61 rfl KL.out.il2) rfl ⟨_, 4, rfl, KE.out, KL.out.bf⟩
          | true =>
            by_cases h4 : t4.data.toList = []
            · have hq4 : (t4.toList == []) = true := by rw [Lib.toList_data, h4]; rfl
              have KE : Kept (DgEnd xs lb0 4) := ⟨dg_none Kl.out KR1x.out KR2.out KR3.out KR4.out (fun h => h.2.2.2.2 h4)⟩
              have KL := Kept.mk (lb_end lb0_ok KEw4.out KEw4.out KBw4.out)
              clear h4
              go_wp2_with (first | (refine wpList_store_mid rfl 61 _ _ rfl w.heap.size 0 lb0.l.toArray rfl rfl KL.out.th KL.out.il2 KL.out.ol ?_))
              refine bodyPost_ret (v := .tuple #[.agg lb0.l.toArray, .int .i64 4]) (Sh.results_row2 (p := 2) (u := 3) (ty := 61) Tryz.results19 _ _ w.heap.size 61 _ (0, 0) _ rfl KL.out.fin Tryz.underlying61 rfl KL.out.il2) rfl ⟨_, 4, rfl, KE.out, KL.out.bf⟩
            · have hq4 : (t4.toList == []) = false := by rw [Lib.toList_data]; exact beq_eq_false_iff_ne.2 h4
              have hs1 : (1 : Int) ≤ (t4.size : Int) := by
                have : t4.data.toList.length ≠ 0 := fun h => h4 (List.eq_nil_of_length_eq_zero h)
                rw [← Lib.size_eq] at this
                omega
              have KM : Kept ((t4.extract 1 t4.size).data.toList = t4.data.toList.drop 1) := ⟨by rw [ext_list, List.take_of_length_le (by rw [List.length_drop, ← Lib.size_eq]; exact Nat.le_refl _)]⟩
              have KMs : Kept ((t4.extract 1 t4.size).size ≤ 1048576) := ⟨by rw [Lib.size_eq, KM.out, List.length_drop, ← Lib.size_eq]; have := Ks5.out; omega⟩
              have Kkd : Kept (∀ W, Calls Tryz.prog 40 #[.string a2] W fun e w' => e = .returned (.int .i64 (koF a2)) ∧ w' = W) := ⟨fun W => rkind_any a2 W⟩
              have Kkr := Kept.mk (koF_range a2)
              have KPc : Kept (pcF a1.data.toList a2.data.toList a3.data.toList a4.data.toList (t4.data.toList.drop 1) = ⟨Sh.parF a1, koF a2, a3, (prsF a4).1, t4.extract 1 t4.size⟩) := ⟨by rw [← KM.out]; rfl⟩
              have Kye := Kept.mk h4
              clear h4
              go_upto_region 9 with fail
              clear hq4
              have KBd : Kept (Below w4.heap.size w4 w4.drew) := ⟨(Below.refl _ w4).drew⟩
              refine wp_region_noPanic ?_
              refine wp_region_held_drew (S := fun W => Below w4.heap.size w4 W) (by kernel_rfl) KBd.out (fun hHeld => ?_)
              have hSD := KBd.out
              generalize hwD : w4.drew = wD at *
              clear hwD
              refine wpAnyH_takeD (i := 0) (d := some 62) (v := .string a2) rfl rfl (by kernel_rfl) (by kernel_rfl) (by kernel_rfl) (fun _ _ _ h => h) (Or.inl ⟨by rfl, fun W hSw => by (try dsimp only at hSw); go_simp⟩) (by assumption) ?_
              simp only [Act.put, List.setIfInBounds_toArray, List.set_cons_zero, List.set_cons_succ]
              refine wpAnyH_takeD (i := 2) (d := some 64) (v := .string a3) rfl rfl (by kernel_rfl) (by kernel_rfl) (by kernel_rfl) (fun _ _ _ h => h) (Or.inl ⟨by rfl, fun W hSw => by (try dsimp only at hSw); go_simp⟩) (by assumption) ?_
              simp only [Act.put, List.setIfInBounds_toArray, List.set_cons_zero, List.set_cons_succ]
              refine wpAnyH_takeD (i := 3) (d := some 65) (v := .string t4) rfl rfl (by kernel_rfl) (by kernel_rfl) (by kernel_rfl) (fun _ _ _ h => h) (Or.inl ⟨by rfl, fun W hSw => by (try dsimp only at hSw); go_simp⟩) (by assumption) ?_
              simp only [Act.put, List.setIfInBounds_toArray, List.set_cons_zero, List.set_cons_succ]
              refine wpAnyH_takeD (i := 4) (d := some 66) (v := .string (t4.extract 1 t4.size)) rfl rfl (by kernel_rfl) (by kernel_rfl) (by kernel_rfl) (fun _ _ _ h => h) (Or.inl ⟨by rfl, fun W hSw => by (try dsimp only at hSw); go_simp⟩) (by assumption) ?_
              simp only [Act.put, List.setIfInBounds_toArray, List.set_cons_zero, List.set_cons_succ]
              generalize t4.extract 1 t4.size = MS at *
              generalize koF a2 = KK at *
              obtain ⟨wa, hwa⟩ : ∃ wa, wD.alloc (.cells lb0.l.toArray 61) = wa := ⟨_, rfl⟩
              have hba : Below wD.heap.size wD wa := by rw [← hwa]; exact (Below.refl _ _).alloc (Nat.le_refl _) _
              have hLa : LbB wa wD.heap.size lb0 := by rw [← hwa]; exact heap_alloc_new wD _
              have KBa := Kept.mk (KBd.out.trans (hba.mono KBd.out.size))
              have KLa := Kept.mk hLa
              have Ksz : Kept (w4.heap.size ≤ wD.heap.size) := ⟨KBd.out.size⟩
              clear hba hLa hs1
              refine wpAnyH_ready (rs := [1, 6]) (by kernel_rfl) (by simp) ?_
              refine AllReadyH.cons (o := _) rfl (fun K hK => ?_) (AllReadyH.cons (o := _) rfl (fun K hK => ?_) AllReadyH.nil)
              · clear hHeld
                go_simp
                refine Calls.mono (Kkd.out wD) (fun e w10 hp10 => ?_)
                obtain ⟨rfl, hw10⟩ := hp10
                have hw10 := hw10.symm
                subst hw10
                refine hK.out _ _ hSD (fun hHeld => ?_)
                clear hK K
                refine wpAnyH_takeD (i := 5) (d := some 67) (v := .agg (LbC.l ⟨z32N, KK, a3, idt0, MS⟩).toArray) rfl rfl (by kernel_rfl) (by kernel_rfl) (by kernel_rfl) (fun _ _ _ h => h) (yieldsIf_buildL (by rfl) _ _ _ rfl KK a3 MS rfl rfl rfl) (by assumption) ?_
                simp only [Act.put, List.setIfInBounds_toArray, List.set_cons_zero, List.set_cons_succ]
                refine wpAnyH_ready (rs := [6]) (by kernel_rfl) (by simp) ?_
                refine AllReadyH.cons (o := _) rfl (fun K hK => ?_) AllReadyH.nil
                clear hHeld
                go_simp
                generalize hOb : Obj.cells (_ : Array Value) 61 = Ob
                have hOb2 : Ob = Obj.cells lb0.l.toArray 61 := by subst hOb; rfl
                subst hOb2
                clear hOb
                rw [hwa]
                refine hK.out _ _ KBa.out (fun hHeld => ?_)
                clear hK K
                have hok0 : (LbC.mk z32N KK a3 idt0 MS).ok := mk_ok _ lb0_ok.1 lb0_ok.2.1 Kkr.out Ksa3.out KMs.out
                obtain ⟨wS, hwS⟩ : ∃ wS, wa.setCells wD.heap.size 0 (LbC.l ⟨z32N, KK, a3, idt0, MS⟩) = wS := ⟨_, rfl⟩
                have hLS : LbB wS wD.heap.size ⟨z32N, KK, a3, idt0, MS⟩ := by rw [← hwS]; exact KLa.out.over lb0_ok hok0
                have hBS : Below w4.heap.size w4 wS := by rw [← hwS]; exact Sh.below_cells Ksz.out _ _ _ _ KBa.out
                have KTh : Kept (wa.there wD.heap.size 0 (LbC.l ⟨z32N, KK, a3, idt0, MS⟩).toArray.size) := ⟨KLa.out.there lb0_ok _ (by rw [List.size_toArray, LbC.len hok0]; exact Nat.le_refl _)⟩
                have KIl2 : Kept ((Tryz.prog.info? 61).map (·.size) = some (LbC.l ⟨z32N, KK, a3, idt0, MS⟩).toArray.size) := ⟨by rw [List.size_toArray, LbC.len hok0]; kernel_rfl⟩
                have KOl := Kept.mk (LbC.all ⟨z32N, KK, a3, idt0, MS⟩)
                have KLS := Kept.mk hLS
                have KBS := Kept.mk hBS
                have KwS := Kept.mk hwS
                have KBwS := Kept.mk (KBw4.out.trans (hBS.mono KBw4.out.size))
                have KEwS := Kept.mk (KEw4.out.far hBS Kltw4.out)
                have Kok0 := Kept.mk hok0
                clear hok0 hLS hBS hwS hwa
                obtain ⟨C0, hC0⟩ : ∃ C0, LbC.l ⟨z32N, KK, a3, idt0, MS⟩ = C0 := ⟨_, rfl⟩
                rw [hC0] at KTh KIl2 KOl KwS ⊢
                clear hC0
                refine wpAnyH_ready (rs := [7]) (by kernel_rfl) (by simp) ?_
                refine AllReadyH.cons (o := _) rfl (fun K hK => ?_) AllReadyH.nil
                clear hHeld
                refine wp_store_mid 61 _ _ rfl wD.heap.size 0 C0.toArray rfl rfl KTh.out KIl2.out KOl.out ?_
                rw [KwS.out]
                refine hK.out _ _ KBS.out (fun hHeld => ?_)
                clear hK K hHeld KwS KIl2 KOl KTh
                refine wpAnyH_done (by kernel_rfl) ?_ _
                refine NoPanic.normal ?_
                have K5 := Kept.mk (Sh.docParse_any a1 wS)
                have hid := parF_ok a1
                have hall := parF_all a1
                generalize Sh.parF a1 = IDS at *
                generalize Sh.parE a1 = PE at *
                go_wp2_with fail
                refine Calls.mono K5.out (fun e w5 hp => ?_)
                obtain ⟨rfl, hb5⟩ := hp
                have KBw5 := Kept.mk (KBwS.out.trans (hb5.mono KBwS.out.size))
                have hE5 := KEwS.out.far hb5 KEwS.out.lt
                have hL5 := KLS.out.far hb5 KLS.out.lt
                have hne : w.heap.size ≠ wD.heap.size := by have := Ksz.out; have := Kltw4.out; omega
                have KTh : Kept (w5.there wD.heap.size 0 (Sh.cellsU8 IDS).toArray.size) := ⟨hL5.there Kok0.out _ (by rw [List.size_toArray, Sh.cellsU8_length, hid]; omega)⟩
                have KIi : Kept ((Tryz.prog.info? 39).map (·.size) = some (Sh.cellsU8 IDS).toArray.size) := ⟨by rw [List.size_toArray, Sh.cellsU8_length, hid]; kernel_rfl⟩
                have KOi : Kept ((Sh.cellsU8 IDS).toArray.all (·.oneCell') = true) := ⟨by rw [Array.all_eq_true_iff_forall_mem]; intro x hx; exact Sh.cellsU8_one _ x (by simpa using hx)⟩
                obtain ⟨w6, hw6⟩ : ∃ w6, w5.setCells wD.heap.size 0 (Sh.cellsU8 IDS) = w6 := ⟨_, rfl⟩
                have hL6 : LbB w6 wD.heap.size ⟨IDS, KK, a3, idt0, MS⟩ := by rw [← hw6]; exact hL5.setTg Kok0.out hid
                have hE6 : LbB w6 w.heap.size lb0 := by
                  rw [← hw6]
                  unfold LbB
                  rw [Sh.heap_setCells_far _ _ hne]
                  exact hE5
                have KBw6 : Kept (Below w.heap.size w w6) := ⟨by rw [← hw6]; exact Sh.below_cells (by have := Ksz.out; have := Kltw4.out; omega) _ _ _ _ KBw5.out⟩
                have Kw6 := Kept.mk hw6
                have KLw6 := Kept.mk hL6
                have KEw6 := Kept.mk hE6
                have Kok6 : Kept (LbC.mk IDS KK a3 idt0 MS).ok := ⟨mk_ok _ hid hall Kkr.out Ksa3.out KMs.out⟩
                have K7 : Kept (Calls Tryz.prog 33 #[.string a4] w6 fun e w' => e = .returned (.tuple #[(prsF a4).1.v, .int .i64 (prsF a4).2]) ∧ Below w6.heap.size w6 w') := ⟨(docParseIdent_any a4 w6 (KGl.out w6 KBw6.out) (by have := Ksa4.out; omega)).mono fun e w' hp => by
                  obtain ⟨p, q, hp1, hq1, he, hb⟩ := hp.out
                  rw [dp_prs hp1 hq1] at he
                  exact ⟨he, hb⟩⟩
                generalize (prsF a4).2 = PE2 at *
                generalize (prsF a4).1 = ig at *
                clear K5 hb5 hE5 hL5 hL6 hE6 hw6 hne
                obtain ⟨CI, hCI⟩ : ∃ CI, Sh.cellsU8 IDS = CI := ⟨_, rfl⟩
                rw [hCI] at KTh KIi KOi Kw6
                rw [hCI]
                clear hCI
                have hige : ig.v = .agg (igL ig).toArray := rfl
                rw [hige] at K7
                obtain ⟨IG, hIG⟩ : ∃ IG, igL ig = IG := ⟨_, rfl⟩
                rw [hIG] at K7
                have KIG := Kept.mk hIG
                clear hige hIG
                go_wp2_with (first | (refine wpList_store_mid rfl 39 _ _ rfl wD.heap.size 0 CI.toArray rfl rfl KTh.out KIi.out KOi.out ?_; rw [Kw6.out]))
                refine Calls.mono K7.out (fun e w7 hp => ?_)
                obtain ⟨rfl, hb7⟩ := hp
                have KBw7 := Kept.mk (KBw6.out.trans (hb7.mono KBw6.out.size))
                have hE7 := KEw6.out.far hb7 KEw6.out.lt
                have hL7 := KLw6.out.far hb7 KLw6.out.lt
                have hne : w.heap.size ≠ wD.heap.size := by have := Ksz.out; have := Kltw4.out; omega
                have KTh2 : Kept (w7.there wD.heap.size 34 IG.toArray.size) := ⟨by rw [← KIG.out]; exact hL7.there4 Kok6.out⟩
                have KIi2 : Kept ((Tryz.prog.info? 51).map (·.size) = some IG.toArray.size) := ⟨by rw [← KIG.out]; kernel_rfl⟩
                have KOi2 : Kept (IG.toArray.all (·.oneCell') = true) := ⟨by rw [← KIG.out]; exact igL_all _⟩
                obtain ⟨w8, hw8⟩ : ∃ w8, w7.setCells wD.heap.size 34 IG = w8 := ⟨_, rfl⟩
                have hL8 : LbB w8 wD.heap.size ⟨IDS, KK, a3, ig, MS⟩ := by rw [← hw8, ← KIG.out]; exact hL7.setIg Kok6.out ig
                have hE8 : LbB w8 w.heap.size lb0 := by
                  rw [← hw8]
                  unfold LbB
                  rw [Sh.heap_setCells_far _ _ hne]
                  exact hE7
                have KBw8 : Kept (Below w.heap.size w w8) := ⟨by rw [← hw8]; exact Sh.below_cells (by have := Ksz.out; have := Kltw4.out; omega) _ _ _ _ KBw7.out⟩
                have Kw8 := Kept.mk hw8
                have Kok8 : Kept (LbC.mk IDS KK a3 ig MS).ok := ⟨mk_ok _ hid hall Kkr.out Ksa3.out KMs.out⟩
                rw [← KPc.out] at hL8 Kok8
                have KRb := Kept.mk (fun h => dg_bad Kl.out KR1x.out KR2.out KR3.out KR4.out h)
                generalize pcF a1.data.toList a2.data.toList a3.data.toList a4.data.toList (t4.data.toList.drop 1) = R at *
                have K9 := Kept.mk (dtag_any R w8 Kok8.out)
                have KL8 := Kept.mk hL8
                have KEw8 := Kept.mk hE8
                have KRg := Kept.mk hL8.range
                have KIl : Kept ((Tryz.prog.info? 61).map (·.size) = some R.l.length) := ⟨by rw [LbC.len Kok8.out]; kernel_rfl⟩
                have K10 : Kept (teF R = 0 → ∀ W, Below w.heap.size w W → Calls Tryz.prog 42 #[.agg R.l.toArray] W fun e w' => ∃ v', e = .returned v' ∧ Rd .u8 anyB w' v' (tgL R) ∧ Below W.heap.size W w') := ⟨fun h W hW => dTag_any R W (KGl.out W hW) Kok8.out h⟩
                have KTe := Kept.mk (tgL_eq Kok8.out KA.out)
                have KTb := Kept.mk (tgL_bytes Kok8.out)
                clear hb7 hE7 hL7 hL8 hE8 hw8 hne K7 hid hall KLw6 KEw6 KPc
                obtain ⟨RL, hRL⟩ : ∃ RL, R.l = RL := ⟨_, rfl⟩
                have KRL := Kept.mk hRL
                rw [hRL] at K9 KRg KIl K10
                clear hRL
                generalize hTF : teF R = TF at *
                have KTF := Kept.mk hTF
                clear hTF
                go_wp2_with (first | (refine wpList_store_mid rfl 51 _ _ rfl wD.heap.size 34 IG.toArray rfl rfl KTh2.out KIi2.out KOi2.out ?_; rw [Kw8.out]) | (refine wpList_load_mid rfl 61 _ rfl wD.heap.size 0 rfl RL _ KRg.out Tryz.underlying61 rfl KIl.out ?_))
                refine Calls.mono K9.out (fun e w9 hp => ?_)
                obtain ⟨rfl, hb9⟩ := hp
                have KBw9 := Kept.mk (KBw8.out.trans (hb9.mono KBw8.out.size))
                have KEw9 := Kept.mk (KEw8.out.far hb9 KEw8.out.lt)
                have KL9 := Kept.mk (KL8.out.far hb9 KL8.out.lt)
                clear hb9 K9 KRg
                by_cases hz : TF = 0
                · subst hz
                  have KRg := Kept.mk KL9.out.range
                  rw [KRL.out] at KRg
                  have K11 := Kept.mk (K10.out rfl w9 KBw9.out)
                  clear K10
                  go_wp2_with (first | (refine BigFrame.wpList_want rfl (fun K hK => wp_load_mid 61 _ rfl wD.heap.size 0 rfl RL _ KRg.out Tryz.underlying61 rfl KIl.out (hK _ _ ?_)); clear hK K))
                  refine Calls.mono K11.out (fun e w11 hp => ?_)
                  obtain ⟨v11, rfl, hrd, hb11⟩ := hp
                  have KBw11 := Kept.mk (KBw9.out.trans (hb11.mono KBw9.out.size))
                  have KEw11 := Kept.mk (KEw9.out.far hb11 KEw9.out.lt)
                  have KL11 := Kept.mk (KL9.out.far hb11 KL9.out.lt)
                  have K12 := Kept.mk (Sh.same_any v11 (.slice pa xs.length pc) (tgL R) xs w11 (shRd hrd KTb.out) (shRd (KRdw.out.later KBw11.out (Nat.le_refl _)) KA.out))
                  clear hrd hb11 K11 KRg
                  go_wp2_with fail
                  refine Calls.mono K12.out (fun e w12 hp => ?_)
                  obtain ⟨rfl, hw12⟩ := hp
                  have hw12 := hw12.symm
                  subst hw12
                  clear K12
                  by_cases hq : tgL R = xs
                  · have hqd : decide (tgL R = xs) = true := decide_eq_true hq
                    have KE : Kept (DgEnd xs R 0) := ⟨.inr ⟨Kl.out, .inl ⟨Kok8.out, KTF.out, KTe.out.1 hq, rfl⟩⟩⟩
                    have KL := Kept.mk (lb_end Kok8.out KL11.out KEw11.out KBw11.out)
                    rw [KRL.out] at KL
                    rw [hqd]
                    clear hq hqd KRb KTe
                    go_wp2_with (first | (refine wpList_load_mid rfl 61 _ rfl wD.heap.size 0 rfl RL _ KL.out.rg Tryz.underlying61 rfl KL.out.il ?_) | (refine wpList_store_mid rfl 61 _ _ rfl w.heap.size 0 RL.toArray rfl rfl KL.out.th KL.out.il2 KL.out.ol ?_))
                    refine bodyPost_ret (v := .tuple #[.agg RL.toArray, .int .i64 0]) (Sh.results_row2 (p := 2) (u := 3) (ty := 61) Tryz.results19 _ _ w.heap.size 61 _ (0, 0) _ rfl KL.out.fin Tryz.underlying61 rfl KL.out.il2) rfl ⟨_, 0, by rw [← KRL.out], KE.out, KL.out.bf⟩
                  · have hqd : decide (tgL R = xs) = false := decide_eq_false hq
                    have KE : Kept (DgEnd xs lb0 4) := ⟨KRb.out fun h => hq (KTe.out.2 h.2)⟩
                    have KL := Kept.mk (lb_end lb0_ok KEw11.out KEw11.out KBw11.out)
                    rw [hqd]
                    clear hq hqd KRb KTe
                    go_wp2_with (first | (refine wpList_store_mid rfl 61 _ _ rfl w.heap.size 0 lb0.l.toArray rfl rfl KL.out.th KL.out.il2 KL.out.ol ?_))
                    refine bodyPost_ret (v := .tuple #[.agg lb0.l.toArray, .int .i64 4]) (Sh.results_row2 (p := 2) (u := 3) (ty := 61) Tryz.results19 _ _ w.heap.size 61 _ (0, 0) _ rfl KL.out.fin Tryz.underlying61 rfl KL.out.il2) rfl ⟨_, 4, rfl, KE.out, KL.out.bf⟩
                · have hzb : (TF != 0) = true := by simpa using hz
                  have KE : Kept (DgEnd xs lb0 4) := ⟨KRb.out fun h => hz h.1⟩
                  have KL := Kept.mk (lb_end lb0_ok KEw9.out KEw9.out KBw9.out)
                  clear hz KRb
                  go_wp2_with (first | (refine wpList_store_mid rfl 61 _ _ rfl w.heap.size 0 lb0.l.toArray rfl rfl KL.out.th KL.out.il2 KL.out.ol ?_))
                  refine bodyPost_ret (v := .tuple #[.agg lb0.l.toArray, .int .i64 4]) (Sh.results_row2 (p := 2) (u := 3) (ty := 61) Tryz.results19 _ _ w.heap.size 61 _ (0, 0) _ rfl KL.out.fin Tryz.underlying61 rfl KL.out.il2) rfl ⟨_, 4, rfl, KE.out, KL.out.bf⟩
              · clear hHeld
                go_simp
                generalize hOb : Obj.cells (_ : Array Value) 61 = Ob
                have hOb2 : Ob = Obj.cells lb0.l.toArray 61 := by subst hOb; rfl
                subst hOb2
                clear hOb
                rw [hwa]
                refine hK.out _ _ KBa.out (fun hHeld => ?_)
                clear hK K
                refine wpAnyH_ready (rs := [1]) (by kernel_rfl) (by simp) ?_
                refine AllReadyH.cons (o := _) rfl (fun K hK => ?_) AllReadyH.nil
                clear hHeld
                go_simp
                refine Calls.mono (Kkd.out wa) (fun e w10 hp10 => ?_)
                obtain ⟨rfl, hw10⟩ := hp10
                have hw10 := hw10.symm
                subst hw10
                refine hK.out _ _ KBa.out (fun hHeld => ?_)
                clear hK K
                have hSD := KBa.out
                refine wpAnyH_takeD (i := 5) (d := some 67) (v := .agg (LbC.l ⟨z32N, KK, a3, idt0, MS⟩).toArray) rfl rfl (by kernel_rfl) (by kernel_rfl) (by kernel_rfl) (fun _ _ _ h => h) (yieldsIf_buildL (by rfl) _ _ _ rfl KK a3 MS rfl rfl rfl) (by assumption) ?_
                simp only [Act.put, List.setIfInBounds_toArray, List.set_cons_zero, List.set_cons_succ]
                have hok0 : (LbC.mk z32N KK a3 idt0 MS).ok := mk_ok _ lb0_ok.1 lb0_ok.2.1 Kkr.out Ksa3.out KMs.out
                obtain ⟨wS, hwS⟩ : ∃ wS, wa.setCells wD.heap.size 0 (LbC.l ⟨z32N, KK, a3, idt0, MS⟩) = wS := ⟨_, rfl⟩
                have hLS : LbB wS wD.heap.size ⟨z32N, KK, a3, idt0, MS⟩ := by rw [← hwS]; exact KLa.out.over lb0_ok hok0
                have hBS : Below w4.heap.size w4 wS := by rw [← hwS]; exact Sh.below_cells Ksz.out _ _ _ _ KBa.out
                have KTh : Kept (wa.there wD.heap.size 0 (LbC.l ⟨z32N, KK, a3, idt0, MS⟩).toArray.size) := ⟨KLa.out.there lb0_ok _ (by rw [List.size_toArray, LbC.len hok0]; exact Nat.le_refl _)⟩
                have KIl2 : Kept ((Tryz.prog.info? 61).map (·.size) = some (LbC.l ⟨z32N, KK, a3, idt0, MS⟩).toArray.size) := ⟨by rw [List.size_toArray, LbC.len hok0]; kernel_rfl⟩
                have KOl := Kept.mk (LbC.all ⟨z32N, KK, a3, idt0, MS⟩)
                have KLS := Kept.mk hLS
                have KBS := Kept.mk hBS
                have KwS := Kept.mk hwS
                have KBwS := Kept.mk (KBw4.out.trans (hBS.mono KBw4.out.size))
                have KEwS := Kept.mk (KEw4.out.far hBS Kltw4.out)
                have Kok0 := Kept.mk hok0
                clear hok0 hLS hBS hwS hwa
                obtain ⟨C0, hC0⟩ : ∃ C0, LbC.l ⟨z32N, KK, a3, idt0, MS⟩ = C0 := ⟨_, rfl⟩
                rw [hC0] at KTh KIl2 KOl KwS ⊢
                clear hC0
                refine wpAnyH_ready (rs := [7]) (by kernel_rfl) (by simp) ?_
                refine AllReadyH.cons (o := _) rfl (fun K hK => ?_) AllReadyH.nil
                clear hHeld
                refine wp_store_mid 61 _ _ rfl wD.heap.size 0 C0.toArray rfl rfl KTh.out KIl2.out KOl.out ?_
                rw [KwS.out]
                refine hK.out _ _ KBS.out (fun hHeld => ?_)
                clear hK K hHeld KwS KIl2 KOl KTh
                refine wpAnyH_done (by kernel_rfl) ?_ _
                refine NoPanic.normal ?_
                have K5 := Kept.mk (Sh.docParse_any a1 wS)
                have hid := parF_ok a1
                have hall := parF_all a1
                generalize Sh.parF a1 = IDS at *
                generalize Sh.parE a1 = PE at *
                go_wp2_with fail
                refine Calls.mono K5.out (fun e w5 hp => ?_)
                obtain ⟨rfl, hb5⟩ := hp
                have KBw5 := Kept.mk (KBwS.out.trans (hb5.mono KBwS.out.size))
                have hE5 := KEwS.out.far hb5 KEwS.out.lt
                have hL5 := KLS.out.far hb5 KLS.out.lt
                have hne : w.heap.size ≠ wD.heap.size := by have := Ksz.out; have := Kltw4.out; omega
                have KTh : Kept (w5.there wD.heap.size 0 (Sh.cellsU8 IDS).toArray.size) := ⟨hL5.there Kok0.out _ (by rw [List.size_toArray, Sh.cellsU8_length, hid]; omega)⟩
                have KIi : Kept ((Tryz.prog.info? 39).map (·.size) = some (Sh.cellsU8 IDS).toArray.size) := ⟨by rw [List.size_toArray, Sh.cellsU8_length, hid]; kernel_rfl⟩
                have KOi : Kept ((Sh.cellsU8 IDS).toArray.all (·.oneCell') = true) := ⟨by rw [Array.all_eq_true_iff_forall_mem]; intro x hx; exact Sh.cellsU8_one _ x (by simpa using hx)⟩
                obtain ⟨w6, hw6⟩ : ∃ w6, w5.setCells wD.heap.size 0 (Sh.cellsU8 IDS) = w6 := ⟨_, rfl⟩
                have hL6 : LbB w6 wD.heap.size ⟨IDS, KK, a3, idt0, MS⟩ := by rw [← hw6]; exact hL5.setTg Kok0.out hid
                have hE6 : LbB w6 w.heap.size lb0 := by
                  rw [← hw6]
                  unfold LbB
                  rw [Sh.heap_setCells_far _ _ hne]
                  exact hE5
                have KBw6 : Kept (Below w.heap.size w w6) := ⟨by rw [← hw6]; exact Sh.below_cells (by have := Ksz.out; have := Kltw4.out; omega) _ _ _ _ KBw5.out⟩
                have Kw6 := Kept.mk hw6
                have KLw6 := Kept.mk hL6
                have KEw6 := Kept.mk hE6
                have Kok6 : Kept (LbC.mk IDS KK a3 idt0 MS).ok := ⟨mk_ok _ hid hall Kkr.out Ksa3.out KMs.out⟩
                have K7 : Kept (Calls Tryz.prog 33 #[.string a4] w6 fun e w' => e = .returned (.tuple #[(prsF a4).1.v, .int .i64 (prsF a4).2]) ∧ Below w6.heap.size w6 w') := ⟨(docParseIdent_any a4 w6 (KGl.out w6 KBw6.out) (by have := Ksa4.out; omega)).mono fun e w' hp => by
                  obtain ⟨p, q, hp1, hq1, he, hb⟩ := hp.out
                  rw [dp_prs hp1 hq1] at he
                  exact ⟨he, hb⟩⟩
                generalize (prsF a4).2 = PE2 at *
                generalize (prsF a4).1 = ig at *
                clear K5 hb5 hE5 hL5 hL6 hE6 hw6 hne
                obtain ⟨CI, hCI⟩ : ∃ CI, Sh.cellsU8 IDS = CI := ⟨_, rfl⟩
                rw [hCI] at KTh KIi KOi Kw6
                rw [hCI]
                clear hCI
                have hige : ig.v = .agg (igL ig).toArray := rfl
                rw [hige] at K7
                obtain ⟨IG, hIG⟩ : ∃ IG, igL ig = IG := ⟨_, rfl⟩
                rw [hIG] at K7
                have KIG := Kept.mk hIG
                clear hige hIG
                go_wp2_with (first | (refine wpList_store_mid rfl 39 _ _ rfl wD.heap.size 0 CI.toArray rfl rfl KTh.out KIi.out KOi.out ?_; rw [Kw6.out]))
                refine Calls.mono K7.out (fun e w7 hp => ?_)
                obtain ⟨rfl, hb7⟩ := hp
                have KBw7 := Kept.mk (KBw6.out.trans (hb7.mono KBw6.out.size))
                have hE7 := KEw6.out.far hb7 KEw6.out.lt
                have hL7 := KLw6.out.far hb7 KLw6.out.lt
                have hne : w.heap.size ≠ wD.heap.size := by have := Ksz.out; have := Kltw4.out; omega
                have KTh2 : Kept (w7.there wD.heap.size 34 IG.toArray.size) := ⟨by rw [← KIG.out]; exact hL7.there4 Kok6.out⟩
                have KIi2 : Kept ((Tryz.prog.info? 51).map (·.size) = some IG.toArray.size) := ⟨by rw [← KIG.out]; kernel_rfl⟩
                have KOi2 : Kept (IG.toArray.all (·.oneCell') = true) := ⟨by rw [← KIG.out]; exact igL_all _⟩
                obtain ⟨w8, hw8⟩ : ∃ w8, w7.setCells wD.heap.size 34 IG = w8 := ⟨_, rfl⟩
                have hL8 : LbB w8 wD.heap.size ⟨IDS, KK, a3, ig, MS⟩ := by rw [← hw8, ← KIG.out]; exact hL7.setIg Kok6.out ig
                have hE8 : LbB w8 w.heap.size lb0 := by
                  rw [← hw8]
                  unfold LbB
                  rw [Sh.heap_setCells_far _ _ hne]
                  exact hE7
                have KBw8 : Kept (Below w.heap.size w w8) := ⟨by rw [← hw8]; exact Sh.below_cells (by have := Ksz.out; have := Kltw4.out; omega) _ _ _ _ KBw7.out⟩
                have Kw8 := Kept.mk hw8
                have Kok8 : Kept (LbC.mk IDS KK a3 ig MS).ok := ⟨mk_ok _ hid hall Kkr.out Ksa3.out KMs.out⟩
                rw [← KPc.out] at hL8 Kok8
                have KRb := Kept.mk (fun h => dg_bad Kl.out KR1x.out KR2.out KR3.out KR4.out h)
                generalize pcF a1.data.toList a2.data.toList a3.data.toList a4.data.toList (t4.data.toList.drop 1) = R at *
                have K9 := Kept.mk (dtag_any R w8 Kok8.out)
                have KL8 := Kept.mk hL8
                have KEw8 := Kept.mk hE8
                have KRg := Kept.mk hL8.range
                have KIl : Kept ((Tryz.prog.info? 61).map (·.size) = some R.l.length) := ⟨by rw [LbC.len Kok8.out]; kernel_rfl⟩
                have K10 : Kept (teF R = 0 → ∀ W, Below w.heap.size w W → Calls Tryz.prog 42 #[.agg R.l.toArray] W fun e w' => ∃ v', e = .returned v' ∧ Rd .u8 anyB w' v' (tgL R) ∧ Below W.heap.size W w') := ⟨fun h W hW => dTag_any R W (KGl.out W hW) Kok8.out h⟩
                have KTe := Kept.mk (tgL_eq Kok8.out KA.out)
                have KTb := Kept.mk (tgL_bytes Kok8.out)
                clear hb7 hE7 hL7 hL8 hE8 hw8 hne K7 hid hall KLw6 KEw6 KPc
                obtain ⟨RL, hRL⟩ : ∃ RL, R.l = RL := ⟨_, rfl⟩
                have KRL := Kept.mk hRL
                rw [hRL] at K9 KRg KIl K10
                clear hRL
                generalize hTF : teF R = TF at *
                have KTF := Kept.mk hTF
                clear hTF
                go_wp2_with (first | (refine wpList_store_mid rfl 51 _ _ rfl wD.heap.size 34 IG.toArray rfl rfl KTh2.out KIi2.out KOi2.out ?_; rw [Kw8.out]) | (refine wpList_load_mid rfl 61 _ rfl wD.heap.size 0 rfl RL _ KRg.out Tryz.underlying61 rfl KIl.out ?_))
                refine Calls.mono K9.out (fun e w9 hp => ?_)
                obtain ⟨rfl, hb9⟩ := hp
                have KBw9 := Kept.mk (KBw8.out.trans (hb9.mono KBw8.out.size))
                have KEw9 := Kept.mk (KEw8.out.far hb9 KEw8.out.lt)
                have KL9 := Kept.mk (KL8.out.far hb9 KL8.out.lt)
                clear hb9 K9 KRg
                by_cases hz : TF = 0
                · subst hz
                  have KRg := Kept.mk KL9.out.range
                  rw [KRL.out] at KRg
                  have K11 := Kept.mk (K10.out rfl w9 KBw9.out)
                  clear K10
                  go_wp2_with (first | (refine BigFrame.wpList_want rfl (fun K hK => wp_load_mid 61 _ rfl wD.heap.size 0 rfl RL _ KRg.out Tryz.underlying61 rfl KIl.out (hK _ _ ?_)); clear hK K))
                  refine Calls.mono K11.out (fun e w11 hp => ?_)
                  obtain ⟨v11, rfl, hrd, hb11⟩ := hp
                  have KBw11 := Kept.mk (KBw9.out.trans (hb11.mono KBw9.out.size))
                  have KEw11 := Kept.mk (KEw9.out.far hb11 KEw9.out.lt)
                  have KL11 := Kept.mk (KL9.out.far hb11 KL9.out.lt)
                  have K12 := Kept.mk (Sh.same_any v11 (.slice pa xs.length pc) (tgL R) xs w11 (shRd hrd KTb.out) (shRd (KRdw.out.later KBw11.out (Nat.le_refl _)) KA.out))
                  clear hrd hb11 K11 KRg
                  go_wp2_with fail
                  refine Calls.mono K12.out (fun e w12 hp => ?_)
                  obtain ⟨rfl, hw12⟩ := hp
                  have hw12 := hw12.symm
                  subst hw12
                  clear K12
                  by_cases hq : tgL R = xs
                  · have hqd : decide (tgL R = xs) = true := decide_eq_true hq
                    have KE : Kept (DgEnd xs R 0) := ⟨.inr ⟨Kl.out, .inl ⟨Kok8.out, KTF.out, KTe.out.1 hq, rfl⟩⟩⟩
                    have KL := Kept.mk (lb_end Kok8.out KL11.out KEw11.out KBw11.out)
                    rw [KRL.out] at KL
                    rw [hqd]
                    clear hq hqd KRb KTe
                    go_wp2_with (first | (refine wpList_load_mid rfl 61 _ rfl wD.heap.size 0 rfl RL _ KL.out.rg Tryz.underlying61 rfl KL.out.il ?_) | (refine wpList_store_mid rfl 61 _ _ rfl w.heap.size 0 RL.toArray rfl rfl KL.out.th KL.out.il2 KL.out.ol ?_))
                    refine bodyPost_ret (v := .tuple #[.agg RL.toArray, .int .i64 0]) (Sh.results_row2 (p := 2) (u := 3) (ty := 61) Tryz.results19 _ _ w.heap.size 61 _ (0, 0) _ rfl KL.out.fin Tryz.underlying61 rfl KL.out.il2) rfl ⟨_, 0, by rw [← KRL.out], KE.out, KL.out.bf⟩
                  · have hqd : decide (tgL R = xs) = false := decide_eq_false hq
                    have KE : Kept (DgEnd xs lb0 4) := ⟨KRb.out fun h => hq (KTe.out.2 h.2)⟩
                    have KL := Kept.mk (lb_end lb0_ok KEw11.out KEw11.out KBw11.out)
                    rw [hqd]
                    clear hq hqd KRb KTe
                    go_wp2_with (first | (refine wpList_store_mid rfl 61 _ _ rfl w.heap.size 0 lb0.l.toArray rfl rfl KL.out.th KL.out.il2 KL.out.ol ?_))
                    refine bodyPost_ret (v := .tuple #[.agg lb0.l.toArray, .int .i64 4]) (Sh.results_row2 (p := 2) (u := 3) (ty := 61) Tryz.results19 _ _ w.heap.size 61 _ (0, 0) _ rfl KL.out.fin Tryz.underlying61 rfl KL.out.il2) rfl ⟨_, 4, rfl, KE.out, KL.out.bf⟩
                · have hzb : (TF != 0) = true := by simpa using hz
                  have KE : Kept (DgEnd xs lb0 4) := ⟨KRb.out fun h => hz h.1⟩
                  have KL := Kept.mk (lb_end lb0_ok KEw9.out KEw9.out KBw9.out)
                  clear hz KRb
                  go_wp2_with (first | (refine wpList_store_mid rfl 61 _ _ rfl w.heap.size 0 lb0.l.toArray rfl rfl KL.out.th KL.out.il2 KL.out.ol ?_))
                  refine bodyPost_ret (v := .tuple #[.agg lb0.l.toArray, .int .i64 4]) (Sh.results_row2 (p := 2) (u := 3) (ty := 61) Tryz.results19 _ _ w.heap.size 61 _ (0, 0) _ rfl KL.out.fin Tryz.underlying61 rfl KL.out.il2) rfl ⟨_, 4, rfl, KE.out, KL.out.bf⟩


set_option maxRecDepth 100000 in
theorem pk_kind : Tryz.prog.plainKey 24 = true := by kernel_rfl
theorem same_kind (w : World) (d : Nat) (x : Int) : (Op.equalIn (d + 1) 24 (.int .i64 x) (.int .i64 x)).run Tryz.prog w = .ok true w := by
  have := run_equalIn_int (P := Tryz.prog) w d 24 .i64 .i64 x x Tryz.underlying24
  simpa using this
structure LbS (w1 wa w2 : World) (R : LbC) : Prop where
  al : w1.alloc (.cells lb0.l.toArray 61) = wa
  st : wa.setCells w1.heap.size 0 R.l = w2
  th : wa.there w1.heap.size 0 R.l.toArray.size
  bl : LbB w2 w1.heap.size R
  be : Below w1.heap.size w1 w2
theorem lb_store (w1 : World) {R : LbC} (hok : R.ok) : ∃ wa w2, LbS w1 wa w2 R := by
  obtain ⟨wa, hwa, hBa, hLa⟩ := LbC.box w1 lb0
  exact ⟨wa, _, hwa, rfl, hLa.there lb0_ok _ (by rw [List.size_toArray, LbC.len hok]; exact Nat.le_refl _), hLa.over lb0_ok hok, Sh.below_cells (Nat.le_refl _) _ _ _ _ hBa⟩
theorem lb_info {R : LbC} (hok : R.ok) : (Tryz.prog.info? 61).map (·.size) = some R.l.length := by rw [LbC.len hok]; kernel_rfl
theorem lb_info2 {R : LbC} (hok : R.ok) : (Tryz.prog.info? 61).map (·.size) = some R.l.toArray.size := by rw [List.size_toArray]; exact lb_info hok
end Go.Proofs.YtkdlhcegimnocaaGreatDoor
