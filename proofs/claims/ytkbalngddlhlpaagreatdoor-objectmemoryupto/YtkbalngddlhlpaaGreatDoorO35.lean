/-
  Walks of the document: DocParseTree.
-/
import Derived.Test.YtkbalngddlhlpaaGreatDoorO32
import Derived.Test.YtkbalngddlhlpaaGreatDoorO10B
import Derived.Test.YtkbalngddlhlpaaGreatDoorO14
namespace Go.Proofs.YtkbalngddlhlpaaGreatDoor
open Go.RowKit

def slN : Value → Nat
  | .slice _ n _ => n
  | _ => 0
structure RdI (xs : List Int) (es : List EnC) (r : List Int) : Prop where
  bytes : AllIn 0 256 r
  len : es.length ≤ 4096
  rl : r.length ≤ xs.length
  sz : tsF es + (r.length : Int) ≤ (es.length : Int) * 64 + (xs.length : Int)
  nms : ∀ e ∈ es, e.nm.size ≤ xs.length
  tr : ∀ es0, TrT xs es0 → ∃ es1, es0 = es ++ es1 ∧ treL es1 = r
theorem RdI.start {xs : List Int} (h : AllIn 0 256 xs) : RdI xs [] xs :=
  ⟨h, by simp, Nat.le_refl _, by simp [tsF], (fun _ h => by cases h), fun es0 ht => ⟨es0, rfl, ht.l⟩⟩
theorem RdI.head {xs : List Int} {es : List EnC} {r : List Int} (h : RdI xs es r) (h0 : r ≠ []) {es0 : List EnC} (ht : TrT xs es0) : ∃ e es2, es0 = es ++ e :: es2 ∧ r = entL e ++ treL es2 ∧ GoodE e := by
  obtain ⟨es1, h1, h2⟩ := h.tr es0 ht
  cases es1 with
  | nil => exact absurd h2.symm h0
  | cons e es2 => exact ⟨e, es2, h1, by rw [← h2, treL_cons], treE_good ht.e ht.ok e (by rw [h1]; simp)⟩
theorem RdI.no {xs : List Int} {es : List EnC} {r : List Int} (h : RdI xs es r) (h0 : r ≠ []) (hn : NxNo r) : ∀ es0, ¬ TrT xs es0 := fun es0 ht => by
  obtain ⟨e, es2, -, h2, h3⟩ := h.head h0 ht
  rw [h2] at hn
  exact nx_not_no h3 _ hn
theorem RdI.many {xs : List Int} {es : List EnC} {r : List Int} (h : RdI xs es r) (h0 : r ≠ []) (hn : es.length = 4096) : ∀ es0, ¬ TrT xs es0 := fun es0 ht => by
  obtain ⟨e, es2, h1, -, -⟩ := h.head h0 ht
  have := (treE_ok ht.e).1
  rw [h1] at this
  simp at this
  omega
theorem RdI.fin {xs : List Int} {es : List EnC} (h : RdI xs es []) {es0 : List EnC} (ht : TrT xs es0) : es0 = es := by
  obtain ⟨es1, h1, h2⟩ := h.tr es0 ht
  cases es1 with
  | nil => rw [h1, List.append_nil]
  | cons e es2 => rw [treL_cons] at h2; exact absurd h2 (entL_ne e _)
theorem tsF_snoc (es : List EnC) (e : EnC) : tsF (es ++ [e]) = tsF es + (((octS e.m).length : Int) + 1 + (e.nm.size : Int) + 1 + 32) := by
  unfold tsF
  rw [List.map_append, List.sum_append]
  simp
theorem RdI.step {xs : List Int} {es : List EnC} {r more : List Int} {en : EnC} (h : RdI xs es r) (hy : NxYes r en more) (hl : es.length < 4096) : RdI xs (es ++ [en]) more ∧ more.length < r.length := by
  obtain ⟨p, q, ha, ho, hn, hi, hm⟩ := hy.out
  have h1 := ha.lt
  have h2 := ha.room
  have hml : more.length = r.length - (q + 33) := by rw [hm, List.length_drop]
  have hnl : en.nm.size ≤ q - (p + 1) := by rw [hn, strOfNums_size, List.length_take]; omega
  have h0 : r ≠ [] := fun e => by rw [e] at h2; simp at h2
  have h3 := (octS_size en.m).2.1
  have h4 := h.rl
  have h5 := h.sz
  refine ⟨⟨fun x hx => h.bytes x (by rw [hm] at hx; exact List.mem_of_mem_drop hx), by rw [List.length_append]; simp; omega, by omega, ?_, fun e he => ?_, fun es0 ht => ?_⟩, by omega⟩
  · rw [tsF_snoc, List.length_append, List.length_singleton]
    omega
  · rcases List.mem_append.1 he with he | he
    · exact h.nms e he
    · simp at he; rw [he]; omega
  · obtain ⟨e, es2, g1, g2, g3⟩ := h.head h0 ht
    rw [g2] at hy
    obtain ⟨rfl, rfl⟩ := nx_yes g3 hy
    exact ⟨es2, by rw [g1]; simp, rfl⟩
set_option maxHeartbeats 4000000 in
set_option maxRecDepth 100000 in
theorem docParseTree_any (v : Value) (xs : List Int) (w : World) (hg : Gv w) (hr : Rd .u8 anyB w v xs) (hA : AllIn 0 256 xs) :
    Calls Tryz.prog 17 #[v] w fun e w' => ∃ v' R E, e = .returned (.tuple #[v', .int .i64 E]) ∧ OwnE w' w.heap.size v' R ∧ DtEnd xs R E ∧ Below w.heap.size w w' := by
  have KRd := Kept.mk hr
  obtain ⟨a, c, rfl, h1, h2, h3, h4⟩ := hr
  have KG := Kept.mk hg
  have KA := Kept.mk hA
  clear hg h1 h2 h3 h4 hA
  by_cases hl : 1048576 < xs.length
  · have hli : (1048576 : Int) < (xs.length : Int) := by omega
    have KE : Kept (DtEnd xs [] 2) := ⟨.inl ⟨hl, rfl, rfl⟩⟩
    clear hl
    go_enter Tryz.func17, Tryz.ntmps17
    go_wp2
    go_ret2
    exact ⟨_, _, _, rfl, OwnE.nil _ _, KE.out, Below.refl _ _⟩
  · have hli : ¬ (1048576 : Int) < (xs.length : Int) := by omega
    have Kl : Kept (xs.length ≤ 1048576) := ⟨by omega⟩
    clear hl
    go_enter Tryz.func17, Tryz.ntmps17
    go_wp2_with fail
    go_loopw [4, 5] (fun lv rv wr => ∃ es r, OwnE wr w.heap.size lv es ∧ Rd .u8 (fun b => b < w.heap.size) wr rv r ∧ RdI xs es r ∧ Below w.heap.size w wr) (fun _ rv _ => slN rv)
    case atStart => exact ⟨[], xs, OwnE.nil _ _, KRd.out.weak (fun b hb _ => hb), RdI.start KA.out, Below.refl _ _⟩
    case round =>
      obtain ⟨es, r, how, hrd, hri, hbel⟩ := hrel
      have KO := Kept.mk how
      have KR := Kept.mk hrd
      have KI := Kept.mk hri
      have KB := Kept.mk hbel
      obtain ⟨pa, pc, rfl, -⟩ := how.rdE
      obtain ⟨ra, rc, rfl, -⟩ := hrd.form
      have hln := hri.len
      have hrl := hri.rl
      by_cases h0 : 0 < r.length
      · have h0i : (0 : Int) < (r.length : Int) := by omega
        have hne : r ≠ [] := fun e => by rw [e] at h0; simp at h0
        have K1 := Kept.mk (next_any _ r wr hrd hri.bytes h0 (by have := Kl.out; omega))
        clear hrd how hri
        go_wp2_with fail
        refine Calls.mono K1.out (fun e w1 hp => ?_)
        have hfin : Kept (∀ (en : EnC) (mv : Value) (ok : Bool), True) := ⟨fun _ _ _ => trivial⟩
        clear hfin
        rcases hp with ⟨hno, rfl, hb1⟩ | ⟨en, more, rv, hy, hok, rfl, hmr, hb1⟩
        · have KN : Kept (DtEnd xs [] 4) := ⟨.inr ⟨Kl.out, .inr ⟨KI.out.no hne hno, rfl, rfl⟩⟩⟩
          have KBw1 := Kept.mk (KB.out.trans (hb1.mono KB.out.size))
          have KI0 := Kept.mk (e_info e0E_ok)
          have KZ0 := Kept.mk (e_size e0E_ok)
          have KO0 := Kept.mk (e_ones e0E)
          obtain ⟨C0, hC0⟩ : ∃ C0, e0E.l = C0 := ⟨_, rfl⟩
          rw [hC0] at KI0 KZ0 KO0 ⊢
          have hB2 : Below w1.heap.size w1 (w1.alloc (.cells C0.toArray 33)) := (Below.refl _ _).alloc (Nat.le_refl _) _
          have KB2 := Kept.mk (KBw1.out.trans (hB2.mono KBw1.out.size))
          clear hno hb1 hC0 hB2 K1 hbel
          go_upto_region 7 with (refine BigFrame.wpList_want rfl (fun K hK => wp_store_row 33 _ _ rfl w1.heap.size C0.toArray rfl rfl 33 _ (heap_alloc_new w1 _) KI0.out (by rw [KZ0.out]; rfl) KO0.out (hK _ _ ?_)); rw [World.setRow_alloc_new])
          obtain ⟨w2, hw2⟩ : ∃ w2, w1.alloc (.cells C0.toArray 33) = w2 := ⟨_, rfl⟩
          rw [hw2] at KB2 ⊢
          clear hw2
          go_wp2
          go_ret2
          exact ⟨_, [], 4, rfl, OwnE.nil _ _, KN.out, KB2.out⟩
        · have KBw1 := Kept.mk (KB.out.trans (hb1.mono KB.out.size))
          have KI0 := Kept.mk (e_info hok)
          have KI1 : Kept ((Tryz.prog.info? 33).map (·.size) = some en.l.length) := ⟨by rw [EnC.len hok]; kernel_rfl⟩
          have K34 := Kept.mk (EnC.len hok)
          have KZ0 := Kept.mk (e_size hok)
          have KO0 := Kept.mk (e_ones en)
          have Kok := Kept.mk hok
          have KY := Kept.mk hy
          have hB2 : Below w1.heap.size w1 (w1.alloc (.cells en.l.toArray 33)) := (Below.refl _ _).alloc (Nat.le_refl _) _
          have hE2 : EnB (w1.alloc (.cells en.l.toArray 33)) w1.heap.size en := heap_alloc_new w1 _
          obtain ⟨w2, hw2⟩ : ∃ w2, w1.alloc (.cells en.l.toArray 33) = w2 := ⟨_, rfl⟩
          rw [hw2] at hB2 hE2
          have hbr2 := hb1.trans (hB2.mono hb1.size)
          have KB2 := Kept.mk (KB.out.trans (hbr2.mono KB.out.size))
          have KO2 := KO.out.later hbr2 (Nat.le_refl _)
          have KM2 : Kept (Rd .u8 (fun b => b < w.heap.size) w2 rv more) := ⟨hmr.later hbr2 (Nat.le_refl _)⟩
          have KRg2 : Kept (w2.rangeAt w1.heap.size 0 en.l) := ⟨hE2.range⟩
          obtain ⟨w3, hw3⟩ : ∃ w3, w2.alloc (.cells en.l.toArray 33) = w3 := ⟨_, rfl⟩
          have hB3 : Below w2.heap.size w2 w3 := by rw [← hw3]; exact (Below.refl _ _).alloc (Nat.le_refl _) _
          have hE3 : EnB w3 w2.heap.size en := by rw [← hw3]; exact heap_alloc_new w2 _
          have KRg3 : Kept (w3.rangeAt w2.heap.size 0 en.l) := ⟨hE3.range⟩
          have KO3 := Kept.mk (KO2.later hB3 (Nat.le_refl _))
          have KB3 := Kept.mk (KB2.out.trans (hB3.mono KB2.out.size))
          have KM3 : Kept (Rd .u8 (fun b => b < w.heap.size) w3 rv more) := ⟨KM2.out.later hB3 (Nat.le_refl _)⟩
          have Khs3 : Kept (w.heap.size ≤ w3.heap.size) := ⟨KB3.out.size⟩
          have Kw3 := Kept.mk hw3
          obtain ⟨C1, hC1⟩ : ∃ C1, en.l = C1 := ⟨_, rfl⟩
          have KC1 := Kept.mk hC1
          rw [hC1] at KI0 KI1 K34 KZ0 KO0 KRg2 KRg3 Kw3 hw2 ⊢
          obtain ⟨ma, mc, rfl, -⟩ := hmr.form
          clear hy hok hB2 hE2 hb1 hmr KO2 hB3 hE3 hC1 hw3 K1 hbr2 hbel
          go_upto_region 7 with (refine BigFrame.wpList_want rfl (fun K hK => wp_store_row 33 _ _ rfl w1.heap.size C1.toArray rfl rfl 33 _ (heap_alloc_new w1 _) KI0.out (by rw [KZ0.out]; rfl) KO0.out (hK _ _ ?_)); rw [World.setRow_alloc_new])
          try rw [hw2]
          clear hw2
          by_cases h96 : es.length = 4096
          · have KN : Kept (DtEnd xs [] 4) := ⟨.inr ⟨Kl.out, .inr ⟨KI.out.many hne h96, rfl, rfl⟩⟩⟩
            have h96i : (es.length : Int) = 4096 := by omega
            go_wp2
            go_ret2
            exact ⟨_, [], 4, rfl, OwnE.nil _ _, KN.out, KB2.out⟩
          · have h96i : ¬ (es.length : Int) = 4096 := by omega
            have KS := Kept.mk (KI.out.step KY.out (by omega))
            have KLn : Kept ((es.length + 1) * 56 ≤ 140737488355328) := ⟨by omega⟩
            clear hne h96
            go_wp2_with (first | (refine wpList_load_mid rfl 33 _ rfl w1.heap.size 0 rfl C1 _ KRg2.out Tryz.underlying33 rfl KI1.out ?_) | (refine wpList_sliceE rfl _ rfl C1 K34.out rfl ?_; rw [Kw3.out]) | (at_builtin; refine wpList_append_E _ rfl _ _ rfl w.heap.size _ es rfl KO3.out en Kok.out w2.heap.size 1 rfl (by rw [KC1.out]; exact KRg3.out) KLn.out Khs3.out ?_; intro v8 w8 ho8 hg8; have KO8 := Kept.mk ho8; have KG8 := Kept.mk hg8; clear ho8 hg8))
            go_roundw
            case rel =>
              have hb38 : Below w.heap.size w w8 := KB3.out.trans ((Below.refl _ w3).grown KG8.out Khs3.out (fun g hg => (KO3.out.lt g hg).1))
              exact ⟨es ++ [en], more, KO8.out, KM3.out.far KG8.out.size (fun b hb hlt => ⟨hlt, KG8.out.block b hb (fun h => by have := (KO3.out.lt b h.symm).1; omega)⟩), KS.out.1, hb38⟩
            case measure =>
              have := KS.out.2
              simpa [slN] using this
      · obtain rfl : r = [] := List.eq_nil_of_length_eq_zero (by omega)
        have Kf : Kept (∀ es0, TrT xs es0 → es0 = es) := ⟨fun es0 ht => KI.out.fin ht⟩
        have Kts : Kept (tsF es ≤ 100000000) := ⟨by have := KI.out.sz; have := Kl.out; simp at *; omega⟩
        have K1 := Kept.mk (dtree_any _ es wr (KG.out.later hbel) how.rdE (fun e he => by have := KI.out.nms e he; have := Kl.out; omega) (fun _ => Kts.out))
        have Kok : Kept (∀ e ∈ es, e.ok) := ⟨how.2⟩
        have K2 : Kept (∀ W, Below wr.heap.size wr W → Calls Tryz.prog 41 #[.slice pa es.length pc] W fun e w' => ∃ v', e = .returned v' ∧ Own .u8 5 w' W.heap.size v' (treL es) ∧ Below W.heap.size W w') := ⟨fun W hW => dTree_any _ es W ((KG.out.later hbel).later hW) (KO.out.later hW (Nat.le_refl _)).rdE (by have := KI.out.len; omega) Kts.out⟩
        clear how hrd hri hrl
        generalize hE : treE es = E at *
        have KEE := Kept.mk hE
        clear hE
        go_wp2_with fail
        refine Calls.mono K1.out (fun e w1 hp => ?_)
        obtain ⟨rfl, hb1⟩ := hp
        have KBw1 := Kept.mk (KB.out.trans (hb1.mono KB.out.size))
        have KO1 := Kept.mk (KO.out.later hb1 (Nat.le_refl _))
        have K2 := Kept.mk (K2.out w1 hb1)
        clear hb1 K1 hbel
        by_cases hE0 : E = 0
        · subst hE0
          go_wp2_with fail
          refine Calls.mono K2.out (fun e w2 hp => ?_)
          obtain ⟨tv, rfl, hto, hb2⟩ := hp
          have KBw2 := Kept.mk (KBw1.out.trans (hb2.mono KBw1.out.size))
          have KO2 := Kept.mk (KO1.out.later hb2 (Nat.le_refl _))
          have K3 := Kept.mk (Sh.same_any tv _ (treL es) xs w2 (shRd hto.rd (fun x hx => treL_bytes Kok.out x hx)) (shRd (KRd.out.later KBw2.out (Nat.le_refl _)) (fun x hx => KA.out x hx)))
          clear hto hb2 K2
          by_cases hT : treL es = xs
          · have KD : Kept (DtEnd xs es 0) := ⟨.inr ⟨Kl.out, .inl ⟨⟨KEE.out, hT, Kok.out⟩, rfl⟩⟩⟩
            rw [decide_eq_true hT] at K3
            clear hT
            go_wp2_with fail
            refine Calls.mono K3.out (fun e w3 hp => ?_)
            obtain ⟨rfl, rfl⟩ := hp
            go_wp2
            go_ret2
            exact ⟨_, es, 0, rfl, KO2.out, KD.out, KBw2.out⟩
          · have KD : Kept (DtEnd xs [] 4) := ⟨.inr ⟨Kl.out, .inr ⟨fun es0 ht => hT (by rw [← Kf.out es0 ht]; exact ht.l), rfl, rfl⟩⟩⟩
            rw [decide_eq_false hT] at K3
            clear hT
            go_wp2_with fail
            refine Calls.mono K3.out (fun e w3 hp => ?_)
            obtain ⟨rfl, rfl⟩ := hp
            go_wp2
            go_ret2
            exact ⟨_, [], 4, rfl, OwnE.nil _ _, KD.out, KBw2.out⟩
        · have KD : Kept (DtEnd xs [] 4) := ⟨.inr ⟨Kl.out, .inr ⟨fun es0 ht => hE0 (by rw [← KEE.out, ← Kf.out es0 ht]; exact ht.e), rfl, rfl⟩⟩⟩
          go_wp2
          go_ret2
          exact ⟨_, [], 4, rfl, OwnE.nil _ _, KD.out, KBw1.out⟩


theorem oeqF_three {P : Program} {w : World} {d : Nat} {X Y : Array Value} {fs : List Field} {t1 t2 t3 o1 o2 o3 : Nat} (hf : fs.map (fun f => (f.name == "_", f.type, f.offset)) = [(false, t1, o1), (false, t2, o2), (false, t3, o3)]) {x1 y1 x2 y2 x3 y3 : Value} {b1 b2 b3 : Bool}
    (hx1 : (part t1 X o1).run P w = .ok x1 w) (hy1 : (part t1 Y o1).run P w = .ok y1 w) (he1 : (Op.equalIn d t1 x1 y1).run P w = .ok b1 w)
    (hx2 : (part t2 X o2).run P w = .ok x2 w) (hy2 : (part t2 Y o2).run P w = .ok y2 w) (he2 : (Op.equalIn d t2 x2 y2).run P w = .ok b2 w)
    (hx3 : (part t3 X o3).run P w = .ok x3 w) (hy3 : (part t3 Y o3).run P w = .ok y3 w) (he3 : (Op.equalIn d t3 x3 y3).run P w = .ok b3 w) :
    (Op.eqFields d X Y fs).run P w = .ok (b1 && (b2 && (b3 && true))) w := by
  have hlen : fs.length = 3 := by simpa using congrArg List.length hf
  obtain ⟨f1, f2, f3, rfl⟩ : ∃ f1 f2 f3, fs = [f1, f2, f3] := by
    rcases fs with _ | ⟨a, _ | ⟨b, _ | ⟨c, _ | ⟨e, l⟩⟩⟩⟩
    · simp at hlen
    · simp at hlen
    · simp at hlen
    · exact ⟨a, b, c, rfl⟩
    · simp at hlen
  clear hlen
  simp only [List.map_cons, List.map_nil, List.cons.injEq, Prod.mk.injEq, and_true] at hf
  obtain ⟨⟨n1, rfl, rfl⟩, ⟨n2, rfl, rfl⟩, ⟨n3, rfl, rfl⟩⟩ := hf
  exact oeqF_cons n1 hx1 hy1 he1 (oeqF_cons n2 hx2 hy2 he2 (oeqF_cons n3 hx3 hy3 he3 (by simp [Op.eqFields])))
theorem part_idE (w : World) {r : EnC} (hr : r.ok) : (part 31 r.l.toArray 2).run Tryz.prog w = .ok (.agg (cellsK .u8 r.ids).toArray) w := by
  unfold part
  simp only [Sem.run_bind, agg_idE, Result.andThen_ok, if_true, size_idE, Sem.run_pure]
  congr 2
  rw [List.extract_toArray, List.extract_eq_take_drop]
  unfold EnC.l
  rw [show List.drop 2 (Value.int .i64 r.m :: Value.string r.nm :: cellsK .u8 r.ids) = cellsK .u8 r.ids from rfl, List.take_of_length_le (by rw [cellsK_length, hr.1]; omega)]
set_option maxRecDepth 100000 in
theorem fsE : Tryz.prog.underlying 33 = some (.struct (Tryz.prog.fieldsOf 33)) ∧ Tryz.prog.stoodInHeld 33 = false ∧ (Tryz.prog.fieldsOf 33).toList.map (fun f => (f.name == "_", f.type, f.offset)) = [(false, 3, 0), (false, 9, 1), (false, 31, 2)] := ⟨by kernel_rfl, by kernel_rfl, by kernel_rfl⟩
theorem eq_ent (w : World) (d : Nat) {r : EnC} (hr : r.ok) : (Op.equalIn (d + 3) 33 (.agg r.l.toArray) (.agg r.l.toArray)).run Tryz.prog w = .ok true w := by
  obtain ⟨h1, h2, h3⟩ := fsE
  have e1 := run_equalIn_int (P := Tryz.prog) w (d + 1) 3 .i64 .i64 r.m r.m Tryz.underlying3
  have e2 := run_equalIn_string (P := Tryz.prog) w (d + 1) 9 r.nm r.nm Tryz.underlying9
  have e3 := eq_idE w d hr.1
  have p1 : (part 3 r.l.toArray 0).run Tryz.prog w = .ok (.int .i64 r.m) w := run_part_plain (P := Tryz.prog) (w := w) pk_int (by rw [List.getElem?_toArray]; rfl)
  have p2 : (part 9 r.l.toArray 1).run Tryz.prog w = .ok (.string r.nm) w := run_part_plain (P := Tryz.prog) (w := w) pk_str (by rw [List.getElem?_toArray]; rfl)
  have h := run_equalIn_struct (P := Tryz.prog) w (d + 2) 33 r.l.toArray r.l.toArray h1 h2
  have h4 := oeqF_three h3 p1 p1 e1 p2 p2 e2 (part_idE w hr) (part_idE w hr) e3
  rw [h, h4]
  simp
theorem exec_neqE {P : Program} (t : TypeId) (hg : P.eqGuardType P.depth t = false) {a : Act} {o : Oper} {x y : Operand} {t' : TypeId} (ho : o.op = .binOp .neq t x y t') {X Y : Array Value} (hx : a.eval x = .agg X) (hy : a.eval y = .agg Y) {q : Bool} {W : World} (hE : (Op.equalIn 10000 t (.agg X) (.agg Y)).run P W = .ok q W) : (execOp a.eval o).run P W = .ok (.value (.bool (!q))) W := by
  unfold execOp
  rw [ho]
  simp only [hx, hy, Sem.run_bind, run_eqGuard_agg W .neq t x y X Y hg, Result.andThen_ok, run_neq_struct W t X Y, hE, Sem.run_pure]
set_option maxHeartbeats 2000000 in
set_option maxRecDepth 100000 in
theorem sameE_any (v u : Value) (es : List EnC) (w : World) (hr : RdE w v es) (hs : RdE w u es) (hl : es.length ≤ 1048576) :
    Calls Tryz.prog 20 #[v, u] w fun e w' => e = .returned (.bool true) ∧ Below w.heap.size w w' := by
  obtain ⟨a, c, rfl, hlc, hok, hrd⟩ := hr
  obtain ⟨a2, c2, rfl, hlc2, hok2, hrd2⟩ := hs
  have KR := Kept.mk hrd
  have KK := Kept.mk hok
  have KR2 := Kept.mk hrd2
  clear hrd hok hrd2 hok2
  go_enter Tryz.func20, Tryz.ntmps20
  go_wp2
  go_loopw [13] (fun iv wr => ∃ k : Nat, k ≤ es.length ∧ iv = .int .i64 k ∧ Below w.heap.size w wr) (fun iv _ => es.length - (intOf iv).toNat)
  case atStart => exact ⟨0, Nat.zero_le _, rfl, Below.refl _ _⟩
  case round =>
    obtain ⟨k, hk, rfl, hbel⟩ := hrel
    have KBr := Kept.mk hbel
    by_cases hlt : k < es.length
    · have hki : (k : Int) < (es.length : Int) := by omega
      obtain ⟨b, off, rfl, hbl, hrg⟩ := KR.out (by omega)
      obtain ⟨b2, off2, rfl, hbl2, hrg2⟩ := KR2.out (by omega)
      have hbr : b < wr.heap.size := Nat.lt_of_lt_of_le hbl hbel.size
      have hbr2 : b2 < wr.heap.size := Nat.lt_of_lt_of_le hbl2 hbel.size
      have hR1 : Kept (∀ W, CC wr W → W.rangeAt b (off + k * 34) (es[k]'hlt).l) := ⟨fun W hW j u hu => by
        rw [hW.cell (p := ⟨b, off + k * 34 + j, none⟩) hbr, hbel.cell (p := ⟨b, off + k * 34 + j, none⟩) hbl]
        exact hrg k hlt j u hu⟩
      have hR2 : Kept (∀ W, CC wr W → W.rangeAt b2 (off2 + k * 34) (es[k]'hlt).l) := ⟨fun W hW j u hu => by
        rw [hW.cell (p := ⟨b2, off2 + k * 34 + j, none⟩) hbr2, hbel.cell (p := ⟨b2, off2 + k * 34 + j, none⟩) hbl2]
        exact hrg2 k hlt j u hu⟩
      have hoA := KK.out _ (List.getElem_mem hlt)
      have KEq : Kept (∀ W, (Op.equalIn 10000 33 (.agg (es[k]'hlt).l.toArray) (.agg (es[k]'hlt).l.toArray)).run Tryz.prog W = .ok true W) := ⟨fun W => eq_ent W 9997 hoA⟩
      have KI1 : Kept ((Tryz.prog.info? 33).map (·.size) = some (es[k]'hlt).l.length) := ⟨by rw [EnC.len hoA]; kernel_rfl⟩
      clear hbel hrg hrg2 hoA
      have e3 : IntKind.i64.wrap ((k : Int) + 1) = (k : Int) + 1 := wr64 (by omega) (by omega)
      generalize (es[k]'hlt).l = LA at *
      clear hbr hbl hbr2 hbl2
      go_upto_region 6 with fail
      refine wp_region_quietC (C := CC wr) (by kernel_rfl) (by kernel_rfl) (Below.refl _ _).drew ?_
      go_big_quiet_step ((intro _; rfl))
      go_big_quiet_step ((intro _; rfl))
      refine BigFrame.wpQuiet_want rfl (fun K hK => quiet_run (v := .pointer (some ⟨b, off + k * 34, none⟩)) (fun W hW => by go_simp; all_goals first | rfl | (intro hneg; exfalso; omega)) (hK _ ?_))
      clear hK K
      simp only [Act.put, List.setIfInBounds_toArray, List.set_cons_zero, List.set_cons_succ]
      refine BigFrame.wpQuiet_want rfl (fun K hK => quiet_load_mid 33 _ rfl b (off + k * 34) rfl LA _ hR1.out Tryz.underlying33 rfl KI1.out (hK _ ?_))
      clear hK K
      simp only [Act.put, List.setIfInBounds_toArray, List.set_cons_zero, List.set_cons_succ]
      go_big_quiet_step ((intro _; rfl))
      go_big_quiet_step ((intro _; rfl))
      refine BigFrame.wpQuiet_want rfl (fun K hK => quiet_run (v := .pointer (some ⟨b2, off2 + k * 34, none⟩)) (fun W hW => by go_simp; all_goals first | rfl | (intro hneg; exfalso; omega)) (hK _ ?_))
      clear hK K
      simp only [Act.put, List.setIfInBounds_toArray, List.set_cons_zero, List.set_cons_succ]
      refine BigFrame.wpQuiet_want rfl (fun K hK => quiet_load_mid 33 _ rfl b2 (off2 + k * 34) rfl LA _ hR2.out Tryz.underlying33 rfl KI1.out (hK _ ?_))
      clear hK K
      simp only [Act.put, List.setIfInBounds_toArray, List.set_cons_zero, List.set_cons_succ]
      refine BigFrame.wpQuiet_want rfl (fun K hK => quiet_run (v := .bool false) (fun W hW => exec_neqE 33 Tryz.eqGuardType33 rfl rfl rfl (KEq.out W)) (hK _ ?_))
      clear hK K
      simp only [Act.put, List.setIfInBounds_toArray, List.set_cons_zero, List.set_cons_succ]
      refine wpQuiet_nil ?_
      intro w3 hw3
      have KB3 := Kept.mk (KBr.out.trans (Below.mono hw3 KBr.out.size))
      clear hw3
      go_wp2
      go_roundw
      case rel => exact ⟨k + 1, by omega, by go_num, KB3.out⟩
      case measure => simp [intOf]; omega
    · have hki : ¬ (k : Int) < (es.length : Int) := by omega
      clear hbel
      go_wp2
      go_ret
      exact ⟨rfl, KBr.out⟩


theorem putL_bytes {es : List EnC} (h : ∀ e ∈ es, e.ok) : Sh.AllB (putL es) := by
  intro x hx
  unfold putL at hx
  split at hx
  · exact treL_bytes h x hx
  · cases hx
theorem dp_len {xs : List Int} {R : List EnC} {E : Int} (h : DtEnd xs R E) : R.length ≤ 4096 := by
  rcases h with ⟨-, rfl, -⟩ | ⟨-, ⟨h, -⟩ | ⟨-, rfl, -⟩⟩
  · simp
  · exact (treE_ok h.e).1
  · simp
end Go.Proofs.YtkbalngddlhlpaaGreatDoor
