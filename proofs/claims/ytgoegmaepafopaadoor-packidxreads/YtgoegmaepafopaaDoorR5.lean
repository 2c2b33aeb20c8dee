/-
  Equality of rows.
-/
import Derived.Test.YtgoegmaepafopaaDoorPE
import Derived.Test.YtgoegmaepafopaaDoorR3
namespace Go.Proofs.YtgoegmaepafopaaDoor
open Go.RowKit

theorem eqF_cons {P : Program} {w : World} {d : Nat} {X Y : Array Value} {f : Field} {fs : List Field} {x y : Value} {b : Bool} {R : Bool} (hn : (f.name == "_") = false) (hx : (part f.type X f.offset).run P w = .ok x w) (hy : (part f.type Y f.offset).run P w = .ok y w) (he : (Op.equalIn d f.type x y).run P w = .ok b w) (h : (Op.eqFields d X Y fs).run P w = .ok R w) :
    (Op.eqFields d X Y (f :: fs)).run P w = .ok (b && R) w := by
  have m : f.name ≠ "_" := by simpa using hn
  rw [Op.eqFields, if_pos m, Sem.run_bind, hx, Result.andThen_ok, Sem.run_bind, hy, Result.andThen_ok, Sem.run_bind, he, Result.andThen_ok]
  cases b
  · simp
  · simpa using h
theorem eqF_nil {P : Program} {w : World} {d : Nat} {X Y : Array Value} : (Op.eqFields d X Y []).run P w = .ok true w := by simp [Op.eqFields]
/-- Three fields held against one another. -/
theorem eqF_three {P : Program} {w : World} {d : Nat} {X Y : Array Value} {fs : List Field} {t1 t2 t3 o1 o2 o3 : Nat} (hf : fs.map (fun f => (f.name == "_", f.type, f.offset)) = [(false, t1, o1), (false, t2, o2), (false, t3, o3)]) {x1 y1 x2 y2 x3 y3 : Value} {b1 b2 b3 : Bool}
    (hx1 : (part t1 X o1).run P w = .ok x1 w) (hy1 : (part t1 Y o1).run P w = .ok y1 w) (he1 : (Op.equalIn d t1 x1 y1).run P w = .ok b1 w)
    (hx2 : (part t2 X o2).run P w = .ok x2 w) (hy2 : (part t2 Y o2).run P w = .ok y2 w) (he2 : (Op.equalIn d t2 x2 y2).run P w = .ok b2 w)
    (hx3 : (part t3 X o3).run P w = .ok x3 w) (hy3 : (part t3 Y o3).run P w = .ok y3 w) (he3 : (Op.equalIn d t3 x3 y3).run P w = .ok b3 w) :
    (Op.eqFields d X Y fs).run P w = .ok (b1 && (b2 && (b3 && true))) w := by
  have hlen : fs.length = 3 := by simpa using congrArg List.length hf
  obtain ⟨f1, f2, f3, rfl⟩ : ∃ f1 f2 f3, fs = [f1, f2, f3] := by
    rcases fs with _ | ⟨a, _ | ⟨b, _ | ⟨c, _ | ⟨e, l⟩⟩⟩⟩
    · simp at hlen
    · simp at hlen
    · simp at hlen
    · exact ⟨a, b, c, rfl⟩
    · simp at hlen
  clear hlen
  simp only [List.map_cons, List.map_nil, List.cons.injEq, Prod.mk.injEq, and_true] at hf
  obtain ⟨⟨n1, rfl, rfl⟩, ⟨n2, rfl, rfl⟩, ⟨n3, rfl, rfl⟩⟩ := hf
  exact eqF_cons n1 hx1 hy1 he1 (eqF_cons n2 hx2 hy2 he2 (eqF_cons n3 hx3 hy3 he3 eqF_nil))
theorem row_dec (r s : RowC) : (decide (r.ids = s.ids) && ((r.crc == s.crc) && ((r.pl == s.pl) && true))) = decide (r = s) := by
  cases r; cases s
  rw [Bool.eq_iff_iff]
  simp only [RowC.mk.injEq, decide_eq_true_eq, Bool.and_eq_true, beq_iff_eq, and_true]
theorem crc_part (w : World) {r : RowC} (hr : r.ok) : (part 36 r.l.toArray 32).run Tryd.prog w = .ok (.int .u32 r.crc) w := run_part_plain (P := Tryd.prog) (w := w) pk_u32 (by rw [List.getElem?_toArray]; exact RowC.cCrc hr)
theorem pl_part (w : World) {r : RowC} (hr : r.ok) : (part 37 r.l.toArray 33).run Tryd.prog w = .ok (.int .u64 r.pl) w := run_part_plain (P := Tryd.prog) (w := w) pk_u64 (by rw [List.getElem?_toArray]; exact RowC.cPl hr)
/-- Rows held against one another. -/
theorem eq_row (w : World) (d : Nat) {t : TypeId} (ht : eqFs t) {r s : RowC} (hr : r.ok) (hs : s.ok) : (Op.equalIn (d + 3) t (.agg r.l.toArray) (.agg s.l.toArray)).run Tryd.prog w = .ok (decide (r = s)) w := by
  obtain ⟨h1, h2, h3⟩ := ht
  have e1 := eq_id w d hr.1 hs.1
  have e2 := run_equalIn_int (P := Tryd.prog) w (d + 1) 36 .u32 .u32 r.crc s.crc Tryd.underlying36
  have e3 := run_equalIn_int (P := Tryd.prog) w (d + 1) 37 .u64 .u64 r.pl s.pl Tryd.underlying37
  have h := run_equalIn_struct (P := Tryd.prog) w (d + 2) t r.l.toArray s.l.toArray h1 h2
  rw [← row_dec]
  exact h.trans (eqF_three h3 (part_id w hr) (part_id w hs) e1 (crc_part w hr) (crc_part w hs) e2 (pl_part w hr) (pl_part w hs) e3)

open Go.RowKit Go.Sort

theorem rowI_ext {rs ss : List RowC} (hl : rs.length = ss.length) (h : ∀ i, i < rs.length → rowI rs i = rowI ss i) : rs = ss := by
  apply List.ext_getElem hl
  intro i h1 h2
  have := h i h1
  rwa [rowI_get h1, rowI_get h2] at this
theorem info_rowC {r : RowC} (h : r.ok) : (Tryd.prog.info? 42).map (·.size) = some r.l.length := by rw [RowC.len h]; exact info_row2
theorem exec_neqR {P : Program} (t : TypeId) (hg : P.eqGuardType P.depth t = false) {a : Act} {o : Oper} {x y : Operand} {t' : TypeId} (ho : o.op = .binOp .neq t x y t') {X Y : Array Value} (hx : a.eval x = .agg X) (hy : a.eval y = .agg Y) {q : Bool} {W : World} (hE : (Op.equalIn 10000 t (.agg X) (.agg Y)).run P W = .ok q W) : (execOp a.eval o).run P W = .ok (.value (.bool (!q))) W := by
  unfold execOp
  rw [ho]
  simp only [hx, hy, Sem.run_bind, run_eqGuard_agg W .neq t x y X Y hg, Result.andThen_ok, run_neq_struct W t X Y, hE, Sem.run_pure]
set_option maxHeartbeats 2000000 in
set_option maxRecDepth 100000 in
theorem sameR_any (v u : Value) (rs ss : List RowC) (w : World) (hr : RdR w v rs) (hs : RdR w u ss) (hl : rs.length ≤ 1000000) (hl2 : ss.length ≤ 1000000) :
    Calls Tryd.prog 9 #[v, u] w fun e w' => e = .returned (.bool (decide (rs = ss))) ∧ Below w.heap.size w w' := by
  obtain ⟨a, c, rfl, hlc, hcm, hac, hok, hrd⟩ := hr
  obtain ⟨a2, c2, rfl, hlc2, hcm2, hac2, hok2, hrd2⟩ := hs
  have KR := Kept.mk hrd
  have KK := Kept.mk hok
  have KR2 := Kept.mk hrd2
  have KK2 := Kept.mk hok2
  have KD : Kept (∀ R, decide (rs = ss) = R → (R = true ↔ rs = ss)) := ⟨fun R h => by rw [← h, decide_eq_true_iff]⟩
  obtain ⟨R, hR⟩ : ∃ R, decide (rs = ss) = R := ⟨_, rfl⟩
  have KD := Kept.mk (KD.out R hR)
  rw [hR]
  clear hrd hok hrd2 hok2 hR
  go_enter Tryd.func9, Tryd.ntmps9
  by_cases hle : rs.length = ss.length
  · have hne : ((rs.length : Int) != (ss.length : Int)) = false := by rw [hle]; simp
    have KL := Kept.mk hle
    clear hle
    go_wp2
    clear hne
    go_loopw [13] (fun iv wr => ∃ k : Nat, k ≤ rs.length ∧ iv = .int .i64 k ∧ (∀ j, j < k → rowI rs j = rowI ss j) ∧ Below w.heap.size w wr) (fun iv _ => rs.length - (intOf iv).toNat)
    case atStart => exact ⟨0, Nat.zero_le _, rfl, fun j h => absurd h (by omega), Below.refl _ _⟩
    case round =>
    obtain ⟨k, hk, rfl, hall, hbel⟩ := hrel
    have KBr := Kept.mk hbel
    have KA := Kept.mk hall
    clear hall
    by_cases hlt : k < rs.length
    · have hki : (k : Int) < (rs.length : Int) := by omega
      have hlt2 : k < ss.length := by have := KL.out; omega
      have hki2 : (k : Int) < (ss.length : Int) := by omega
      obtain ⟨b, off, rfl, hbl, hrg⟩ := KR.out (by omega)
      obtain ⟨b2, off2, rfl, hbl2, hrg2⟩ := KR2.out (by omega)
      have hbr : b < wr.heap.size := Nat.lt_of_lt_of_le hbl hbel.size
      have hbr2 : b2 < wr.heap.size := Nat.lt_of_lt_of_le hbl2 hbel.size
      have hR1 : Kept (∀ W, CC wr W → W.rangeAt b (off + k * 34) (rowI rs k).l) := ⟨fun W hW j u hu => by
        rw [hW.cell (p := ⟨b, off + k * 34 + j, none⟩) hbr, hbel.cell (p := ⟨b, off + k * 34 + j, none⟩) hbl]
        exact hrg k hlt j u hu⟩
      have hR2 : Kept (∀ W, CC wr W → W.rangeAt b2 (off2 + k * 34) (rowI ss k).l) := ⟨fun W hW j u hu => by
        rw [hW.cell (p := ⟨b2, off2 + k * 34 + j, none⟩) hbr2, hbel.cell (p := ⟨b2, off2 + k * 34 + j, none⟩) hbl2]
        exact hrg2 k hlt2 j u hu⟩
      have hoA := rowI_ok KK.out hlt
      have hoB := rowI_ok KK2.out hlt2
      obtain ⟨q, hq⟩ : ∃ q, decide (rowI rs k = rowI ss k) = q := ⟨_, rfl⟩
      have Kq := Kept.mk hq
      have KEq : Kept (∀ W, (Op.equalIn 10000 42 (.agg (rowI rs k).l.toArray) (.agg (rowI ss k).l.toArray)).run Tryd.prog W = .ok q W) := ⟨fun W => by rw [← hq]; exact eq_row W 9997 fs2 hoA hoB⟩
      have KI1 := Kept.mk (info_rowC hoA)
      have KI2 := Kept.mk (info_rowC hoB)
      clear hbel hrg hrg2 hoA hoB hq
      have e3 : IntKind.i64.wrap ((k : Int) + 1) = (k : Int) + 1 := wr64 (by omega) (by omega)
      generalize (rowI rs k).l = LA at *
      generalize (rowI ss k).l = LB at *
      clear hbr hbl hbr2 hbl2
      go_upto_region 6 with fail
      refine wp_region_quietC (C := CC wr) (by kernel_rfl) (by kernel_rfl) (Below.refl _ _).drew ?_
      go_big_quiet_step ((intro _; rfl))
      go_big_quiet_step ((intro _; rfl))
      refine BigFrame.wpQuiet_want rfl (fun K hK => quiet_run (v := .pointer (some ⟨b, off + k * 34, none⟩)) (fun W hW => by go_simp; all_goals first | rfl | (intro hneg; exfalso; omega)) (hK _ ?_))
      clear hK K
      simp only [Act.put, List.setIfInBounds_toArray, List.set_cons_zero, List.set_cons_succ]
      refine BigFrame.wpQuiet_want rfl (fun K hK => quiet_load_mid 42 _ rfl b (off + k * 34) rfl LA _ hR1.out Tryd.underlying42 rfl KI1.out (hK _ ?_))
      clear hK K
      simp only [Act.put, List.setIfInBounds_toArray, List.set_cons_zero, List.set_cons_succ]
      go_big_quiet_step ((intro _; rfl))
      go_big_quiet_step ((intro _; rfl))
      refine BigFrame.wpQuiet_want rfl (fun K hK => quiet_run (v := .pointer (some ⟨b2, off2 + k * 34, none⟩)) (fun W hW => by go_simp; all_goals first | rfl | (intro hneg; exfalso; omega)) (hK _ ?_))
      clear hK K
      simp only [Act.put, List.setIfInBounds_toArray, List.set_cons_zero, List.set_cons_succ]
      refine BigFrame.wpQuiet_want rfl (fun K hK => quiet_load_mid 42 _ rfl b2 (off2 + k * 34) rfl LB _ hR2.out Tryd.underlying42 rfl KI2.out (hK _ ?_))
      clear hK K
      simp only [Act.put, List.setIfInBounds_toArray, List.set_cons_zero, List.set_cons_succ]
      refine BigFrame.wpQuiet_want rfl (fun K hK => quiet_run (v := .bool (!q)) (fun W hW => exec_neqR 42 Tryd.eqGuardType42 rfl rfl rfl (KEq.out W)) (hK _ ?_))
      clear hK K
      simp only [Act.put, List.setIfInBounds_toArray, List.set_cons_zero, List.set_cons_succ]
      refine wpQuiet_nil ?_
      intro w3 hw3
      have KB3 := Kept.mk (KBr.out.trans (Below.mono hw3 KBr.out.size))
      clear hw3
      cases q with
      | false =>
        have KF : Kept (R = false) := ⟨by
          cases R with
          | false => rfl
          | true => exact absurd (congrArg (fun l => rowI l k) (KD.out.1 rfl)) (of_decide_eq_false Kq.out)⟩
        go_wp2
        go_ret
        exact ⟨by rw [KF.out]; rfl, KB3.out⟩
      | true =>
        go_wp2
        go_roundw
        case rel =>
          refine ⟨k + 1, by omega, by go_num, fun i h => ?_, KB3.out⟩
          rcases Nat.lt_or_ge i k with h2 | h2
          · exact KA.out i h2
          · obtain rfl : i = k := by omega
            exact of_decide_eq_true Kq.out
        case measure => simp [intOf]; omega
    · have hki : ¬ (k : Int) < (rs.length : Int) := by omega
      have KF : Kept (R = true) := ⟨KD.out.2 (rowI_ext KL.out fun i hi => KA.out i (by omega))⟩
      clear hbel
      go_wp2
      go_ret
      exact ⟨by rw [KF.out]; rfl, KBr.out⟩
  · have hne : ((rs.length : Int) != (ss.length : Int)) = true := by rw [bne_iff_ne]; omega
    have KF : Kept (R = false) := ⟨by
      cases R with
      | false => rfl
      | true => exact absurd (congrArg List.length (KD.out.1 rfl)) hle⟩
    clear hle
    go_wp2
    go_ret
    exact ⟨by rw [KF.out]; rfl, Below.refl _ _⟩
end Go.Proofs.YtgoegmaepafopaaDoor
