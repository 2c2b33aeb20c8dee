/-
  Walks: tagLinks, commitLinks, Links, Check.
-/
import Derived.Test.YtkdlhcegimnocaaGreatDoorJ2
import Derived.Test.YtkdlhcegimnocaaGreatDoorL16
import Derived.Test.YtkdlhcegimnocaaGreatDoorC12
import Derived.Test.YtkdlhcegimnocaaGreatDoorO34
import Derived.Test.YtkdlhcegimnocaaGreatDoorO15
namespace Go.Proofs.YtkdlhcegimnocaaGreatDoor
open Go.RowKit

theorem id_info {p : List Int} (h : IdOk p) : (Tryz.prog.info? 39).map (·.size) = some (cellsK .u8 p).length := by rw [idP_len h]; kernel_rfl
theorem LbC.idok {c : LbC} (h : c.ok) : IdOk c.tg := ⟨h.1, h.2.1⟩
theorem LbB.rangeTg {w : World} {g : Nat} {c : LbC} (h : LbB w g c) : w.rangeAt g 0 (cellsK .u8 c.tg) := fun j u hu => h.range j u (by
  unfold LbC.l
  rw [List.getElem?_append_left (by
    rcases Nat.lt_or_ge j (cellsK .u8 c.tg).length with h' | h'
    · exact h'
    · rw [List.getElem?_eq_none h'] at hu; cases hu)]
  exact hu)
theorem OwnL.one (w : World) (base : Nat) (hb : base ≤ w.heap.size) {e : LkC} (h : e.ok) : OwnL (w.alloc (.cells e.l.toArray 64)) base (.slice (some ⟨w.heap.size, 0, none⟩) 1 1) [e] := by
  refine ⟨⟨by simp [LkC.len h], Or.inr ⟨w.heap.size, 1, e.l.toArray, rfl, hb, heap_alloc_new w _, Nat.le_refl _, by decide, by simp [LkC.len h], ?_⟩⟩, fun x hx => ?_⟩
  · rw [List.take_of_length_le (by simp [LkC.len h])]
    simp
  simp at hx
  rw [hx]
  exact h
set_option maxHeartbeats 2000000 in
set_option maxRecDepth 100000 in
theorem tagLinks_any (v : Value) (xs : List Int) (w : World) (hgl : Gl w) (hr : Rd .u8 anyB w v xs) :
    Calls Tryz.prog 16 #[v] w fun e w' => ∃ v' L E, e = .returned (.tuple #[v', .int .i64 E]) ∧ OwnL w' w.heap.size v' L ∧ LkTg xs L E ∧ Below w.heap.size w w' := by
  have K1 := Kept.mk (parseTag_any v xs w hgl hr)
  obtain ⟨a, c, rfl, -⟩ := hr
  clear hgl
  go_enter Tryz.func16, Tryz.ntmps16
  go_wp2_with fail
  refine Calls.mono K1.out (fun e w1 hp => ?_)
  obtain ⟨R, E, rfl, hd, hb⟩ := hp
  have hok := dg_ok hd
  obtain ⟨wa, w2, hS⟩ := lb_store w1 hok
  have KB2 := Kept.mk (hb.trans (hS.be.mono hb.size))
  have Kd := Kept.mk hd
  have Kok := Kept.mk hok
  have KI2 := Kept.mk (lb_info2 hok)
  have KOl := Kept.mk R.all
  have Ka := Kept.mk hS.al
  have Kt := Kept.mk hS.st
  have Kh := Kept.mk hS.th
  have KTg := Kept.mk hS.bl.rangeTg
  have KIi := Kept.mk (id_info (LbC.idok hok))
  have hk := hS.bl.cell hok 0 _ rfl
  clear hb hd K1 hok hS
  obtain ⟨RL, hRL⟩ : ∃ RL, R.l = RL := ⟨_, rfl⟩
  rw [hRL] at KI2 KOl Kt Kh
  rw [hRL]
  clear hRL
  by_cases hE : E = 0
  · subst hE
    have KOf : Kept (OwnL (w2.alloc (.cells (LkC.l ⟨R.k, R.tg⟩).toArray 64)) w.heap.size (.slice (some ⟨w2.heap.size, 0, none⟩) 1 1) [⟨R.k, R.tg⟩]) := ⟨OwnL.one w2 _ KB2.out.size ((LbC.idok Kok.out))⟩
    have KBf : Kept (Below w.heap.size w (w2.alloc (.cells (LkC.l ⟨R.k, R.tg⟩).toArray 64))) := ⟨KB2.out.alloc KB2.out.size _⟩
    have Kll : Kept ((LkC.l ⟨R.k, R.tg⟩).length = 33) := ⟨LkC.len (LbC.idok Kok.out)⟩
    have KE : Kept (LkTg xs [⟨R.k, R.tg⟩] 0) := ⟨⟨R, Kd.out, by rw [if_pos rfl]; rfl⟩⟩
    have Kid := Kept.mk (LbC.idok Kok.out)
    clear Kd Kok KB2
    generalize R.k = rk at *
    generalize R.tg = rt at *
    go_wp2_with (first | (generalize hOb : Obj.cells (_ : Array Value) 61 = Ob; obtain rfl : Ob = Obj.cells lb0.l.toArray 61 := (by subst hOb; rfl); clear hOb; rw [Ka.out]; refine wpList_store_mid rfl 61 _ _ rfl w1.heap.size 0 RL.toArray rfl rfl Kh.out KI2.out KOl.out ?_; rw [Kt.out]) | (refine wpList_load_mid rfl 39 _ rfl w1.heap.size 0 rfl (cellsK .u8 rt) _ KTg.out Tryz.underlying39 rfl KIi.out ?_) | (refine wpList_buildLk rfl _ _ rfl rk rt Kid.out rfl rfl ?_) | (refine wpList_sliceL rfl _ rfl (LkC.l ⟨rk, rt⟩) Kll.out rfl ?_; generalize hx4 : w2.alloc (.cells (LkC.l ⟨rk, rt⟩).toArray 64) = x4 at *))
    go_ret2
    exact ⟨_, _, 0, rfl, KOf.out, KE.out, KBf.out⟩
  · have hEb : (E != 0) = true := by simpa using hE
    have KE : Kept (LkTg xs [] E) := ⟨⟨R, Kd.out, by rw [if_neg hE]⟩⟩
    clear Kd hE
    go_wp2_with (first | (generalize hOb : Obj.cells (_ : Array Value) 61 = Ob; obtain rfl : Ob = Obj.cells lb0.l.toArray 61 := (by subst hOb; rfl); clear hOb; rw [Ka.out]; refine wpList_store_mid rfl 61 _ _ rfl w1.heap.size 0 RL.toArray rfl rfl Kh.out KI2.out KOl.out ?_; rw [Kt.out]))
    go_ret2
    exact ⟨_, [], E, rfl, OwnL.nil _ _, KE.out, KB2.out⟩
set_option maxHeartbeats 4000000 in
set_option maxRecDepth 100000 in
theorem commitLinks_any (v : Value) (xs : List Int) (w : World) (hgl : Gl w) (hr : Rd .u8 anyB w v xs) :
    Calls Tryz.prog 14 #[v] w fun e w' => ∃ v' L E, e = .returned (.tuple #[v', .int .i64 E]) ∧ OwnL w' w.heap.size v' L ∧ LkCm xs L E ∧ Below w.heap.size w w' := by
  have K1 := Kept.mk (parseCommit_any v xs w hgl hr)
  obtain ⟨a, c, rfl, -⟩ := hr
  clear hgl
  go_enter Tryz.func14, Tryz.ntmps14
  go_wp2_with fail
  refine Calls.mono K1.out (fun e w1 hp => ?_)
  obtain ⟨R, pv, E, rfl, how, hd, hb⟩ := hp
  obtain ⟨hok, hps⟩ := dc_ok hd
  obtain ⟨wa, w2, hS⟩ := cm_store w1 pv hok
  have KB2 := Kept.mk (hb.trans (hS.be.mono hb.size))
  have Kd := Kept.mk hd
  have Kok := Kept.mk hok
  have KI2 : Kept ((Tryz.prog.info? 53).map (·.size) = some (R.l pv).toArray.size) := ⟨by rw [List.size_toArray]; exact cm_info hok⟩
  have KOl : Kept ((R.l pv).toArray.all (·.oneCell') = true) := ⟨CmC.all how.one⟩
  have Ka := Kept.mk hS.al
  have Kt := Kept.mk hS.st
  have Kh := Kept.mk hS.th
  have KTg := Kept.mk hS.bl.rangeTg
  have KIi := Kept.mk (id_info hok.1)
  have KP2 := Kept.mk (how.rdP.later hS.be (Nat.le_refl _))
  have KL1 : Kept (w1.heap.size < w2.heap.size) := ⟨hS.bl.lt⟩
  have hk := hS.bl.cell hok 0 _ rfl
  have Khk : Kept (∀ W, Below w2.heap.size w2 W → W.cell? ⟨w1.heap.size, 32, none⟩ = some pv) := ⟨fun W hW => by rw [hW.cell (p := ⟨w1.heap.size, 32, none⟩) KL1.out]; exact hk⟩
  clear hb hd K1 hok hS how hk
  obtain ⟨RL, hRL⟩ : ∃ RL, R.l pv = RL := ⟨_, rfl⟩
  rw [hRL] at KI2 KOl Kt Kh
  rw [hRL]
  clear hRL
  by_cases hE : E = 0
  · subst hE
    have KOf : Kept (OwnL (w2.alloc (.cells (LkC.l ⟨2, R.tg⟩).toArray 64)) w2.heap.size (.slice (some ⟨w2.heap.size, 0, none⟩) 1 1) (⟨2, R.tg⟩ :: (R.ps.take 0).map (fun p => ⟨1, p⟩))) := ⟨OwnL.one w2 _ (Nat.le_refl _) Kok.out.1⟩
    have KBf : Kept (Below w2.heap.size w2 (w2.alloc (.cells (LkC.l ⟨2, R.tg⟩).toArray 64))) := ⟨(Below.refl _ _).alloc (Nat.le_refl _) _⟩
    have Kll : Kept ((LkC.l ⟨2, R.tg⟩).length = 33) := ⟨LkC.len Kok.out.1⟩
    have KE : Kept (LkCm xs (⟨2, R.tg⟩ :: R.ps.map (fun p => ⟨1, p⟩)) 0) := ⟨⟨R, Kd.out, by rw [if_pos rfl]; rfl⟩⟩
    have Kid : Kept (IdOk R.tg) := ⟨Kok.out.1⟩
    have Kpl : Kept (R.ps.length ≤ 16) := ⟨hps⟩
    have hpl : R.ps.length ≤ 16 := hps
    clear Kd Kok hps
    generalize R.tg = rt at *
    generalize R.ps = ps at *
    obtain ⟨x4, hx4⟩ : ∃ x4, w2.alloc (.cells (LkC.l ⟨2, rt⟩).toArray 64) = x4 := ⟨_, rfl⟩
    rw [hx4] at KOf KBf
    have KX4 := Kept.mk hx4
    clear hx4
    have hc4 := Khk.out x4 KBf.out
    have KRd : Kept (∀ W, Below w2.heap.size w2 W → RdP W pv ps) := ⟨fun W hW => KP2.out.later hW (Nat.le_refl _)⟩
    obtain ⟨pa, pc, hpv, -⟩ := KP2.out
    subst hpv
    clear KP2 Khk
    go_upto_region 6 with (first | (generalize hOb : Obj.cells (_ : Array Value) 53 = Ob; obtain rfl : Ob = Obj.cells (cm0.l pv0).toArray 53 := (by subst hOb; rfl); clear hOb; rw [Ka.out]; refine wpList_store_mid rfl 53 _ _ rfl w1.heap.size 0 RL.toArray rfl rfl Kh.out KI2.out KOl.out ?_; rw [Kt.out]) | (refine wpList_load_mid rfl 39 _ rfl w1.heap.size 0 rfl (cellsK .u8 rt) _ KTg.out Tryz.underlying39 rfl KIi.out ?_) | (refine wpList_buildLk rfl _ _ rfl 2 rt Kid.out rfl rfl ?_) | (refine wpList_sliceL rfl _ rfl (LkC.l ⟨2, rt⟩) Kll.out rfl ?_; rw [KX4.out]))
    clear hc4
    go_loopw [6, 24] (fun lv iv wr => ∃ k : Nat, k ≤ ps.length ∧ iv = .int .i64 k ∧ OwnL wr w2.heap.size lv (⟨2, rt⟩ :: (ps.take k).map (fun p => ⟨1, p⟩)) ∧ Below w2.heap.size w2 wr) (fun _ iv _ => ps.length - (intOf iv).toNat)
    case atStart => exact ⟨0, Nat.zero_le _, rfl, KOf.out, KBf.out⟩
    case round =>
      obtain ⟨k, hk, rfl, hol, hbr⟩ := hrel
      have KBr := Kept.mk hbr
      have KOl2 := Kept.mk hol
      clear KOf hol
      by_cases hlt : k < ps.length
      · have hki : (k : Int) < (ps.length : Int) := by omega
        have e1 : IntKind.i64.wrap ((k : Int) + 1) = (k : Int) + 1 := by rw [IntKind.wrap_i64]; omega
        obtain ⟨pa', pc', hpe, -, hpo, hpr⟩ := KRd.out wr hbr
        obtain ⟨b, off, hpb, hblt, hrg⟩ := hpr (by omega)
        have hpae : pa = some ⟨b, off, none⟩ := by injection hpe with h1 h2 h3; rw [h1, hpb]
        subst hpae
        have hrow := hrg k hlt
        have hid := hpo _ (List.getElem_mem hlt)
        have Ktk : Kept ((ps.take (k + 1)).map (fun p => LkC.mk 1 p) = (ps.take k).map (fun p => LkC.mk 1 p) ++ [⟨1, ps[k]'hlt⟩]) := ⟨by rw [List.take_add_one, List.getElem?_eq_getElem hlt, List.map_append]; rfl⟩
        have Ktl : Kept (((⟨2, rt⟩ : LkC) :: (ps.take k).map (fun p => LkC.mk 1 p)).length ≤ 17) := ⟨by rw [List.length_cons, List.length_map, List.length_take]; omega⟩
        clear hpr hrg hpo hpe hpl
        generalize (ps[k]'hlt) = ids at *
        have h32 := idP_len hid
        obtain ⟨x2, hx2, hB2, hr2⟩ : ∃ x2, wr.alloc (.cells (cellsK .u8 ids).toArray 39) = x2 ∧ Below wr.heap.size wr x2 ∧ x2.rangeAt wr.heap.size 0 (cellsK .u8 ids) := by
          refine ⟨_, rfl, (Below.refl _ _).alloc (Nat.le_refl _) _, fun j u hu => ?_⟩
          rw [Nat.zero_add, cell_of_row _ _ j _ 39 (0, 0) (heap_alloc_new wr _)]
          simpa using hu
        obtain ⟨x3, hx3, hB3, hr3⟩ : ∃ x3, x2.alloc (.cells (LkC.l ⟨1, ids⟩).toArray 64) = x3 ∧ Below x2.heap.size x2 x3 ∧ x3.rangeAt x2.heap.size 0 (LkC.l ⟨1, ids⟩) := by
          refine ⟨_, rfl, (Below.refl _ _).alloc (Nat.le_refl _) _, fun j u hu => ?_⟩
          rw [Nat.zero_add, cell_of_row _ _ j _ 64 (0, 0) (heap_alloc_new x2 _)]
          simpa using hu
        have hBx := hbr.trans (hB2.mono hbr.size)
        have hBy := hBx.trans (hB3.mono hBx.size)
        have KBy := Kept.mk hBy
        have KOy := Kept.mk ((KOl2.out.later hB2 (Nat.le_refl _)).later hB3 (Nat.le_refl _))
        have KR := Kept.mk hrow
        have KR2 := Kept.mk hr2
        have KR3 := Kept.mk hr3
        have KX2 := Kept.mk hx2
        have KX3 := Kept.mk hx3
        have Kid2 := Kept.mk hid
        have Kll2 : Kept ((LkC.l ⟨1, ids⟩).length = 33) := ⟨LkC.len hid⟩
        have KI := Kept.mk (id_info hid)
        have KI2 : Kept ((Tryz.prog.info? 39).map (·.size) = some (cellsK .u8 ids).toArray.size) := ⟨by rw [List.size_toArray]; exact KI.out⟩
        have KS : Kept ((cellsK .u8 ids).toArray.size = 32) := ⟨by rw [List.size_toArray]; exact h32⟩
        have KO : Kept ((cellsK .u8 ids).toArray.all (·.oneCell') = true) := ⟨by rw [Array.all_eq_true_iff_forall_mem]; intro x hx; exact idP_ones ids x (by simpa using hx)⟩
        clear hrow hid h32 hx2 hB2 hr2 hx3 hB3 hr3 hBx hBy hbr
        go_upto_region 8 with (first | (refine wpList_load_mid rfl 39 _ rfl b (off + k * 32) rfl (cellsK .u8 ids) _ KR.out Tryz.underlying39 rfl KI.out ?_) | (refine BigFrame.wpList_want rfl (fun K hK => wp_store_row 39 _ _ rfl wr.heap.size (cellsK .u8 ids).toArray rfl rfl 39 _ (heap_alloc_new wr _) KI2.out (by rw [KS.out]; rfl) KO.out (hK _ _ ?_)); rw [World.setRow_alloc_new, KX2.out]))
        go_wp2_with (first | (refine wpList_load_mid rfl 39 _ rfl wr.heap.size 0 rfl (cellsK .u8 ids) _ KR2.out Tryz.underlying39 rfl KI.out ?_) | (refine wpList_buildLk rfl _ _ rfl 1 ids Kid2.out rfl rfl ?_) | (refine wpList_sliceL rfl _ rfl (LkC.l ⟨1, ids⟩) Kll2.out rfl ?_; rw [KX3.out]) | (at_builtin; refine wpList_append_L _ rfl _ _ rfl w2.heap.size _ (⟨2, rt⟩ :: (ps.take k).map (fun p => LkC.mk 1 p)) rfl KOy.out ⟨1, ids⟩ Kid2.out x2.heap.size 1 rfl KR3.out (by have := Ktl.out; omega) KBy.out.size ?_; intro v5 x5 ho5 hg5; have KO5 : Kept (OwnL x5 w2.heap.size v5 (⟨2, rt⟩ :: (ps.take (k + 1)).map (fun p => LkC.mk 1 p))) := ⟨by rw [Ktk.out]; exact ho5⟩; have KB5 : Kept (Below w2.heap.size w2 x5) := ⟨KBy.out.trans ((Below.refl _ _).grown hg5 KBy.out.size (fun q hq => (KOy.out.lt q hq).1))⟩; clear ho5 hg5))
        go_roundw
        case rel => exact ⟨k + 1, by omega, by go_num, KO5.out, KB5.out⟩
        case measure => simp [intOf]; omega
      · have hki : ¬ (k : Int) < (ps.length : Int) := by omega
        obtain rfl : k = ps.length := by omega
        have KOf := Kept.mk KOl2.out
        rw [List.take_length] at KOf
        have KBf2 := Kept.mk (KB2.out.trans (hbr.mono KB2.out.size))
        clear hbr KOl2
        go_wp2
        go_ret2
        exact ⟨_, _, 0, rfl, KOf.out.mono KB2.out.size, KE.out, KBf2.out⟩
  · have hEb : (E != 0) = true := by simpa using hE
    have KE : Kept (LkCm xs [] E) := ⟨⟨R, Kd.out, by rw [if_neg hE]⟩⟩
    clear Kd hE Khk KP2
    go_wp2_with (first | (generalize hOb : Obj.cells (_ : Array Value) 53 = Ob; obtain rfl : Ob = Obj.cells (cm0.l pv0).toArray 53 := (by subst hOb; rfl); clear hOb; rw [Ka.out]; refine wpList_store_mid rfl 53 _ _ rfl w1.heap.size 0 RL.toArray rfl rfl Kh.out KI2.out KOl.out ?_; rw [Kt.out]))
    go_ret2
    exact ⟨_, [], E, rfl, OwnL.nil _ _, KE.out, KB2.out⟩


theorem ob_box (w : World) (k : Int) (v : Value) : ∃ w1, w.alloc (.cells #[.int .i64 k, v] 26) = w1 ∧ Below w.heap.size w w1 ∧ w1.cell? ⟨w.heap.size, 0, none⟩ = some (.int .i64 k) ∧ w1.cell? ⟨w.heap.size, 1, none⟩ = some v ∧ w1.heap.size = w.heap.size + 1 := by
  have hblk := heap_alloc_new w (.cells #[.int .i64 k, v] 26)
  exact ⟨_, rfl, (Below.refl _ _).alloc (Nat.le_refl _) _, by rw [cell_of_row _ _ 0 _ _ (0, 0) hblk]; rfl, by rw [cell_of_row _ _ 1 _ _ (0, 0) hblk]; rfl, by simp⟩
theorem lk_long {k : Int} {xs : List Int} (h : 1048576 < xs.length) : LkEnd k xs [] 2 := by unfold LkEnd; rw [if_pos h]; exact ⟨rfl, rfl⟩
theorem lk_cm {xs : List Int} {L : List LkC} {E : Int} (h : ¬ 1048576 < xs.length) (g : LkCm xs L E) : LkEnd 1 xs L E := by unfold LkEnd; rw [if_neg h, if_pos rfl]; exact g
theorem lk_tr {xs : List Int} {L : List LkC} {E : Int} (h : ¬ 1048576 < xs.length) (g : LkTr xs L E) : LkEnd 2 xs L E := by unfold LkEnd; rw [if_neg h, if_neg (by decide), if_pos rfl]; exact g
theorem lk_bl {xs : List Int} (h : ¬ 1048576 < xs.length) : LkEnd 3 xs [] 0 := by unfold LkEnd; rw [if_neg h, if_neg (by decide), if_neg (by decide), if_pos rfl]; exact ⟨rfl, rfl⟩
theorem lk_tg {xs : List Int} {L : List LkC} {E : Int} (h : ¬ 1048576 < xs.length) (g : LkTg xs L E) : LkEnd 4 xs L E := by unfold LkEnd; rw [if_neg h, if_neg (by decide), if_neg (by decide), if_neg (by decide), if_pos rfl]; exact g
theorem lk_no {k : Int} {xs : List Int} (h : ¬ 1048576 < xs.length) (h1 : k ≠ 1) (h2 : k ≠ 2) (h3 : k ≠ 3) (h4 : k ≠ 4) : LkEnd k xs [] 9 := by unfold LkEnd; rw [if_neg h, if_neg h1, if_neg h2, if_neg h3, if_neg h4]; exact ⟨rfl, rfl⟩
set_option maxHeartbeats 2000000 in
set_option maxRecDepth 100000 in
theorem links_any (k : Int) (v : Value) (xs : List Int) (w : World) (hg : Gv w) (hgl : Gl w) (hr : Rd .u8 anyB w v xs) (hA : AllIn 0 256 xs) :
    Calls Tryz.prog 5 #[.agg #[.int .i64 k, v]] w fun e w' => ∃ v' L E, e = .returned (.tuple #[v', .int .i64 E]) ∧ OwnL w' w.heap.size v' L ∧ LkEnd k xs L E ∧ Below w.heap.size w w' := by
  obtain ⟨w1, hw1, hB1, c0, c1, -⟩ := ob_box w k v
  have KT := Kept.mk (treeLinks_any v xs w1 (hg.later hB1) (hgl.later hB1) (hr.later hB1 (Nat.le_refl _)))
  have KC := Kept.mk (commitLinks_any v xs w1 (hgl.later hB1) (hr.later hB1 (Nat.le_refl _)))
  have KG := Kept.mk (tagLinks_any v xs w1 (hgl.later hB1) (hr.later hB1 (Nat.le_refl _)))
  have KA := Kept.mk hA
  have KB1 := Kept.mk hB1
  obtain ⟨a, c, rfl, -⟩ := hr
  clear hg hgl hB1 hA
  by_cases hl : 1048576 < xs.length
  · have hli : (1048576 : Int) < (xs.length : Int) := by omega
    have KE := Kept.mk (lk_long (k := k) hl)
    clear hl KT KC KG
    go_enter Tryz.func5, Tryz.ntmps5
    go_upto_region 1 with fail
    try rw [hw1]
    clear hw1
    go_wp2
    go_ret2
    exact ⟨_, [], 2, rfl, OwnL.nil _ _, KE.out, KB1.out⟩
  · have hli : ¬ (1048576 : Int) < (xs.length : Int) := by omega
    have Kl := Kept.mk hl
    clear hl
    by_cases h1 : k = 1
    · subst h1
      clear KT KG
      go_enter Tryz.func5, Tryz.ntmps5
      go_upto_region 1 with fail
      try rw [hw1]
      clear hw1
      go_wp2_with fail
      refine Calls.mono KC.out (fun e w2 hp => ?_)
      obtain ⟨v2, L, E, rfl, ho, hE, hb⟩ := hp
      have KO := Kept.mk (ho.mono KB1.out.size)
      have KE := Kept.mk (lk_cm Kl.out hE)
      have KB2 := Kept.mk (KB1.out.trans (hb.mono KB1.out.size))
      clear ho hE hb KC c0 c1
      go_wp2
      go_ret2
      exact ⟨_, L, E, rfl, KO.out, KE.out, KB2.out⟩
    · have b1 : (k == 1) = false := by simpa using h1
      by_cases h2 : k = 2
      · subst h2
        clear KC KG
        go_enter Tryz.func5, Tryz.ntmps5
        go_upto_region 1 with fail
        try rw [hw1]
        clear hw1
        go_wp2_with fail
        refine Calls.mono KT.out (fun e w2 hp => ?_)
        obtain ⟨v2, R, E, rfl, ho, hE, hb⟩ := hp
        have KO := Kept.mk (ho.mono KB1.out.size)
        have KE := Kept.mk (lk_tr Kl.out ⟨R, pt_dp KA.out hE, rfl⟩)
        have KB2 := Kept.mk (KB1.out.trans (hb.mono KB1.out.size))
        clear ho hE hb KT c0 c1
        go_wp2
        go_ret2
        exact ⟨_, _, E, rfl, KO.out, KE.out, KB2.out⟩
      · have b2 : (k == 2) = false := by simpa using h2
        by_cases h3 : k = 3
        · subst h3
          have KE := Kept.mk (lk_bl Kl.out)
          clear KT KC KG h1 h2
          go_enter Tryz.func5, Tryz.ntmps5
          go_upto_region 1 with fail
          try rw [hw1]
          clear hw1
          go_wp2
          go_ret2
          exact ⟨_, [], 0, rfl, OwnL.nil _ _, KE.out, KB1.out⟩
        · have b3 : (k == 3) = false := by simpa using h3
          by_cases h4 : k = 4
          · subst h4
            clear KT KC h1 h2 h3
            go_enter Tryz.func5, Tryz.ntmps5
            go_upto_region 1 with fail
            try rw [hw1]
            clear hw1
            go_wp2_with fail
            refine Calls.mono KG.out (fun e w2 hp => ?_)
            obtain ⟨v2, L, E, rfl, ho, hE, hb⟩ := hp
            have KO := Kept.mk (ho.mono KB1.out.size)
            have KE := Kept.mk (lk_tg Kl.out hE)
            have KB2 := Kept.mk (KB1.out.trans (hb.mono KB1.out.size))
            clear ho hE hb KG c0 c1
            go_wp2
            go_ret2
            exact ⟨_, L, E, rfl, KO.out, KE.out, KB2.out⟩
          · have b4 : (k == 4) = false := by simpa using h4
            have KE := Kept.mk (lk_no Kl.out h1 h2 h3 h4)
            clear KT KC KG h1 h2 h3 h4
            go_enter Tryz.func5, Tryz.ntmps5
            go_upto_region 1 with fail
            try rw [hw1]
            clear hw1
            go_wp2
            go_ret2
            exact ⟨_, [], 9, rfl, OwnL.nil _ _, KE.out, KB1.out⟩
set_option maxHeartbeats 1000000 in
set_option maxRecDepth 100000 in
theorem check_any (k : Int) (v : Value) (xs : List Int) (w : World) (hg : Gv w) (hgl : Gl w) (hr : Rd .u8 anyB w v xs) (hA : AllIn 0 256 xs) :
    Calls Tryz.prog 7 #[.agg #[.int .i64 k, v]] w fun e w' => ∃ L E, e = .returned (.int .i64 E) ∧ LkEnd k xs L E ∧ Below w.heap.size w w' := by
  obtain ⟨w1, hw1, hB1, c0, c1, -⟩ := ob_box w k v
  have K1 := Kept.mk (links_any k v xs w1 (hg.later hB1) (hgl.later hB1) (hr.later hB1 (Nat.le_refl _)) hA)
  have KB1 := Kept.mk hB1
  obtain ⟨a, c, rfl, -⟩ := hr
  clear hg hgl hB1 hA
  go_enter Tryz.func7, Tryz.ntmps7
  go_upto_region 1 with fail
  try rw [hw1]
  clear hw1
  go_wp2_with fail
  refine Calls.mono K1.out (fun e w2 hp => ?_)
  obtain ⟨v2, L, E, rfl, ho, hE, hb⟩ := hp
  have KE := Kept.mk hE
  have KB2 := Kept.mk (KB1.out.trans (hb.mono KB1.out.size))
  clear ho hE hb K1 c0 c1
  go_wp2
  go_ret
  exact ⟨L, E, rfl, KE.out, KB2.out⟩


theorem idE_long {k : Int} {n : Nat} (h : 1048576 < n) : idE k n = 2 := by unfold idE; rw [if_pos h]
theorem idE_k {k : Int} {n : Nat} (h : ¬ 1048576 < n) (h1 : isK k = true) : idE k n = 0 := by unfold idE; rw [if_neg h, if_pos h1]
theorem idE_no {k : Int} {n : Nat} (h : ¬ 1048576 < n) (h1 : isK k = false) : idE k n = 9 := by unfold idE; rw [if_neg h, if_neg (by rw [h1]; decide)]
theorem not_isK {k : Int} (h1 : k ≠ 1) (h2 : k ≠ 2) (h3 : k ≠ 3) (h4 : k ≠ 4) : isK k = false := by
  unfold isK
  rw [Bool.and_eq_false_iff, decide_eq_false_iff_not, decide_eq_false_iff_not]
  omega
set_option maxHeartbeats 4000000 in
set_option maxRecDepth 100000 in
theorem docCheck_any (k : Int) (v : Value) (xs : List Int) (w : World) (hg : Gv w) (hgl : Gl w) (hr : Rd .u8 anyB w v xs) (hA : AllIn 0 256 xs) (hlm : xs.length ≤ 9223372036854775807) :
    Calls Tryz.prog 8 #[.agg #[.int .i64 k, v]] w fun e w' => ∃ L E, e = .returned (.int .i64 E) ∧ LkEnd k xs L E ∧ Below w.heap.size w w' := by
  obtain ⟨w1, hw1, hB1, c0, c1, hs1⟩ := ob_box w k v
  have KT : Kept (∀ W, Below w.heap.size w W → Calls Tryz.prog 18 #[v] W fun e w' => ∃ v' R E, e = .returned (.tuple #[v', .int .i64 E]) ∧ OwnE w' W.heap.size v' R ∧ DtEnd xs R E ∧ Below W.heap.size W w') := ⟨fun W hW => docParseTree_any v xs W (hg.later hW) (hr.later hW (Nat.le_refl _)) hA⟩
  have KC : Kept (∀ W, Below w.heap.size w W → Calls Tryz.prog 17 #[v] W fun e w' => ∃ R pv E, e = .returned (.tuple #[.agg (R.l pv).toArray, .int .i64 E]) ∧ OwnP w' W.heap.size pv R.ps ∧ DcEnd xs R E ∧ Below W.heap.size W w') := ⟨fun W hW => docParseCommit_any v xs W (hgl.later hW) (hr.later hW (Nat.le_refl _)) hA⟩
  have KG : Kept (∀ W, Below w.heap.size w W → Calls Tryz.prog 19 #[v] W fun e w' => ∃ R E, e = .returned (.tuple #[.agg R.l.toArray, .int .i64 E]) ∧ DgEnd xs R E ∧ Below W.heap.size W w') := ⟨fun W hW => docParseTag_any v xs W (hgl.later hW) (hr.later hW (Nat.le_refl _)) hA⟩
  have KB1 := Kept.mk hB1
  have Kcell : Kept (∀ W, Below w1.heap.size w1 W → W.cell? ⟨w.heap.size, 0, none⟩ = some (.int .i64 k) ∧ W.cell? ⟨w.heap.size, 1, none⟩ = some v) := ⟨fun W hW => by
    rw [hW.cell (p := ⟨w.heap.size, 0, none⟩) (by show w.heap.size < _; omega), hW.cell (p := ⟨w.heap.size, 1, none⟩) (by show w.heap.size < _; omega)]
    exact ⟨c0, c1⟩⟩
  obtain ⟨a, c, rfl, -⟩ := hr
  have K1 := Kept.mk (basic_any k a xs.length c w1 hlm)
  clear hg hgl hB1 hA hs1 hlm
  by_cases hl : 1048576 < xs.length
  · have KE := Kept.mk (lk_long (k := k) hl)
    clear KT KC KG
    rw [idE_long hl] at K1
    clear hl
    go_enter Tryz.func8, Tryz.ntmps8
    go_upto_region 1 with fail
    try rw [hw1]
    clear hw1
    go_wp2_with fail
    refine Calls.mono K1.out (fun e w2 hp => ?_)
    obtain ⟨rfl, hb2⟩ := hp
    obtain ⟨d0, d1⟩ := Kcell.out w2 hb2
    have hB2 := KB1.out.trans (hb2.mono KB1.out.size)
    have KB2 := Kept.mk hB2
    clear c0 c1 hb2 K1 Kcell
    clear hB2
    go_wp2
    go_ret
    exact ⟨[], 2, rfl, KE.out, KB2.out⟩
  · have Kl := Kept.mk hl
    by_cases h1 : k = 1
    · subst h1
      clear KT KG
      rw [idE_k hl rfl] at K1
      clear hl
      go_enter Tryz.func8, Tryz.ntmps8
      go_upto_region 1 with fail
      try rw [hw1]
      clear hw1
      go_wp2_with fail
      refine Calls.mono K1.out (fun e w2 hp => ?_)
      obtain ⟨rfl, hb2⟩ := hp
      obtain ⟨d0, d1⟩ := Kcell.out w2 hb2
      have hB2 := KB1.out.trans (hb2.mono KB1.out.size)
      have KB2 := Kept.mk hB2
      clear c0 c1 hb2 K1 Kcell
      have K2 := Kept.mk (KC.out w2 hB2)
      clear hB2
      go_wp2_with fail
      refine Calls.mono K2.out (fun e w3 hp => ?_)
      obtain ⟨R, pv, E, rfl, -, hE, hb⟩ := hp
      have KE := Kept.mk (lk_cm Kl.out ⟨R, hE, rfl⟩)
      have KB3 := Kept.mk (KB2.out.trans (hb.mono KB2.out.size))
      clear hE hb K2 d0 d1
      go_wp2
      go_ret
      exact ⟨_, E, rfl, KE.out, KB3.out⟩
    · have b1 : (k == 1) = false := by simpa using h1
      by_cases h2 : k = 2
      · subst h2
        clear KC KG h1
        rw [idE_k hl rfl] at K1
        clear hl
        go_enter Tryz.func8, Tryz.ntmps8
        go_upto_region 1 with fail
        try rw [hw1]
        clear hw1
        go_wp2_with fail
        refine Calls.mono K1.out (fun e w2 hp => ?_)
        obtain ⟨rfl, hb2⟩ := hp
        obtain ⟨d0, d1⟩ := Kcell.out w2 hb2
        have hB2 := KB1.out.trans (hb2.mono KB1.out.size)
        have KB2 := Kept.mk hB2
        clear c0 c1 hb2 K1 Kcell
        have K2 := Kept.mk (KT.out w2 hB2)
        clear hB2
        go_wp2_with fail
        refine Calls.mono K2.out (fun e w3 hp => ?_)
        obtain ⟨v3, R, E, rfl, -, hE, hb⟩ := hp
        have KE := Kept.mk (lk_tr Kl.out ⟨R, hE, rfl⟩)
        have KB3 := Kept.mk (KB2.out.trans (hb.mono KB2.out.size))
        clear hE hb K2 d0 d1
        go_wp2
        go_ret
        exact ⟨_, E, rfl, KE.out, KB3.out⟩
      · have b2 : (k == 2) = false := by simpa using h2
        by_cases h4 : k = 4
        · subst h4
          clear KT KC h1 h2
          rw [idE_k hl rfl] at K1
          clear hl
          go_enter Tryz.func8, Tryz.ntmps8
          go_upto_region 1 with fail
          try rw [hw1]
          clear hw1
          go_wp2_with fail
          refine Calls.mono K1.out (fun e w2 hp => ?_)
          obtain ⟨rfl, hb2⟩ := hp
          obtain ⟨d0, d1⟩ := Kcell.out w2 hb2
          have hB2 := KB1.out.trans (hb2.mono KB1.out.size)
          have KB2 := Kept.mk hB2
          clear c0 c1 hb2 K1 Kcell
          have K2 := Kept.mk (KG.out w2 hB2)
          clear hB2
          go_wp2_with fail
          refine Calls.mono K2.out (fun e w3 hp => ?_)
          obtain ⟨R, E, rfl, hE, hb⟩ := hp
          have KE := Kept.mk (lk_tg Kl.out ⟨R, hE, rfl⟩)
          have KB3 := Kept.mk (KB2.out.trans (hb.mono KB2.out.size))
          clear hE hb K2 d0 d1
          go_wp2
          go_ret
          exact ⟨_, E, rfl, KE.out, KB3.out⟩
        · have b4 : (k == 4) = false := by simpa using h4
          by_cases h3 : k = 3
          · subst h3
            have KE := Kept.mk (lk_bl Kl.out)
            clear KT KC KG h1 h2 h4
            rw [idE_k hl rfl] at K1
            clear hl
            go_enter Tryz.func8, Tryz.ntmps8
            go_upto_region 1 with fail
            try rw [hw1]
            clear hw1
            go_wp2_with fail
            refine Calls.mono K1.out (fun e w2 hp => ?_)
            obtain ⟨rfl, hb2⟩ := hp
            obtain ⟨d0, d1⟩ := Kcell.out w2 hb2
            have hB2 := KB1.out.trans (hb2.mono KB1.out.size)
            have KB2 := Kept.mk hB2
            clear c0 c1 hb2 K1 Kcell
            clear hB2
            go_wp2
            go_ret
            exact ⟨[], 0, rfl, KE.out, KB2.out⟩
          · have KE := Kept.mk (lk_no Kl.out h1 h2 h3 h4)
            have hK := not_isK h1 h2 h3 h4
            clear KT KC KG h1 h2 h4 h3
            rw [idE_no hl hK] at K1
            clear hl hK
            go_enter Tryz.func8, Tryz.ntmps8
            go_upto_region 1 with fail
            try rw [hw1]
            clear hw1
            go_wp2_with fail
            refine Calls.mono K1.out (fun e w2 hp => ?_)
            obtain ⟨rfl, hb2⟩ := hp
            obtain ⟨d0, d1⟩ := Kcell.out w2 hb2
            have hB2 := KB1.out.trans (hb2.mono KB1.out.size)
            have KB2 := Kept.mk hB2
            clear c0 c1 hb2 K1 Kcell
            clear hB2
            go_wp2
            go_ret
            exact ⟨[], 9, rfl, KE.out, KB2.out⟩


theorem lk_err {k : Int} {xs : List Int} {L : List LkC} {E : Int} (h : LkEnd k xs L E) (hE : E ≠ 0) : L = [] := by
  unfold LkEnd at h
  split at h
  · exact h.1
  split at h
  · obtain ⟨R, -, rfl⟩ := h
    rw [if_neg hE]
  split at h
  · obtain ⟨R, h1, rfl⟩ := h
    rcases h1 with ⟨-, rfl, -⟩ | ⟨-, ⟨-, h0⟩ | ⟨-, rfl, -⟩⟩
    · rfl
    · exact absurd h0 hE
    · rfl
  split at h
  · exact h.1
  split at h
  · obtain ⟨R, -, rfl⟩ := h
    rw [if_neg hE]
  · exact h.1
theorem lk_zero {k : Int} {xs : List Int} {L : List LkC} (h : LkEnd k xs L 0) : ¬ 1048576 < xs.length ∧ ((k = 1 ∧ LkCm xs L 0) ∨ (k = 2 ∧ LkTr xs L 0) ∨ (k = 3 ∧ L = []) ∨ (k = 4 ∧ LkTg xs L 0)) := by
  unfold LkEnd at h
  split at h
  · exact absurd h.2 (by decide)
  rename_i hl
  refine ⟨hl, ?_⟩
  split at h
  · rename_i hk; exact .inl ⟨hk, h⟩
  split at h
  · rename_i hk; exact .inr (.inl ⟨hk, h⟩)
  split at h
  · rename_i hk; exact .inr (.inr (.inl ⟨hk, h.1⟩))
  split at h
  · rename_i hk; exact .inr (.inr (.inr ⟨hk, h⟩))
  · exact absurd h.2 (by decide)
set_option maxHeartbeats 8000000 in
set_option maxRecDepth 100000 in
theorem docLinks_any (k : Int) (v : Value) (xs : List Int) (w : World) (hg : Gv w) (hgl : Gl w) (hr : Rd .u8 anyB w v xs) (hA : AllIn 0 256 xs) (hlm : xs.length ≤ 9223372036854775807) :
    Calls Tryz.prog 6 #[.agg #[.int .i64 k, v]] w fun e w' => ∃ v' L E, e = .returned (.tuple #[v', .int .i64 E]) ∧ OwnM w' w.heap.size v' L ∧ LkEnd k xs L E ∧ Below w.heap.size w w' := by
  obtain ⟨w1, hw1, hB1, c0, c1, hs1⟩ := ob_box w k v
  have KT : Kept (∀ W, Below w.heap.size w W → Calls Tryz.prog 18 #[v] W fun e w' => ∃ v' R E, e = .returned (.tuple #[v', .int .i64 E]) ∧ OwnE w' W.heap.size v' R ∧ DtEnd xs R E ∧ Below W.heap.size W w') := ⟨fun W hW => docParseTree_any v xs W (hg.later hW) (hr.later hW (Nat.le_refl _)) hA⟩
  have KC : Kept (∀ W, Below w.heap.size w W → Calls Tryz.prog 17 #[v] W fun e w' => ∃ R pv E, e = .returned (.tuple #[.agg (R.l pv).toArray, .int .i64 E]) ∧ OwnP w' W.heap.size pv R.ps ∧ DcEnd xs R E ∧ Below W.heap.size W w') := ⟨fun W hW => docParseCommit_any v xs W (hgl.later hW) (hr.later hW (Nat.le_refl _)) hA⟩
  have KG : Kept (∀ W, Below w.heap.size w W → Calls Tryz.prog 19 #[v] W fun e w' => ∃ R E, e = .returned (.tuple #[.agg R.l.toArray, .int .i64 E]) ∧ DgEnd xs R E ∧ Below W.heap.size W w') := ⟨fun W hW => docParseTag_any v xs W (hgl.later hW) (hr.later hW (Nat.le_refl _)) hA⟩
  have K1 := Kept.mk (docCheck_any k v xs w1 (hg.later hB1) (hgl.later hB1) (hr.later hB1 (Nat.le_refl _)) hA hlm)
  have KB1 := Kept.mk hB1
  have Kcell : Kept (∀ W, Below w1.heap.size w1 W → W.cell? ⟨w.heap.size, 0, none⟩ = some (.int .i64 k) ∧ W.cell? ⟨w.heap.size, 1, none⟩ = some v) := ⟨fun W hW => by
    rw [hW.cell (p := ⟨w.heap.size, 0, none⟩) (by show w.heap.size < _; omega), hW.cell (p := ⟨w.heap.size, 1, none⟩) (by show w.heap.size < _; omega)]
    exact ⟨c0, c1⟩⟩
  obtain ⟨a, c, rfl, -⟩ := hr
  clear hg hgl hB1 hA hs1 hlm
  go_enter Tryz.func6, Tryz.ntmps6
  go_upto_region 1 with fail
  try rw [hw1]
  clear hw1
  go_wp2_with fail
  refine Calls.mono K1.out (fun e w2 hp => ?_)
  obtain ⟨L1, E1, rfl, hE1, hb2⟩ := hp
  obtain ⟨d0, d1⟩ := Kcell.out w2 hb2
  have hB2 := KB1.out.trans (hb2.mono KB1.out.size)
  have KB2 := Kept.mk hB2
  have Kd0 : Kept (∀ W, Below w2.heap.size w2 W → W.cell? ⟨w.heap.size, 1, none⟩ = some (.slice a xs.length c)) := ⟨fun W hW => (Kcell.out W (hb2.trans (hW.mono hb2.size))).2⟩
  clear c0 c1 hb2 K1 Kcell
  by_cases hE0 : E1 = 0
  · subst hE0
    have Kend := Kept.mk hE1
    obtain ⟨hl, hk⟩ := lk_zero hE1
    clear hE1 hl
    rcases hk with ⟨rfl, hk⟩ | ⟨rfl, hk⟩ | ⟨rfl, rfl⟩ | ⟨rfl, hk⟩
    · have K2 := Kept.mk (KC.out w2 hB2)
      obtain ⟨R1, hR1, hL1⟩ := hk
      rw [if_pos rfl] at hL1
      clear hB2 KT KG KC
      go_upto_region 8 with (fail)
      refine Calls.mono K2.out (fun e w3 hp => ?_)
      obtain ⟨R, pv, E, rfl, how, hd, hb⟩ := hp
      obtain ⟨rfl, rfl⟩ := dc_one hR1 hd
      clear hR1 K2 d0 d1
      obtain ⟨hok, hps⟩ := dc_ok hd
      obtain ⟨wa, w4, hS⟩ := cm_store w3 pv hok
      have KB4 := Kept.mk (KB2.out.trans ((hb.trans (hS.be.mono hb.size)).mono KB2.out.size))
      have Kok := Kept.mk hok
      have KI2 : Kept ((Tryz.prog.info? 53).map (·.size) = some (R1.l pv).toArray.size) := ⟨by rw [List.size_toArray]; exact cm_info hok⟩
      have KOl : Kept ((R1.l pv).toArray.all (·.oneCell') = true) := ⟨CmC.all how.one⟩
      have Ka := Kept.mk hS.al
      have Kt := Kept.mk hS.st
      have Kh := Kept.mk hS.th
      have KTg := Kept.mk hS.bl.rangeTg
      have KIi := Kept.mk (id_info hok.1)
      have KP2 := Kept.mk (how.rdP.later hS.be (Nat.le_refl _))
      have KL1 : Kept (w3.heap.size < w4.heap.size) := ⟨hS.bl.lt⟩
      have hk := hS.bl.cell hok 0 _ rfl
      have Khk : Kept (∀ W, Below w4.heap.size w4 W → W.cell? ⟨w3.heap.size, 32, none⟩ = some pv) := ⟨fun W hW => by rw [hW.cell (p := ⟨w3.heap.size, 32, none⟩) KL1.out]; exact hk⟩
      clear hb hd hok hS how hk
      obtain ⟨RL, hRL⟩ : ∃ RL, R1.l pv = RL := ⟨_, rfl⟩
      rw [hRL] at KI2 KOl Kt Kh
      rw [hRL]
      clear hRL
      obtain ⟨x4, hx4, hBx4, hr4⟩ : ∃ x4, w4.alloc (.cells (LkC.l ⟨2, R1.tg⟩).toArray 57) = x4 ∧ Below w4.heap.size w4 x4 ∧ x4.rangeAt w4.heap.size 0 (LkC.l ⟨2, R1.tg⟩) := by
        refine ⟨_, rfl, (Below.refl _ _).alloc (Nat.le_refl _) _, fun j u hu => ?_⟩
        rw [Nat.zero_add, cell_of_row _ _ j _ 57 (0, 0) (heap_alloc_new w4 _)]
        simpa using hu
      have Kll : Kept ((LkC.l ⟨2, R1.tg⟩).length = 33) := ⟨LkC.len Kok.out.1⟩
      have Kid : Kept (IdOk R1.tg) := ⟨Kok.out.1⟩
      have hL1 : L1 = ⟨2, R1.tg⟩ :: R1.ps.map (fun p => ⟨1, p⟩) := hL1
      have hpl : R1.ps.length ≤ 16 := hps
      have KL1' := Kept.mk hL1
      have KX4 := Kept.mk hx4
      have KR4 := Kept.mk hr4
      have KB4x := Kept.mk hBx4
      clear Kok hps hL1 hx4 hBx4 hr4
      generalize R1.tg = rt at *
      generalize R1.ps = ps at *
      have KRd : Kept (∀ W, Below w4.heap.size w4 W → RdP W pv ps) := ⟨fun W hW => KP2.out.later hW (Nat.le_refl _)⟩
      obtain ⟨pa, pc, hpv, -⟩ := KP2.out
      subst hpv
      clear KP2
      have KN4 : Kept (OwnM x4 w4.heap.size (.slice none 0 0) []) := ⟨OwnM.nil _ _⟩
      go_upto_region 9 with (first | (generalize hOb : Obj.cells (_ : Array Value) 53 = Ob; obtain rfl : Ob = Obj.cells (cm0.l pv0).toArray 53 := (by subst hOb; rfl); clear hOb; rw [Ka.out]; refine wpList_store_mid rfl 53 _ _ rfl w3.heap.size 0 RL.toArray rfl rfl Kh.out KI2.out KOl.out ?_; rw [Kt.out]) | (refine wpList_load_mid rfl 39 _ rfl w3.heap.size 0 rfl (cellsK .u8 rt) _ KTg.out Tryz.underlying39 rfl KIi.out ?_) | (refine wpList_buildMk rfl _ _ rfl 2 rt Kid.out rfl rfl ?_) | (refine wpList_sliceM rfl _ rfl (LkC.l ⟨2, rt⟩) Kll.out rfl ?_; rw [KX4.out]) | (at_builtin; refine wpList_append_M _ rfl _ _ rfl w4.heap.size (.slice none 0 0) [] rfl KN4.out ⟨2, rt⟩ Kid.out w4.heap.size 1 rfl KR4.out (by decide) KB4x.out.size ?_; intro v5 x5 ho5 hg5; have KOf : Kept (OwnM x5 w4.heap.size v5 (⟨2, rt⟩ :: (ps.take 0).map (fun p => LkC.mk 1 p))) := ⟨ho5⟩; have KBf : Kept (Below w4.heap.size w4 x5) := ⟨KB4x.out.trans ((Below.refl _ _).grown hg5 KB4x.out.size (fun q hq => by simp [Value.ownBlock] at hq))⟩; clear ho5 hg5))
      have hc5 := Khk.out x5 KBf.out
      clear Khk
      go_upto_region 10 with fail
      clear hc5
      go_loopw [5, 41] (fun lv iv wr => ∃ k : Nat, k ≤ ps.length ∧ iv = .int .i64 k ∧ OwnM wr w4.heap.size lv (⟨2, rt⟩ :: (ps.take k).map (fun p => ⟨1, p⟩)) ∧ Below w4.heap.size w4 wr) (fun _ iv _ => ps.length - (intOf iv).toNat)
      case atStart => exact ⟨0, Nat.zero_le _, rfl, KOf.out, KBf.out⟩
      case round =>
        obtain ⟨k, hk, rfl, hol, hbr⟩ := hrel
        have KBr := Kept.mk hbr
        have KOl2 := Kept.mk hol
        clear KOf hol
        by_cases hlt : k < ps.length
        · have hki : (k : Int) < (ps.length : Int) := by omega
          have e1 : IntKind.i64.wrap ((k : Int) + 1) = (k : Int) + 1 := by rw [IntKind.wrap_i64]; omega
          obtain ⟨pa', pc', hpe, -, hpo, hpr⟩ := KRd.out wr hbr
          obtain ⟨b, off, hpb, hblt, hrg⟩ := hpr (by omega)
          have hpae : pa = some ⟨b, off, none⟩ := by injection hpe with h1 h2 h3; rw [h1, hpb]
          subst hpae
          have hrow := hrg k hlt
          have hid := hpo _ (List.getElem_mem hlt)
          have Ktk : Kept ((ps.take (k + 1)).map (fun p => LkC.mk 1 p) = (ps.take k).map (fun p => LkC.mk 1 p) ++ [⟨1, ps[k]'hlt⟩]) := ⟨by rw [List.take_add_one, List.getElem?_eq_getElem hlt, List.map_append]; rfl⟩
          have Ktl : Kept (((⟨2, rt⟩ : LkC) :: (ps.take k).map (fun p => LkC.mk 1 p)).length ≤ 17) := ⟨by rw [List.length_cons, List.length_map, List.length_take]; omega⟩
          clear hpr hrg hpo hpe hpl
          generalize (ps[k]'hlt) = ids at *
          have h32 := idP_len hid
          obtain ⟨x2, hx2, hB2, hr2⟩ : ∃ x2, wr.alloc (.cells (cellsK .u8 ids).toArray 39) = x2 ∧ Below wr.heap.size wr x2 ∧ x2.rangeAt wr.heap.size 0 (cellsK .u8 ids) := by
            refine ⟨_, rfl, (Below.refl _ _).alloc (Nat.le_refl _) _, fun j u hu => ?_⟩
            rw [Nat.zero_add, cell_of_row _ _ j _ 39 (0, 0) (heap_alloc_new wr _)]
            simpa using hu
          obtain ⟨x3, hx3, hB3, hr3⟩ : ∃ x3, x2.alloc (.cells (LkC.l ⟨1, ids⟩).toArray 57) = x3 ∧ Below x2.heap.size x2 x3 ∧ x3.rangeAt x2.heap.size 0 (LkC.l ⟨1, ids⟩) := by
            refine ⟨_, rfl, (Below.refl _ _).alloc (Nat.le_refl _) _, fun j u hu => ?_⟩
            rw [Nat.zero_add, cell_of_row _ _ j _ 57 (0, 0) (heap_alloc_new x2 _)]
            simpa using hu
          have hBx := hbr.trans (hB2.mono hbr.size)
          have hBy := hBx.trans (hB3.mono hBx.size)
          have KBy := Kept.mk hBy
          have KOy := Kept.mk ((KOl2.out.later hB2 (Nat.le_refl _)).later hB3 (Nat.le_refl _))
          have KR := Kept.mk hrow
          have KR2 := Kept.mk hr2
          have KR3 := Kept.mk hr3
          have KX2 := Kept.mk hx2
          have KX3 := Kept.mk hx3
          have Kid2 := Kept.mk hid
          have Kll2 : Kept ((LkC.l ⟨1, ids⟩).length = 33) := ⟨LkC.len hid⟩
          have KI := Kept.mk (id_info hid)
          have KI2 : Kept ((Tryz.prog.info? 39).map (·.size) = some (cellsK .u8 ids).toArray.size) := ⟨by rw [List.size_toArray]; exact KI.out⟩
          have KS : Kept ((cellsK .u8 ids).toArray.size = 32) := ⟨by rw [List.size_toArray]; exact h32⟩
          have KO : Kept ((cellsK .u8 ids).toArray.all (·.oneCell') = true) := ⟨by rw [Array.all_eq_true_iff_forall_mem]; intro x hx; exact idP_ones ids x (by simpa using hx)⟩
          clear hrow hid h32 hx2 hB2 hr2 hx3 hB3 hr3 hBx hBy hbr
          go_upto_region 12 with (first | (refine wpList_load_mid rfl 39 _ rfl b (off + k * 32) rfl (cellsK .u8 ids) _ KR.out Tryz.underlying39 rfl KI.out ?_) | (refine BigFrame.wpList_want rfl (fun K hK => wp_store_row 39 _ _ rfl wr.heap.size (cellsK .u8 ids).toArray rfl rfl 39 _ (heap_alloc_new wr _) KI2.out (by rw [KS.out]; rfl) KO.out (hK _ _ ?_)); rw [World.setRow_alloc_new, KX2.out]))
          go_wp2_with (first | (refine wpList_load_mid rfl 39 _ rfl wr.heap.size 0 rfl (cellsK .u8 ids) _ KR2.out Tryz.underlying39 rfl KI.out ?_) | (refine wpList_buildMk rfl _ _ rfl 1 ids Kid2.out rfl rfl ?_) | (refine wpList_sliceM rfl _ rfl (LkC.l ⟨1, ids⟩) Kll2.out rfl ?_; rw [KX3.out]) | (at_builtin; refine wpList_append_M _ rfl _ _ rfl w4.heap.size _ (⟨2, rt⟩ :: (ps.take k).map (fun p => LkC.mk 1 p)) rfl KOy.out ⟨1, ids⟩ Kid2.out x2.heap.size 1 rfl KR3.out (by have := Ktl.out; omega) KBy.out.size ?_; intro v5 x5 ho5 hg5; have KO5 : Kept (OwnM x5 w4.heap.size v5 (⟨2, rt⟩ :: (ps.take (k + 1)).map (fun p => LkC.mk 1 p))) := ⟨by rw [Ktk.out]; exact ho5⟩; have KB5 : Kept (Below w4.heap.size w4 x5) := ⟨KBy.out.trans ((Below.refl _ _).grown hg5 KBy.out.size (fun q hq => (KOy.out.lt q hq).1))⟩; clear ho5 hg5))
          go_roundw
          case rel => exact ⟨k + 1, by omega, by go_num, KO5.out, KB5.out⟩
          case measure => simp [intOf]; omega
        · have hki : ¬ (k : Int) < (ps.length : Int) := by omega
          obtain rfl : k = ps.length := by omega
          have KOf := Kept.mk KOl2.out
          rw [List.take_length, ← KL1'.out] at KOf
          have KBf2 := Kept.mk (KB4.out.trans (hbr.mono KB4.out.size))
          clear hbr KOl2
          go_wp2
          go_ret2
          exact ⟨_, _, 0, rfl, KOf.out.mono KB4.out.size, Kend.out, KBf2.out⟩
    · have K2 := Kept.mk (KT.out w2 hB2)
      obtain ⟨R1, hR1, hL1⟩ := hk
      clear hB2 KC KG KT
      go_upto_region 16 with (fail)
      refine Calls.mono K2.out (fun e w4 hp => ?_)
      obtain ⟨v1, R, E, rfl, ho, hE, hb⟩ := hp
      obtain ⟨rfl, rfl⟩ := dp_one hR1 hE
      have hRl := hE.lens
      clear hR1 K2 d0 d1 hE
      have KB4 := Kept.mk (KB2.out.trans (hb.mono KB2.out.size))
      have KRd : Kept (∀ W, Below w4.heap.size w4 W → RdE W v1 R1) := ⟨fun W hW => ho.rdE.later hW⟩
      obtain ⟨pa, pc, rfl, -⟩ := ho.rdE
      have KL1' := Kept.mk hL1
      clear ho hb hL1
      generalize R1 = R at *
      have KO0 : Kept (OwnM w4 w4.heap.size (.slice none 0 0) ((R.take 0).map lkOf)) := ⟨OwnM.nil _ _⟩
      go_upto_region 17 with fail
      go_loopw [5, 61] (fun lv iv wr => ∃ k : Nat, k ≤ R.length ∧ iv = .int .i64 k ∧ OwnM wr w4.heap.size lv ((R.take k).map lkOf) ∧ Below w4.heap.size w4 wr) (fun _ iv _ => R.length - (intOf iv).toNat)
      case atStart => exact ⟨0, Nat.zero_le _, rfl, KO0.out, Below.refl _ _⟩
      case round =>
        obtain ⟨k, hk, rfl, hol, hbr⟩ := hrel
        have KBr := Kept.mk hbr
        have KOl := Kept.mk hol
        clear KO0 hol
        by_cases hlt : k < R.length
        · have hki : (k : Int) < (R.length : Int) := by omega
          have e1 : IntKind.i64.wrap ((k : Int) + 1) = (k : Int) + 1 := by rw [IntKind.wrap_i64]; omega
          obtain ⟨pa', pc', hpe, -, hpo, hpr⟩ := KRd.out wr hbr
          obtain ⟨b, off, hpb, hblt, hrg⟩ := hpr (by omega)
          have hpae : pa = some ⟨b, off, none⟩ := by injection hpe with h1 h2 h3; rw [h1, hpb]
          subst hpae
          have hrow := hrg k hlt
          have hoke := hpo _ (List.getElem_mem hlt)
          have h34 := EnC.len hoke
          have hones := EnC.ones (R[k]'hlt)
          obtain ⟨x2, hx2, hB2, -, -⟩ := EnC.box wr (R[k]'hlt)
          have hblk : x2.heap[wr.heap.size]? = some (.cells (R[k]'hlt).l.toArray 45) := by rw [← hx2]; exact heap_alloc_new wr _
          have c0 : x2.cell? ⟨wr.heap.size, 0, none⟩ = some (.int .i64 (R[k]'hlt).m) := by rw [cell_of_row x2 _ 0 _ _ (0, 0) hblk]; rfl
          have hr2 : x2.rangeAt wr.heap.size 2 (cellsK .u8 (R[k]'hlt).ids) := fun j u hu => by
            rw [cell_of_row x2 _ (2 + j) _ _ (0, 0) hblk]
            unfold EnC.l
            rw [List.getElem?_toArray, Nat.add_comm 2 j]
            exact hu
          have hid : IdOk (R[k]'hlt).ids := ⟨hoke.1, hoke.2.1⟩
          have KIi := Kept.mk (show (Tryz.prog.info? 39).map (·.size) = some (cellsK .u8 (R[k]'hlt).ids).length by rw [cellsK_length, hid.1]; kernel_rfl)
          have hBx := hbr.trans (hB2.mono hbr.size)
          have KBx := Kept.mk hBx
          have KOx := Kept.mk (KOl.out.later hB2 (Nat.le_refl _))
          have KR2 := Kept.mk hr2
          have Kid := Kept.mk hid
          have Ktk : Kept ((R.take (k + 1)).map lkOf = (R.take k).map lkOf ++ [lkOf (R[k]'hlt)]) := ⟨by rw [List.take_add_one, List.getElem?_eq_getElem hlt, List.map_append]; rfl⟩
          have Klk : Kept (lkOf (R[k]'hlt) = ⟨if (R[k]'hlt).m = 16384 then 2 else 3, (R[k]'hlt).ids⟩) := ⟨rfl⟩
          have Ktl : Kept (((R.take k).map lkOf).length ≤ 4096) := ⟨by rw [List.length_map, List.length_take]; omega⟩
          clear hpr hrg hpo hblk hbr hB2 hBx hr2 hid hoke hpe
          generalize lkOf (R[k]'hlt) = LK at *
          obtain ⟨CL, hCL⟩ : ∃ CL, (R[k]'hlt).l = CL := ⟨_, rfl⟩
          rw [hCL] at hrow h34 hones hx2
          generalize (R[k]'hlt).m = m at *
          generalize (R[k]'hlt).ids = ids at *
          have hR := Kept.mk hrow
          have KI : Kept ((Tryz.prog.info? 45).map (·.size) = some CL.length) := ⟨by rw [h34]; kernel_rfl⟩
          have KI2 : Kept ((Tryz.prog.info? 45).map (·.size) = some CL.toArray.size) := ⟨by rw [List.size_toArray]; exact KI.out⟩
          have KS : Kept (CL.toArray.size = 34) := ⟨by rw [List.size_toArray]; exact h34⟩
          have KO : Kept (CL.toArray.all (·.oneCell') = true) := ⟨by rw [Array.all_eq_true_iff_forall_mem]; intro x hx; exact hones x (by simpa using hx)⟩
          clear hrow h34 hones hCL
          go_upto_region 19 with (first | (refine wpList_load_mid rfl 45 _ rfl b (off + k * 34) rfl CL _ hR.out Tryz.underlying45 rfl KI.out ?_) | (refine BigFrame.wpList_want rfl (fun K hK => wp_store_row 45 _ _ rfl wr.heap.size CL.toArray rfl rfl 45 _ (heap_alloc_new wr _) KI2.out (by rw [KS.out]; rfl) KO.out (hK _ _ ?_)); rw [World.setRow_alloc_new]))
          try rw [hx2]
          clear hx2
          have Kend : Kept (∀ kd : Int, kd = (if m = 16384 then 2 else 3) → LK = ⟨kd, ids⟩ ∧ (LkC.mk kd ids).ok ∧ (LkC.l ⟨kd, ids⟩).length = 33) := ⟨fun kd h => ⟨by rw [Klk.out, h], Kid.out, LkC.len Kid.out⟩⟩
          obtain ⟨x3, hx3⟩ : ∃ f : Int → World, ∀ kd, f kd = x2.alloc (.cells (LkC.l ⟨kd, ids⟩).toArray 57) := ⟨fun kd => _, fun kd => rfl⟩
          have KX : Kept (∀ kd, x2.alloc (.cells (LkC.l ⟨kd, ids⟩).toArray 57) = x3 kd ∧ Below x2.heap.size x2 (x3 kd) ∧ (x3 kd).rangeAt x2.heap.size 0 (LkC.l ⟨kd, ids⟩)) := ⟨fun kd => by
            rw [hx3 kd]
            refine ⟨rfl, (Below.refl _ _).alloc (Nat.le_refl _) _, fun j u hu => ?_⟩
            rw [Nat.zero_add, cell_of_row _ _ j _ 57 (0, 0) (heap_alloc_new x2 _)]
            simpa using hu⟩
          clear hx3
          by_cases hm : m = 16384
          · have hmb : (m == 16384) = true := by simpa using hm
            obtain ⟨KeE, KeO, KeL⟩ := Kend.out 2 (by rw [if_pos hm])
            have KeE := Kept.mk KeE
            have KeO := Kept.mk KeO
            have KeL := Kept.mk KeL
            obtain ⟨KXa, KXb, KXr⟩ := KX.out 2
            have KXa := Kept.mk KXa
            have KOy := Kept.mk (KOx.out.later KXb (Nat.le_refl _))
            have KBy := Kept.mk (KBx.out.trans (KXb.mono KBx.out.size))
            have KXr := Kept.mk KXr
            clear KXb Kend KX hm
            generalize x3 2 = x4 at *
            go_wp2_with (first | (refine wpList_load_mid rfl 39 _ rfl wr.heap.size 2 rfl (cellsK .u8 ids) _ KR2.out Tryz.underlying39 rfl KIi.out ?_) | (refine wpList_buildMk rfl _ _ rfl 2 ids Kid.out rfl rfl ?_) | (refine wpList_sliceM rfl _ rfl (LkC.l ⟨2, ids⟩) KeL.out rfl ?_; rw [KXa.out]) | (at_builtin; refine wpList_append_M _ rfl _ _ rfl w4.heap.size _ ((R.take k).map lkOf) rfl KOy.out ⟨2, ids⟩ KeO.out x2.heap.size 1 rfl KXr.out (by have := Ktl.out; omega) KBy.out.size ?_; intro v5 x5 ho5 hg5; have KO5 : Kept (OwnM x5 w4.heap.size v5 ((R.take (k + 1)).map lkOf)) := ⟨by rw [Ktk.out, KeE.out]; exact ho5⟩; have KB5 : Kept (Below w4.heap.size w4 x5) := ⟨KBy.out.trans ((Below.refl _ _).grown hg5 KBy.out.size (fun q hq => (KOy.out.lt q hq).1))⟩; clear ho5 hg5))
            go_roundw
            case rel => exact ⟨k + 1, by omega, by go_num, KO5.out, KB5.out⟩
            case measure => simp [intOf]; omega
          · have hmb : (m == 16384) = false := by simpa using hm
            obtain ⟨KeE, KeO, KeL⟩ := Kend.out 3 (by rw [if_neg hm])
            have KeE := Kept.mk KeE
            have KeO := Kept.mk KeO
            have KeL := Kept.mk KeL
            obtain ⟨KXa, KXb, KXr⟩ := KX.out 3
            have KXa := Kept.mk KXa
            have KOy := Kept.mk (KOx.out.later KXb (Nat.le_refl _))
            have KBy := Kept.mk (KBx.out.trans (KXb.mono KBx.out.size))
            have KXr := Kept.mk KXr
            clear KXb Kend KX hm
            generalize x3 3 = x4 at *
            go_wp2_with (first | (refine wpList_load_mid rfl 39 _ rfl wr.heap.size 2 rfl (cellsK .u8 ids) _ KR2.out Tryz.underlying39 rfl KIi.out ?_) | (refine wpList_buildMk rfl _ _ rfl 3 ids Kid.out rfl rfl ?_) | (refine wpList_sliceM rfl _ rfl (LkC.l ⟨3, ids⟩) KeL.out rfl ?_; rw [KXa.out]) | (at_builtin; refine wpList_append_M _ rfl _ _ rfl w4.heap.size _ ((R.take k).map lkOf) rfl KOy.out ⟨3, ids⟩ KeO.out x2.heap.size 1 rfl KXr.out (by have := Ktl.out; omega) KBy.out.size ?_; intro v5 x5 ho5 hg5; have KO5 : Kept (OwnM x5 w4.heap.size v5 ((R.take (k + 1)).map lkOf)) := ⟨by rw [Ktk.out, KeE.out]; exact ho5⟩; have KB5 : Kept (Below w4.heap.size w4 x5) := ⟨KBy.out.trans ((Below.refl _ _).grown hg5 KBy.out.size (fun q hq => (KOy.out.lt q hq).1))⟩; clear ho5 hg5))
            go_roundw
            case rel => exact ⟨k + 1, by omega, by go_num, KO5.out, KB5.out⟩
            case measure => simp [intOf]; omega
        · have hki : ¬ (k : Int) < (R.length : Int) := by omega
          obtain rfl : k = R.length := by omega
          have KOf := Kept.mk KOl.out
          rw [List.take_length, ← KL1'.out] at KOf
          have KBf := Kept.mk (KB4.out.trans (hbr.mono KB4.out.size))
          clear hbr KOl
          go_wp2
          go_ret2
          exact ⟨_, _, 0, rfl, KOf.out.mono KB4.out.size, Kend.out, KBf.out⟩
    · clear hB2 KC KG KT Kd0
      go_wp2
      go_ret2
      exact ⟨_, [], 0, rfl, OwnM.nil _ _, Kend.out, KB2.out⟩
    · have K2 := Kept.mk (KG.out w2 hB2)
      obtain ⟨R1, hR1, hL1⟩ := hk
      rw [if_pos rfl] at hL1
      clear hB2 KT KG KC
      go_upto_region 26 with (fail)
      refine Calls.mono K2.out (fun e w3 hp => ?_)
      obtain ⟨R, E, rfl, hd, hb⟩ := hp
      obtain ⟨rfl, rfl⟩ := dg_one hR1 hd
      have hok := dg_ok hd
      clear hR1 K2 d0 d1
      obtain ⟨wa, w4, hS⟩ := lb_store w3 hok
      have KB4 := Kept.mk (KB2.out.trans ((hb.trans (hS.be.mono hb.size)).mono KB2.out.size))
      have KI2 := Kept.mk (lb_info2 hok)
      have KOl := Kept.mk R1.all
      have Ka := Kept.mk hS.al
      have Kt := Kept.mk hS.st
      have Kh := Kept.mk hS.th
      have KTg := Kept.mk hS.bl.rangeTg
      have KIi := Kept.mk (id_info (LbC.idok hok))
      have Kid := Kept.mk (LbC.idok hok)
      have hk := hS.bl.cell hok 0 _ rfl
      have hL1 : L1 = [⟨R1.k, R1.tg⟩] := hL1
      have KL1' := Kept.mk hL1
      have Kll : Kept ((LkC.l ⟨R1.k, R1.tg⟩).length = 33) := ⟨LkC.len (LbC.idok hok)⟩
      obtain ⟨x4, hx4, hBx4, hr4⟩ : ∃ x4, w4.alloc (.cells (LkC.l ⟨R1.k, R1.tg⟩).toArray 57) = x4 ∧ Below w4.heap.size w4 x4 ∧ x4.rangeAt w4.heap.size 0 (LkC.l ⟨R1.k, R1.tg⟩) := by
        refine ⟨_, rfl, (Below.refl _ _).alloc (Nat.le_refl _) _, fun j u hu => ?_⟩
        rw [Nat.zero_add, cell_of_row _ _ j _ 57 (0, 0) (heap_alloc_new w4 _)]
        simpa using hu
      have KX4 := Kept.mk hx4
      have KR4 := Kept.mk hr4
      have KB4x := Kept.mk hBx4
      have KN4 : Kept (OwnM x4 w4.heap.size (.slice none 0 0) []) := ⟨OwnM.nil _ _⟩
      clear hb hd hok hS hL1 hx4 hBx4 hr4
      obtain ⟨RL, hRL⟩ : ∃ RL, R1.l = RL := ⟨_, rfl⟩
      rw [hRL] at KI2 KOl Kt Kh
      rw [hRL]
      clear hRL
      generalize R1.k = rk at *
      generalize R1.tg = rt at *
      go_upto_region 27 with (first | (generalize hOb : Obj.cells (_ : Array Value) 61 = Ob; obtain rfl : Ob = Obj.cells lb0.l.toArray 61 := (by subst hOb; rfl); clear hOb; rw [Ka.out]; refine wpList_store_mid rfl 61 _ _ rfl w3.heap.size 0 RL.toArray rfl rfl Kh.out KI2.out KOl.out ?_; rw [Kt.out]) | (refine wpList_load_mid rfl 39 _ rfl w3.heap.size 0 rfl (cellsK .u8 rt) _ KTg.out Tryz.underlying39 rfl KIi.out ?_) | (refine wpList_buildMk rfl _ _ rfl rk rt Kid.out rfl rfl ?_) | (refine wpList_sliceM rfl _ rfl (LkC.l ⟨rk, rt⟩) Kll.out rfl ?_; rw [KX4.out]) | (at_builtin; refine wpList_append_M _ rfl _ _ rfl w4.heap.size (.slice none 0 0) [] rfl KN4.out ⟨rk, rt⟩ Kid.out w4.heap.size 1 rfl KR4.out (by decide) KB4x.out.size ?_; intro v5 x5 ho5 hg5; have KOf : Kept (OwnM x5 w4.heap.size v5 [⟨rk, rt⟩]) := ⟨ho5⟩; have KBf : Kept (Below w.heap.size w x5) := ⟨KB4.out.trans ((KB4x.out.trans ((Below.refl _ _).grown hg5 KB4x.out.size (fun q hq => by simp [Value.ownBlock] at hq))).mono KB4.out.size)⟩; clear ho5 hg5))
      rw [← KL1'.out] at KOf
      go_wp2
      go_ret2
      exact ⟨_, _, 0, rfl, KOf.out.mono KB4.out.size, Kend.out, KBf.out⟩
  · have hEb : (E1 != 0) = true := by simpa using hE0
    have hn := lk_err hE1 hE0
    subst hn
    have KE := Kept.mk hE1
    clear hE1 hE0 hB2 KC KG KT Kd0
    go_wp2
    go_ret2
    exact ⟨_, [], E1, rfl, OwnM.nil _ _, KE.out, KB2.out⟩


set_option maxHeartbeats 2000000 in
set_option maxRecDepth 100000 in
theorem lawLinks_any (v : Value) (L : List LkC) (w : World) (hr : RdL w v L) (hl : L.length ≤ 4096) :
    Calls Tryz.prog 10 #[v] w fun e w' => ∃ v', e = .returned v' ∧ OwnM w' w.heap.size v' L ∧ Below w.heap.size w w' := by
  have KRd : Kept (∀ W, Below w.heap.size w W → RdL W v L) := ⟨fun W hW => hr.later hW (Nat.le_refl _)⟩
  obtain ⟨pa, pc, rfl, -⟩ := hr
  have KO0 : Kept (OwnM w w.heap.size (.slice none 0 0) (L.take 0)) := ⟨OwnM.nil _ _⟩
  go_enter Tryz.func10, Tryz.ntmps10
  go_upto_region 3 with fail
  go_loopw [3, 8] (fun lv iv wr => ∃ k : Nat, k ≤ L.length ∧ iv = .int .i64 k ∧ OwnM wr w.heap.size lv (L.take k) ∧ Below w.heap.size w wr) (fun _ iv _ => L.length - (intOf iv).toNat)
  case atStart => exact ⟨0, Nat.zero_le _, rfl, KO0.out, Below.refl _ _⟩
  case round =>
    obtain ⟨k, hk, rfl, hol, hbr⟩ := hrel
    have KBr := Kept.mk hbr
    have KOl := Kept.mk hol
    clear KO0 hol
    by_cases hlt : k < L.length
    · have hki : (k : Int) < (L.length : Int) := by omega
      have e1 : IntKind.i64.wrap ((k : Int) + 1) = (k : Int) + 1 := by rw [IntKind.wrap_i64]; omega
      obtain ⟨pa', pc', hpe, -, hpo, hpr⟩ := KRd.out wr hbr
      obtain ⟨b, off, hpb, hblt, hrg⟩ := hpr (by omega)
      have hpae : pa = some ⟨b, off, none⟩ := by injection hpe with h1 h2 h3; rw [h1, hpb]
      subst hpae
      have hrow := hrg k hlt
      have hok := hpo _ (List.getElem_mem hlt)
      have Ktk : Kept (L.take (k + 1) = L.take k ++ [L[k]'hlt]) := ⟨by rw [List.take_add_one, List.getElem?_eq_getElem hlt]; rfl⟩
      have Ktl : Kept ((L.take k).length ≤ 4096) := ⟨by rw [List.length_take]; omega⟩
      clear hpr hrg hpo hpe
      obtain ⟨e, he⟩ : ∃ e, L[k]'hlt = e := ⟨_, rfl⟩
      rw [he] at hrow hok Ktk
      clear he
      have h33 := LkC.len hok
      obtain ⟨x2, hx2, hB2, hblk⟩ : ∃ x2, wr.alloc (.cells e.l.toArray 64) = x2 ∧ Below wr.heap.size wr x2 ∧ x2.heap[wr.heap.size]? = some (.cells e.l.toArray 64) := ⟨_, rfl, (Below.refl _ _).alloc (Nat.le_refl _) _, heap_alloc_new wr _⟩
      have c0 : x2.cell? ⟨wr.heap.size, 0, none⟩ = some (.int .i64 e.k) := by rw [cell_of_row x2 _ 0 _ _ (0, 0) hblk]; rfl
      have hr2 : x2.rangeAt wr.heap.size 1 (cellsK .u8 e.id) := fun j u hu => by
        rw [cell_of_row x2 _ (1 + j) _ _ (0, 0) hblk]
        unfold LkC.l
        rw [List.getElem?_toArray, Nat.add_comm 1 j]
        exact hu
      obtain ⟨x3, hx3, hB3, hr3⟩ : ∃ x3, x2.alloc (.cells e.l.toArray 57) = x3 ∧ Below x2.heap.size x2 x3 ∧ x3.rangeAt x2.heap.size 0 e.l := by
        refine ⟨_, rfl, (Below.refl _ _).alloc (Nat.le_refl _) _, fun j u hu => ?_⟩
        rw [Nat.zero_add, cell_of_row _ _ j _ 57 (0, 0) (heap_alloc_new x2 _)]
        simpa using hu
      have hBx := hbr.trans (hB2.mono hbr.size)
      have KBy := Kept.mk (hBx.trans (hB3.mono hBx.size))
      have KOy := Kept.mk ((KOl.out.later hB2 (Nat.le_refl _)).later hB3 (Nat.le_refl _))
      have KR := Kept.mk hrow
      have KR2 := Kept.mk hr2
      have KR3 := Kept.mk hr3
      have KX3 := Kept.mk hx3
      have Kok : Kept (IdOk e.id) := ⟨hok⟩
      have Kll := Kept.mk h33
      have KIi := Kept.mk (id_info hok)
      have KI : Kept ((Tryz.prog.info? 64).map (·.size) = some e.l.length) := ⟨by rw [h33]; kernel_rfl⟩
      have KI2 : Kept ((Tryz.prog.info? 64).map (·.size) = some e.l.toArray.size) := ⟨by rw [List.size_toArray]; exact KI.out⟩
      have KS : Kept (e.l.toArray.size = 33) := ⟨by rw [List.size_toArray]; exact h33⟩
      have KO : Kept (e.l.toArray.all (·.oneCell') = true) := ⟨by rw [Array.all_eq_true_iff_forall_mem]; intro x hx; exact LkC.ones e x (by simpa using hx)⟩
      clear hrow h33 hr2 hr3 hx3 hB2 hB3 hBx hblk hbr hok
      obtain ⟨CL, hCL⟩ : ∃ CL, e.l = CL := ⟨_, rfl⟩
      have KCL : Kept (LkC.l ⟨e.k, e.id⟩ = CL) := ⟨hCL⟩
      rw [hCL] at KR KR3 KX3 Kll KI KI2 KS KO hx2
      have KXe : Kept (e = ⟨e.k, e.id⟩) := ⟨rfl⟩
      clear hCL
      generalize e.k = ek at *
      generalize e.id = ei at *
      go_upto_region 5 with (first | (refine wpList_load_mid rfl 64 _ rfl b (off + k * 33) rfl CL _ KR.out Tryz.underlying64 rfl KI.out ?_) | (refine BigFrame.wpList_want rfl (fun K hK => wp_store_row 64 _ _ rfl wr.heap.size CL.toArray rfl rfl 64 _ (heap_alloc_new wr _) KI2.out (by rw [KS.out]; rfl) KO.out (hK _ _ ?_)); rw [World.setRow_alloc_new]))
      try rw [hx2]
      clear hx2
      go_wp2_with (first | (refine wpList_load_mid rfl 39 _ rfl wr.heap.size 1 rfl (cellsK .u8 ei) _ KR2.out Tryz.underlying39 rfl KIi.out ?_) | (refine wpList_buildMk rfl _ _ rfl ek ei Kok.out rfl rfl ?_; rw [KCL.out]) | (refine wpList_sliceM rfl _ rfl CL Kll.out rfl ?_; rw [KX3.out]) | (at_builtin; refine wpList_append_M _ rfl _ _ rfl w.heap.size _ (L.take k) rfl KOy.out ⟨ek, ei⟩ Kok.out x2.heap.size 1 rfl (by rw [KCL.out]; exact KR3.out) (by have := Ktl.out; omega) KBy.out.size ?_; intro v5 x5 ho5 hg5; have KO5 : Kept (OwnM x5 w.heap.size v5 (L.take (k + 1))) := ⟨by rw [Ktk.out, KXe.out]; exact ho5⟩; have KB5 : Kept (Below w.heap.size w x5) := ⟨KBy.out.trans ((Below.refl _ _).grown hg5 KBy.out.size (fun q hq => (KOy.out.lt q hq).1))⟩; clear ho5 hg5))
      go_roundw
      case rel => exact ⟨k + 1, by omega, by go_num, KO5.out, KB5.out⟩
      case measure => simp [intOf]; omega
    · have hki : ¬ (k : Int) < (L.length : Int) := by omega
      obtain rfl : k = L.length := by omega
      have KOf := Kept.mk KOl.out
      rw [List.take_length] at KOf
      clear hbr KOl
      go_wp2
      go_ret
      exact ⟨_, rfl, KOf.out, KBr.out⟩
set_option maxRecDepth 100000 in
theorem fsLk : Tryz.prog.underlying 57 = some (.struct (Tryz.prog.fieldsOf 57)) ∧ Tryz.prog.stoodInHeld 57 = false ∧ (Tryz.prog.fieldsOf 57).toList.map (fun f => (f.name == "_", f.type, f.offset)) = [(false, 24, 0), (false, 39, 1)] := ⟨by kernel_rfl, by kernel_rfl, by kernel_rfl⟩
theorem part_idLk (w : World) {c : LkC} (hc : c.ok) : (part 39 c.l.toArray 1).run Tryz.prog w = .ok (.agg (cellsK .u8 c.id).toArray) w := by
  unfold part
  simp only [Sem.run_bind, agg_idE, Result.andThen_ok, if_true, size_idE, Sem.run_pure]
  congr 2
  rw [List.extract_toArray, List.extract_eq_take_drop]
  unfold LkC.l
  rw [show List.drop 1 (Value.int .i64 c.k :: cellsK .u8 c.id) = cellsK .u8 c.id from rfl, List.take_of_length_le (by rw [cellsK_length, hc.1]; omega)]
theorem eq_lk (w : World) (d : Nat) {c : LkC} (hc : c.ok) : (Op.equalIn (d + 3) 57 (.agg c.l.toArray) (.agg c.l.toArray)).run Tryz.prog w = .ok true w := by
  obtain ⟨h1, h2, h3⟩ := fsLk
  have h := run_equalIn_struct (P := Tryz.prog) w (d + 2) 57 c.l.toArray c.l.toArray h1 h2
  rw [h]
  refine oeqF_same _ _ h3 fun q hq => ?_
  simp only [List.mem_cons, List.not_mem_nil, or_false] at hq
  rcases hq with rfl | rfl
  · exact ⟨rfl, _, run_part_plain (P := Tryz.prog) (w := w) pk_kind (by rw [List.getElem?_toArray]; rfl), same_kind w (d + 1) c.k⟩
  · exact ⟨rfl, _, part_idLk w hc, eq_idE w d hc.1⟩
set_option maxHeartbeats 2000000 in
set_option maxRecDepth 100000 in
theorem sameL_any (v u : Value) (es : List LkC) (w : World) (hr : RdL w v es) (hs : RdL w u es) (hl : es.length ≤ 1048576) :
    Calls Tryz.prog 9 #[v, u] w fun e w' => e = .returned (.bool true) ∧ Below w.heap.size w w' := by
  obtain ⟨a, c, rfl, hlc, hok, hrd⟩ := hr
  obtain ⟨a2, c2, rfl, hlc2, hok2, hrd2⟩ := hs
  have KR := Kept.mk hrd
  have KK := Kept.mk hok
  have KR2 := Kept.mk hrd2
  clear hrd hok hrd2 hok2
  go_enter Tryz.func9, Tryz.ntmps9
  go_wp2
  go_loopw [13] (fun iv wr => ∃ k : Nat, k ≤ es.length ∧ iv = .int .i64 k ∧ Below w.heap.size w wr) (fun iv _ => es.length - (intOf iv).toNat)
  case atStart => exact ⟨0, Nat.zero_le _, rfl, Below.refl _ _⟩
  case round =>
    obtain ⟨k, hk, rfl, hbel⟩ := hrel
    have KBr := Kept.mk hbel
    by_cases hlt : k < es.length
    · have hki : (k : Int) < (es.length : Int) := by omega
      obtain ⟨b, off, rfl, hbl, hrg⟩ := KR.out (by omega)
      obtain ⟨b2, off2, rfl, hbl2, hrg2⟩ := KR2.out (by omega)
      have hbr : b < wr.heap.size := Nat.lt_of_lt_of_le hbl hbel.size
      have hbr2 : b2 < wr.heap.size := Nat.lt_of_lt_of_le hbl2 hbel.size
      have hR1 : Kept (∀ W, CC wr W → W.rangeAt b (off + k * 33) (es[k]'hlt).l) := ⟨fun W hW j u hu => by
        rw [hW.cell (p := ⟨b, off + k * 33 + j, none⟩) hbr, hbel.cell (p := ⟨b, off + k * 33 + j, none⟩) hbl]
        exact hrg k hlt j u hu⟩
      have hR2 : Kept (∀ W, CC wr W → W.rangeAt b2 (off2 + k * 33) (es[k]'hlt).l) := ⟨fun W hW j u hu => by
        rw [hW.cell (p := ⟨b2, off2 + k * 33 + j, none⟩) hbr2, hbel.cell (p := ⟨b2, off2 + k * 33 + j, none⟩) hbl2]
        exact hrg2 k hlt j u hu⟩
      have hoA := KK.out _ (List.getElem_mem hlt)
      have KEq : Kept (∀ W, (Op.equalIn 10000 57 (.agg (es[k]'hlt).l.toArray) (.agg (es[k]'hlt).l.toArray)).run Tryz.prog W = .ok true W) := ⟨fun W => eq_lk W 9997 hoA⟩
      have KI1 : Kept ((Tryz.prog.info? 57).map (·.size) = some (es[k]'hlt).l.length) := ⟨by rw [LkC.len hoA]; kernel_rfl⟩
      clear hbel hrg hrg2 hoA
      have e3 : IntKind.i64.wrap ((k : Int) + 1) = (k : Int) + 1 := wr64 (by omega) (by omega)
      generalize (es[k]'hlt).l = LA at *
      clear hbr hbl hbr2 hbl2
      go_upto_region 6 with fail
      refine wp_region_quietC (C := CC wr) (by kernel_rfl) (by kernel_rfl) (Below.refl _ _).drew ?_
      go_big_quiet_step ((intro _; rfl))
      go_big_quiet_step ((intro _; rfl))
      refine BigFrame.wpQuiet_want rfl (fun K hK => quiet_run (v := .pointer (some ⟨b, off + k * 33, none⟩)) (fun W hW => by go_simp; all_goals first | rfl | (intro hneg; exfalso; omega)) (hK _ ?_))
      clear hK K
      simp only [Act.put, List.setIfInBounds_toArray, List.set_cons_zero, List.set_cons_succ]
      refine BigFrame.wpQuiet_want rfl (fun K hK => quiet_load_mid 57 _ rfl b (off + k * 33) rfl LA _ hR1.out Tryz.underlying57 rfl KI1.out (hK _ ?_))
      clear hK K
      simp only [Act.put, List.setIfInBounds_toArray, List.set_cons_zero, List.set_cons_succ]
      go_big_quiet_step ((intro _; rfl))
      go_big_quiet_step ((intro _; rfl))
      refine BigFrame.wpQuiet_want rfl (fun K hK => quiet_run (v := .pointer (some ⟨b2, off2 + k * 33, none⟩)) (fun W hW => by go_simp; all_goals first | rfl | (intro hneg; exfalso; omega)) (hK _ ?_))
      clear hK K
      simp only [Act.put, List.setIfInBounds_toArray, List.set_cons_zero, List.set_cons_succ]
      refine BigFrame.wpQuiet_want rfl (fun K hK => quiet_load_mid 57 _ rfl b2 (off2 + k * 33) rfl LA _ hR2.out Tryz.underlying57 rfl KI1.out (hK _ ?_))
      clear hK K
      simp only [Act.put, List.setIfInBounds_toArray, List.set_cons_zero, List.set_cons_succ]
      refine BigFrame.wpQuiet_want rfl (fun K hK => quiet_run (v := .bool false) (fun W hW => exec_neqE 57 Tryz.eqGuardType57 rfl rfl rfl (KEq.out W)) (hK _ ?_))
      clear hK K
      simp only [Act.put, List.setIfInBounds_toArray, List.set_cons_zero, List.set_cons_succ]
      refine wpQuiet_nil ?_
      intro w3 hw3
      have KB3 := Kept.mk (KBr.out.trans (Below.mono hw3 KBr.out.size))
      clear hw3
      go_wp2
      go_roundw
      case rel => exact ⟨k + 1, by omega, by go_num, KB3.out⟩
      case measure => simp [intOf]; omega
    · have hki : ¬ (k : Int) < (es.length : Int) := by omega
      clear hbel
      go_wp2
      go_ret
      exact ⟨rfl, KBr.out⟩
end Go.Proofs.YtkdlhcegimnocaaGreatDoor
