/-
  Put.
-/
import Derived.Test.YthkaohkondkhgaaDoorI7
namespace Go.Proofs.YthkaohkondkhgaaDoor
open Go.RowKit

def headB : List Int := [68, 73, 82, 67, 0, 0, 0, 2]
/-- The bytes of slots, without the sum. -/
def bodL (es : List SlC) : List Int := headB ++ Nu.bigF 4 es.length ++ es.flatMap sbL
def sumB (xs : List Int) : List Int := Sh.digF (Sh.sumS Sh.ksK xs).list
theorem sumB_len (xs : List Int) : (sumB xs).length = 32 := Sh.digF_length _
def putF (es : List SlC) : List Int := if chkE es = 0 then bodL es ++ sumB (bodL es) else []
theorem mod_range {m : Int} (h : modF m = true) : 0 ≤ m ∧ m ≤ 4294967295 := by
  unfold modF at h
  simp at h
  omega
theorem fit_of {es : List SlC} (hok : ∀ e ∈ es, e.ok) (h : chkE es = 0) : ∀ e ∈ es, FitZ e := by
  obtain ⟨h1, h2, h3, h4, -⟩ := chk_ok.1 h
  intro e he
  have q1 := List.any_eq_false.1 h1 e he
  have q3 := List.any_eq_false.1 h3 e he
  have q4 := List.any_eq_false.1 h4 e he
  unfold outF at q1
  unfold unnF pathF at q3
  unfold noFl at q4
  simp at q1 q3 q4
  have := mod_range q4.2
  exact ⟨hok e he, by omega, by omega, by omega, by omega, by omega, by omega, by omega, by omega, by omega⟩
theorem sb_len (e : SlC) (h : e.ids.length = 32) : (sbL e).length = slz e.pt.size := by
  have := slz_ge e.pt.size
  unfold sbL rz
  simp only [List.length_append, List.length_replicate, Nu.bigF_length, ptB_length, h]
  omega
theorem all_app {xs ys : List Int} (h1 : AllIn 0 256 xs) (h2 : AllIn 0 256 ys) : AllIn 0 256 (xs ++ ys) := h1.append h2
theorem all_rz (n : Nat) : AllIn 0 256 (rz n) := fun x hx => by
  unfold rz at hx
  rw [List.mem_replicate] at hx
  omega
theorem all_pt (s : ByteArray) : AllIn 0 256 (ptB s) := fun x hx => by
  unfold ptB at hx
  obtain ⟨b, _, rfl⟩ := List.mem_map.1 hx
  have := b.toNat_lt
  omega
theorem all_big (n : Nat) (x : Int) : AllIn 0 256 (Nu.bigF n x) := Nu.bigF_bytes n x
theorem all_sb {e : SlC} (h : e.ok) : AllIn 0 256 (sbL e) := by
  unfold sbL
  exact all_app (all_rz _) (all_app (all_big _ _) (all_app (all_rz _) (all_app (all_big _ _) (all_app (all_rz _) (all_app (all_big _ _) (all_app h.2.1 (all_app (all_big _ _) (all_app (all_pt _) (all_rz _)))))))))
theorem all_flat : ∀ {es : List SlC}, (∀ e ∈ es, e.ok) → AllIn 0 256 (es.flatMap sbL)
  | [], _ => AllIn.nil
  | e :: es, h => by
    rw [List.flatMap_cons]
    exact all_app (all_sb (h e List.mem_cons_self)) (all_flat fun x hx => h x (List.mem_cons_of_mem _ hx))
theorem all_bod {es : List SlC} (h : ∀ e ∈ es, e.ok) : AllIn 0 256 (bodL es) := by
  unfold bodL
  refine all_app (all_app ?_ (all_big _ _)) (all_flat h)
  intro x hx
  unfold headB at hx
  simp at hx
  omega
theorem flat_len : ∀ {es : List SlC}, (∀ e ∈ es, FitZ e) → (es.flatMap sbL).length ≤ es.length * 282
  | [], _ => by simp
  | e :: es, h => by
    rw [List.flatMap_cons, List.length_append, List.length_cons]
    have h1 := h e List.mem_cons_self
    have h2 := sb_len e h1.1.1
    have h3 := slz_ge e.pt.size
    have h4 : e.pt.size ≤ 200 := h1.2.2.2.2.2.2.2.2.2
    have h5 := flat_len (es := es) fun x hx => h x (List.mem_cons_of_mem _ hx)
    omega
theorem box_id (w : World) (xs : List Int) : ∃ w1, w.alloc (.cells (cellsK .u8 xs).toArray 39) = w1 ∧ Below w.heap.size w w1 ∧ w1.heap.size = w.heap.size + 1 ∧ BlkK .u8 w1 w.heap.size 39 xs :=
  ⟨_, rfl, (Below.refl _ _).alloc (Nat.le_refl _) _, by simp, alloc_blkK .u8 w xs _⟩
theorem BlkK.rd {k : IntKind} {w : World} {b : Nat} {t : TypeId} {xs : List Int} (h : BlkK k w b t xs) (hl : xs.length ≤ 1000000) : Rd k anyB w (.slice (some ⟨b, 0, none⟩) xs.length xs.length) xs :=
  ⟨some ⟨b, 0, none⟩, xs.length, rfl, Nat.le_refl _, by unfold maxLen; omega, (fun h => by cases h), fun _ => ⟨b, 0, rfl, h.lt, trivial, fun i hi => by rw [Nat.zero_add]; exact h.cell i hi⟩⟩
set_option maxRecDepth 100000 in
theorem info_id : (Tryd.prog.info? 39).map (·.size) = some 32 := by kernel_rfl
theorem Own.eq {k : IntKind} {e : TypeId} {w : World} {base : Nat} {v : Value} {xs ys : List Int} (h : Own k e w base v xs) (he : xs = ys) : Own k e w base v ys := by rw [← he]; exact h
set_option maxHeartbeats 2000000 in
set_option maxRecDepth 100000 in
theorem put_any (v : Value) (es : List SlC) (w : World) (hg : Gl w) (hr : RdZ w v es) (hl : es.length ≤ 4398046511104) :
    Calls Tryd.prog 10 #[v] w fun e w' => ∃ v', e = .returned (.tuple #[v', .int .i64 (chkE es)]) ∧ Own .u8 5 w' w.heap.size v' (putF es) ∧ Below w.heap.size w w' := by
  obtain ⟨i0, z0, hi, hz, hs, hb0, hc⟩ := info8
  have KCk := Kept.mk (check_any v es w hg hr hl)
  have KG := Kept.mk hg
  have KR := Kept.mk hr
  have KFit : Kept (chkE es = 0 → (∀ e ∈ es, FitZ e) ∧ es.length ≤ 4096) := ⟨fun h => ⟨fit_of hr.ok h, (chk_ok.1 h).2.1⟩⟩
  have KPf : Kept (putF es = if chkE es = 0 then bodL es ++ sumB (bodL es) else []) := ⟨rfl⟩
  have KAl := Kept.mk (all_bod hr.ok)
  obtain ⟨a, c, hv, hlc, -⟩ := hr
  subst hv
  clear hg
  generalize putF es = PF at *
  generalize chkE es = E at *
  go_enter Tryd.func10, Tryd.ntmps10
  go_wp2_with fail
  refine Calls.mono KCk.out (fun x w1 hp => ?_)
  obtain ⟨rfl, hb1⟩ := hp
  have KB1 := Kept.mk hb1
  clear hb1 KCk
  by_cases hE : E = 0
  · subst hE
    obtain ⟨hfit, hl4⟩ := KFit.out rfl
    have KF := Kept.mk hfit
    have hli : (es.length : Int) ≤ 4096 := by omega
    obtain ⟨w2, cv2, rd2, hB2, hs2⟩ := lit_step w1 headB (by decide)
    have hO2 : Apd w2 w1.heap.size (.slice (some ⟨w1.heap.size, 0, none⟩) 8 8) headB := .inr ⟨rd2, by decide, w1.heap.size, rfl, Nat.le_refl _, by omega⟩
    have KN := Kept.mk (appendNumber_apd _ headB es.length 4 w2 w1.heap.size hO2 (by omega) (by omega) (by omega) (by omega) (by omega) (by omega) (by decide))
    have cv2' : (convert 25 25 (.slice (some ⟨w1.heap.size, 0, none⟩) 8 8)).run Tryd.prog (w1.alloc (.cells #[.int .u8 68, .int .u8 73, .int .u8 82, .int .u8 67, .int .u8 0, .int .u8 0, .int .u8 0, .int .u8 2] 5)) = .ok (.slice (some ⟨w1.heap.size, 0, none⟩) 8 8) w2 := cv2
    have KB2 := Kept.mk hB2
    clear cv2 rd2 hO2 hB2 hfit
    go_wp2_with (rw [cv2'])
    refine Calls.mono KN.out (fun x w3 hp => ?_)
    obtain ⟨v3, rfl, hO3, hG3⟩ := hp
    have hb23 := hG3.below (B := w1.heap.size) (by omega) (fun k hk => by simp only [Value.ownBlock] at hk; injection hk with hk; omega)
    have KB3 := Kept.mk (KB1.out.trans ((KB2.out.trans hb23).mono KB1.out.size))
    have KO3 := Kept.mk (hO3.mono KB1.out.size)
    obtain ⟨a3, c3, rfl, -⟩ := hO3.rd.form
    clear hb23 hG3 hO3 KN KB2 cv2'
    have hPl : (headB ++ Nu.bigF 4 (es.length : Int)).length = 12 := by rw [List.length_append, Nu.bigF_length]; rfl
    obtain ⟨PRE, hPRE⟩ : ∃ PRE, headB ++ Nu.bigF 4 (es.length : Int) = PRE := ⟨_, rfl⟩
    have KBod : Kept (bodL es = PRE ++ es.flatMap sbL) := ⟨by unfold bodL; rw [hPRE]⟩
    rw [hPRE] at hPl KO3 ⊢
    have KlP := Kept.mk hPl
    clear hPRE hPl
    go_wp2
    go_loopw [5, 21] (fun ov kv wr => ∃ k : Nat, k ≤ es.length ∧ kv = .int .i64 k ∧ (∃ a5 c5, ov = .slice a5 (PRE ++ (es.take k).flatMap sbL).length c5) ∧ Own .u8 5 wr w.heap.size ov (PRE ++ (es.take k).flatMap sbL) ∧ Below w.heap.size w wr) (fun _ kv _ => es.length - (intOf kv).toNat)
    case atStart => exact ⟨0, Nat.zero_le _, rfl, ⟨a3, c3, by simp⟩, by simpa using KO3.out, KB3.out⟩
    case round =>
      obtain ⟨k, hk, rfl, ⟨a5, c5, rfl⟩, hO, hbel⟩ := hrel
      have KBr := Kept.mk hbel
      have KO := Kept.mk hO
      by_cases hlt : k < es.length
      · have hki : (k : Int) < (es.length : Int) := by omega
        obtain ⟨a', c', hv', -, hok, hrd⟩ := KR.out
        injection hv' with ha' hl' hc'
        subst ha' hc'
        clear hl'
        obtain ⟨b, off, rfl, hbl, hrg⟩ := hrd (by omega)
        have hR : Kept (wr.rangeAt b (off + k * 37) (es[k]'hlt).l) := ⟨fun j u hu => by
          rw [hbel.cell (p := ⟨b, off + k * 37 + j, none⟩) hbl]
          exact hrg k hlt j u hu⟩
        have hko := hok _ (List.getElem_mem hlt)
        have hkf := KF.out _ (List.getElem_mem hlt)
        have KI := Kept.mk (SlC.info hko)
        obtain ⟨x2, hx2, hBx, hzx, hbx, -⟩ := SlC.box wr hko
        have KRx : Kept (x2.rangeAt wr.heap.size 0 (es[k]'hlt).l) := ⟨fun j u hu => by
          unfold World.cell?
          simp only [hbx]
          rw [Nat.zero_add, List.getElem?_toArray]
          exact hu⟩
        have KSb := Kept.mk (slotBytes_any hkf x2)
        have KBx := Kept.mk (KBr.out.trans (hBx.mono KBr.out.size))
        have KOx := Kept.mk (KO.out.later hBx (Nat.le_refl _))
        have hlb : (PRE ++ (es.take k).flatMap sbL).length + (sbL (es[k]'hlt)).length ≤ 140737488355328 := by
          have h1 := flat_len (es := es.take k) (fun x hx => KF.out x (List.mem_of_mem_take hx))
          have h2 := sb_len (es[k]'hlt) hko.1
          have h3 := slz_ge (es[k]'hlt).pt.size
          have h4 : (es[k]'hlt).pt.size ≤ 200 := hkf.2.2.2.2.2.2.2.2.2
          rw [List.length_append, KlP.out, h2]
          rw [List.length_take] at h1
          omega
        have KSt : Kept ((es.take (k + 1)).flatMap sbL = (es.take k).flatMap sbL ++ sbL (es[k]'hlt)) := ⟨by
          rw [List.take_add_one, List.getElem?_eq_getElem hlt, List.flatMap_append]
          simp⟩
        have KAs : Kept (0 < (sbL (es[k]'hlt)).length) := ⟨by rw [sb_len _ hko.1]; have := slz_ge (es[k]'hlt).pt.size; omega⟩
        have KLb := Kept.mk hlb
        have h37 := SlC.len hko
        have hones := SlC.ones (es[k]'hlt)
        clear hbel hO hrg hko hkf hbx hrd hok hlb hBx hzx
        generalize sbL (es[k]'hlt) = SB at *
        generalize (es[k]'hlt).l = CL at *
        generalize (es.take k).flatMap sbL = TL at *
        obtain ⟨CUR, hCUR⟩ : ∃ CUR, PRE ++ TL = CUR := ⟨_, rfl⟩
        have KCu := Kept.mk hCUR
        rw [hCUR] at KOx KLb KO ⊢
        clear hCUR KO
        have KI2 : Kept ((Tryd.prog.info? 41).map (·.size) = some CL.toArray.size) := ⟨by rw [List.size_toArray]; exact KI.out⟩
        have KS : Kept (CL.toArray.size = 37) := ⟨by rw [List.size_toArray]; exact h37⟩
        have KOn : Kept (CL.toArray.all (·.oneCell') = true) := ⟨by rw [Array.all_eq_true_iff_forall_mem]; intro x hx; exact hones x (by simpa using hx)⟩
        clear h37 hones
        go_upto_region 8 with (first | (refine wpList_load_mid rfl 41 _ rfl b (off + k * 37) rfl CL _ hR.out Tryd.underlying41 rfl KI.out ?_) | (refine BigFrame.wpList_want rfl (fun K hK => wp_store_row 41 _ _ rfl wr.heap.size CL.toArray rfl rfl 41 _ (heap_alloc_new wr _) KI2.out (by rw [KS.out]; rfl) KOn.out (hK _ _ ?_)); rw [World.setRow_alloc_new]))
        try rw [hx2]
        clear hx2
        go_wp2_with (refine wpList_load_mid rfl 41 _ rfl wr.heap.size 0 rfl CL _ KRx.out Tryd.underlying41 rfl KI.out ?_)
        refine Calls.mono KSb.out (fun x x3 hp => ?_)
        obtain ⟨g3, rfl, hbk3, hb3, hg3⟩ := hp
        have KRd3 : Kept (Rd .u8 anyB x3 (.slice (some ⟨g3, 0, none⟩) SB.length SB.length) SB) := ⟨⟨some ⟨g3, 0, none⟩, SB.length, rfl, Nat.le_refl _, by unfold maxLen; have := KLb.out; omega, (fun h => by cases h), fun _ => ⟨g3, 0, rfl, hbk3.lt, trivial, fun i hi => by rw [Nat.zero_add]; exact hbk3.cell i hi⟩⟩⟩
        have KO4 := Kept.mk (KOx.out.later hb3 (Nat.le_refl _))
        have KB4 := Kept.mk (KBx.out.trans (hb3.mono KBx.out.size))
        have hw4 : w.heap.size ≤ x3.heap.size := KB4.out.size
        clear hbk3 hb3 hg3 KSb KRx KOx
        go_wp2_with (at_builtin; refine wpList_append_rd _ rfl _ _ 25 rfl .u8 _ 1 w.heap.size 5 i0 z0 Tryd.underlying25 hi hz hs hb0 hc (by omega) (.slice a5 CUR.length c5) CUR rfl KO4.out _ SB rfl KRd3.out (by have := KLb.out; omega) hw4 ?_; intro v6 w6 hown hgrow hat6; obtain ⟨a6, c6, rfl, -⟩ := hown.rd.form; have KO6 := Kept.mk hown; have KG6 := Kept.mk hgrow; clear hown hgrow hat6)
        go_roundw
        case rel =>
          refine ⟨k + 1, hlt, by go_num, ⟨a6, c6, ?_⟩, ?_, ?_⟩
          · rw [KSt.out, ← List.append_assoc, KCu.out, List.length_append]
          · rw [KSt.out, ← List.append_assoc, KCu.out, ← List.length_append]; exact KO6.out
          · exact KB4.out.grown KG6.out hw4 (own_ge KO4.out)
        case measure => simp [intOf]; omega
      · have hki : ¬ (k : Int) < (es.length : Int) := by omega
        have hkk : k = es.length := by omega
        subst hkk
        rw [List.take_length] at KO ⊢
        have KOb : Kept (Own .u8 5 wr w.heap.size (.slice a5 (bodL es).length c5) (bodL es)) := ⟨by rw [KBod.out]; exact KO.out⟩
        rw [← KBod.out]
        have KSu := Kept.mk (Sh.sum_any _ (bodL es) Sh.ksK wr (shRd KOb.out.rd KAl.out) Sh.ksK_length ((KG.out.later KBr.out).rnd))
        have KDl : Kept ((Sh.digF (Sh.sumS Sh.ksK (bodL es)).list).length = 32) := ⟨Sh.digF_length _⟩
        have KSL : Kept (sumB (bodL es) = Sh.digF (Sh.sumS Sh.ksK (bodL es)).list) := ⟨rfl⟩
        have hlb : (bodL es).length ≤ 2000000 := by
          have := flat_len KF.out
          rw [KBod.out, List.length_append, KlP.out]
          omega
        have KPf2 : Kept (PF = bodL es ++ sumB (bodL es)) := ⟨by have := KPf.out; simpa using this⟩
        have Klb := Kept.mk hlb
        clear hbel hO KO hlb
        generalize Sh.digF (Sh.sumS Sh.ksK (bodL es)).list = DG at *
        generalize bodL es = BD at *
        go_wp2_with fail
        refine Calls.mono KSu.out (fun x x3 hp => ?_)
        obtain ⟨rfl, hb3⟩ := hp
        obtain ⟨w4, hw4, hB4, hs4, hbk4⟩ := box_id x3 DG
        have hcc : Sh.cellsU8 DG = cellsK .u8 DG := rfl
        rw [hcc]
        have KDz : Kept ((cellsK .u8 DG).toArray.size = 32) := ⟨by rw [List.size_toArray, cellsK_length, KDl.out]⟩
        have KDi : Kept ((Tryd.prog.info? 39).map (·.size) = some (cellsK .u8 DG).toArray.size) := ⟨by rw [KDz.out]; exact info_id⟩
        have KDo := Kept.mk (cellsK_all .u8 DG)
        have KY := Kept.mk ((KOb.out.later hb3 (Nat.le_refl _)).later hB4 (Nat.le_refl _))
        have hD4 : Rd .u8 anyB w4 (.slice (some ⟨x3.heap.size, 0, none⟩) 32 32) DG := by
          have := hbk4.rd (by rw [KDl.out]; omega)
          rwa [KDl.out] at this
        have KD4 := Kept.mk hD4
        have KB4 := Kept.mk ((KBr.out.trans (hb3.mono KBr.out.size)).trans (hB4.mono (Nat.le_trans KBr.out.size hb3.size)))
        have hsz : w.heap.size ≤ w4.heap.size := KB4.out.size
        have KX2 : Kept ((BD.length + DG.length) * 1 ≤ 140737488355328) := ⟨by rw [KDl.out]; have := Klb.out; omega⟩
        clear hb3 hB4 hbk4 hD4 hcc KSu
        generalize hcd : (cellsK .u8 DG).toArray = CD at *
        clear hcd
        go_wp2_with (first | (refine BigFrame.wpList_want rfl (fun K hK => wp_store_row 39 _ _ rfl x3.heap.size CD rfl rfl 39 _ (heap_alloc_new x3 _) KDi.out (by rw [KDz.out]; rfl) KDo.out (hK _ _ ?_)); rw [World.setRow_alloc_new]) | (at_builtin; refine wpList_append_rd _ rfl _ _ 25 rfl .u8 anyB 1 w.heap.size 5 i0 z0 Tryd.underlying25 hi hz hs hb0 hc (by omega) (.slice a5 BD.length c5) BD rfl KY.out _ DG rfl KD4.out KX2.out hsz ?_; intro v11 w11 hown hgrow hat2; have KO11 := Kept.mk hown; have KG11 := Kept.mk hgrow; clear hown hgrow hat2))
        go_ret2
        refine ⟨v11, rfl, KO11.out.eq (by rw [KPf2.out, KSL.out]), KB4.out.grown KG11.out hsz (own_ge KY.out)⟩
  · have KPf2 : Kept (PF = []) := ⟨by rw [KPf.out, if_neg hE]⟩
    have hEb : (E != 0) = true := by simpa using hE
    go_wp2
    go_ret2
    exact ⟨_, rfl, by rw [KPf2.out]; exact Own.nil _ _ _ _, KB1.out⟩
end Go.Proofs.YthkaohkondkhgaaDoor
