/-
  The document's Put and DocPut.
-/
import Derived.Test.YthkaohkondkhgaaDoorID2
namespace Go.Proofs.YthkaohkondkhgaaDoor
open Go.RowKit

set_option maxHeartbeats 2000000 in
set_option maxRecDepth 100000 in
theorem rput_any (v : Value) (es : List SlC) (w : World) (hr : RdZ w v es) (hl : es.length ≤ 4096) (hf : ∀ e ∈ es, FitZ e) :
    Calls Tryd.prog 24 #[v] w fun e w' => ∃ v', e = .returned v' ∧ Own .u8 5 w' w.heap.size v' (bodL es ++ sumB (bodL es)) ∧ Below w.heap.size w w' := by
  obtain ⟨i0, z0, hi, hz, hs, hb0, hc⟩ := info8
  have KBo := Kept.mk (body_any v es w hr hl hf)
  have KAl := Kept.mk (all_bod hr.ok)
  have KDl : Kept ((sumB (bodL es)).length = 32) := ⟨Sh.digF_length _⟩
  have KSm : Kept (sumB (bodL es) = Sh.digF (Sh.sumS Sh.ksK (bodL es)).list) := ⟨rfl⟩
  have Klb : Kept ((bodL es).length ≤ 2000000) := ⟨by
    have := flat_len hf
    unfold bodL
    rw [List.length_append, List.length_append, Nu.bigF_length]
    show 8 + 4 + _ ≤ _
    omega⟩
  go_enter Tryd.func24, Tryd.ntmps24
  go_wp2_with fail
  refine Calls.mono KBo.out (fun x w1 hp => ?_)
  obtain ⟨v1, rfl, hO1, hb1⟩ := hp
  have KB1 := Kept.mk hb1
  have KO1 := Kept.mk hO1
  have KSu := Kept.mk (Sh.rsum_any v1 (bodL es) w1 (shRd hO1.rd KAl.out))
  obtain ⟨a1, c1, rfl, -⟩ := hO1.rd.form
  clear hb1 hO1 KBo
  generalize hDG : sumB (bodL es) = DG at *
  rw [← KSm.out] at KSu
  generalize hBD : bodL es = BD at *
  have KhD := Kept.mk hDG
  have KhB := Kept.mk hBD
  clear hDG hBD KSm
  go_wp2_with fail
  refine Calls.mono KSu.out (fun x w2 hp => ?_)
  obtain ⟨rfl, hb2⟩ := hp
  obtain ⟨w4, hw4, hB4, hs4, hbk4⟩ := box_id w2 DG
  have hcc : Sh.cellsU8 DG = cellsK .u8 DG := rfl
  rw [hcc]
  have KDz : Kept ((cellsK .u8 DG).toArray.size = 32) := ⟨by rw [List.size_toArray, cellsK_length, KDl.out]⟩
  have KDi : Kept ((Tryd.prog.info? 39).map (·.size) = some (cellsK .u8 DG).toArray.size) := ⟨by rw [KDz.out]; exact info_id⟩
  have KDo := Kept.mk (cellsK_all .u8 DG)
  have KY := Kept.mk ((KO1.out.later hb2 (Nat.le_refl _)).later hB4 (Nat.le_refl _))
  have hD4 : Rd .u8 anyB w4 (.slice (some ⟨w2.heap.size, 0, none⟩) 32 32) DG := by
    have := hbk4.rd (by rw [KDl.out]; omega)
    rwa [KDl.out] at this
  have KD4 := Kept.mk hD4
  have KB4 := Kept.mk ((KB1.out.trans (hb2.mono KB1.out.size)).trans (hB4.mono (Nat.le_trans KB1.out.size hb2.size)))
  have hsz : w.heap.size ≤ w4.heap.size := KB4.out.size
  have KX2 : Kept ((BD.length + DG.length) * 1 ≤ 140737488355328) := ⟨by rw [KDl.out]; have := Klb.out; omega⟩
  clear hb2 hB4 hbk4 hD4 hcc KSu hs4
  generalize hcd : (cellsK .u8 DG).toArray = CD at *
  clear hcd
  go_wp2_with (first | (refine BigFrame.wpList_want rfl (fun K hK => wp_store_row 39 _ _ rfl w2.heap.size CD rfl rfl 39 _ (heap_alloc_new w2 _) KDi.out (by rw [KDz.out]; rfl) KDo.out (hK _ _ ?_)); rw [World.setRow_alloc_new]) | (at_builtin; refine wpList_append_rd _ rfl _ _ 25 rfl .u8 anyB 1 w.heap.size 5 i0 z0 Tryd.underlying25 hi hz hs hb0 hc (by omega) (.slice a1 BD.length c1) BD rfl KY.out _ DG rfl KD4.out KX2.out hsz ?_; intro v11 w11 hown hgrow hat2; have KO11 := Kept.mk hown; have KG11 := Kept.mk hgrow; clear hown hgrow hat2))
  go_ret
  refine ⟨v11, rfl, ?_, KB4.out.grown KG11.out hsz (own_ge KY.out)⟩
  exact KO11.out.eq (by rw [KhB.out, KhD.out])
set_option maxHeartbeats 2000000 in
set_option maxRecDepth 100000 in
theorem docPut_any (v : Value) (es : List SlC) (w : World) (hr : RdZ w v es) (hl : es.length ≤ 4398046511104) (hn : ∀ e ∈ es, e.pt.size < 4294967281) :
    Calls Tryd.prog 11 #[v] w fun e w' => ∃ v', e = .returned (.tuple #[v', .int .i64 (chkE es)]) ∧ Own .u8 5 w' w.heap.size v' (putF es) ∧ Below w.heap.size w w' := by
  have KCk := Kept.mk (docCheck_any v es w hr hl hn)
  have KR := Kept.mk hr
  have KFit : Kept (chkE es = 0 → (∀ e ∈ es, FitZ e) ∧ es.length ≤ 4096) := ⟨fun h => ⟨fit_of hr.ok h, (chk_ok.1 h).2.1⟩⟩
  have KPf : Kept (putF es = if chkE es = 0 then bodL es ++ sumB (bodL es) else []) := ⟨rfl⟩
  obtain ⟨a, c, hv, hlc, -⟩ := hr
  subst hv
  clear hn
  obtain ⟨PF, hPF⟩ : ∃ PF, putF es = PF := ⟨_, rfl⟩
  obtain ⟨E, hE⟩ : ∃ E, chkE es = E := ⟨_, rfl⟩
  rw [hPF, hE] at KPf
  rw [hE] at KFit KCk
  rw [hPF, hE]
  clear hPF hE
  go_enter Tryd.func11, Tryd.ntmps11
  go_wp2_with fail
  refine Calls.mono KCk.out (fun x w1 hp => ?_)
  obtain ⟨rfl, hb1⟩ := hp
  have KB1 := Kept.mk hb1
  clear hb1 KCk
  by_cases hE : E = 0
  · subst hE
    obtain ⟨hfit, hl4⟩ := KFit.out rfl
    have KPu := Kept.mk (rput_any _ es w1 (KR.out.later KB1.out) hl4 hfit)
    have KPf2 : Kept (PF = bodL es ++ sumB (bodL es)) := ⟨by have := KPf.out; simpa using this⟩
    clear hfit
    go_wp2_with fail
    refine Calls.mono KPu.out (fun x w2 hp => ?_)
    obtain ⟨v2, rfl, hO2, hb2⟩ := hp
    have KO2 := Kept.mk (hO2.mono KB1.out.size)
    have KB2 := Kept.mk (KB1.out.trans (hb2.mono KB1.out.size))
    clear hO2 hb2 KPu
    go_wp2
    go_ret2
    refine ⟨v2, rfl, KO2.out.eq KPf2.out.symm, KB2.out⟩
  · have KPf2 : Kept (PF = []) := ⟨by rw [KPf.out, if_neg hE]⟩
    have hEb : (E != 0) = true := by simpa using hE
    go_wp2
    go_ret2
    exact ⟨_, rfl, by rw [KPf2.out]; exact Own.nil _ _ _ _, KB1.out⟩


set_option maxHeartbeats 1000000 in
set_option maxRecDepth 100000 in
theorem small_any (a : Option Addr) (n c : Nat) (w : World) (hn : n ≤ 4398046511104) :
    Calls Tryd.prog 9 #[.slice a n c] w fun e w' => e = .returned (.bool (decide (n ≤ 200) || decide (4096 < n))) ∧ w' = w := by
  go_enter Tryd.func9, Tryd.ntmps9
  by_cases h1 : n ≤ 200
  · have h1i : (n : Int) ≤ 200 := by omega
    go_wp2
    go_ret
    refine ⟨?_, rfl⟩
    simp [h1]
  · have h1i : ¬ (n : Int) ≤ 200 := by omega
    by_cases h2 : 4096 < n
    · have h2i : (4096 : Int) < n := by omega
      go_wp2
      go_ret
      refine ⟨?_, rfl⟩
      simp
    · have h2i : ¬ (4096 : Int) < n := by omega
      go_wp2
      go_ret
      refine ⟨?_, rfl⟩
      simp
set_option maxHeartbeats 4000000 in
set_option maxRecDepth 100000 in
theorem ixwrites_walk (v : Value) (es : List SlC) (w : World) (hg : Gl w) (hr : RdZ w v es) (hle : es.length * 80 ≤ 140737488355328) (hn : ∀ e ∈ es, e.pt.size < 4294967281) :
    Calls Tryd.prog 3 #[v] w fun e w' => e = .returned (.bool true) ∧ Below w.heap.size w w' := by
  have KA := Kept.mk (awake_any w hg)
  have KG := Kept.mk hg
  have KR := Kept.mk hr
  have KN := Kept.mk hn
  have Kok := Kept.mk hr.ok
  obtain ⟨a, c, hv, hlc, -⟩ := hr
  subst hv
  clear hg hn
  go_enter Tryd.func3, Tryd.ntmps3
  go_wp2_with fail
  refine Calls.mono KA.out (fun x w1 hp => ?_)
  obtain ⟨rfl, hb1⟩ := hp
  have KB1 := Kept.mk hb1
  have KS := Kept.mk (small_any a es.length c w1 (by omega))
  clear hb1 KA
  obtain ⟨sm, hsm⟩ : ∃ sm, (decide (es.length ≤ 200) || decide (4096 < es.length)) = sm := ⟨_, rfl⟩
  rw [hsm] at KS
  clear hsm
  go_wp2_with fail
  refine Calls.mono KS.out (fun x w2 hp => ?_)
  obtain ⟨rfl, rfl⟩ := hp
  cases sm with
  | false =>
    go_wp2
    go_ret
    exact ⟨rfl, KB1.out⟩
  | true =>
    have KP := Kept.mk (put_any _ es w2 (KG.out.later KB1.out) (KR.out.later KB1.out) (by omega))
    go_wp2_with fail
    refine Calls.mono KP.out (fun x w3 hp => ?_)
    obtain ⟨v3, rfl, hO3, hb3⟩ := hp
    have KO3 := Kept.mk hO3
    have KB3 := Kept.mk (KB1.out.trans (hb3.mono KB1.out.size))
    have KD := Kept.mk (docPut_any _ es w3 (KR.out.later KB3.out) (by omega) KN.out)
    clear hO3 hb3 KP KS
    go_wp2_with fail
    refine Calls.mono KD.out (fun x w4 hp => ?_)
    obtain ⟨v4, rfl, hO4, hb4⟩ := hp
    have KB4 := Kept.mk (KB3.out.trans (hb4.mono KB3.out.size))
    have KO4 := Kept.mk hO4
    have KO34 := Kept.mk (KO3.out.later hb4 (Nat.le_refl _))
    have hA := all_put Kok.out
    have KSm := Kept.mk (Nu.same_any v3 v4 (putF es) (putF es) w4 (nuRd KO34.out.rd hA) (nuRd KO4.out.rd hA))
    rw [decide_eq_true rfl] at KSm
    have KC := Kept.mk (check_any _ es w4 (KG.out.later KB4.out) (KR.out.later KB4.out) (by omega))
    obtain ⟨a3, c3, rfl, -⟩ := KO34.out.rd.form
    obtain ⟨a4, c4, rfl, -⟩ := KO4.out.rd.form
    obtain ⟨E, hE⟩ : ∃ E, chkE es = E := ⟨_, rfl⟩
    rw [hE] at KC ⊢
    clear hO4 hb4 KD hA hE
    go_wp2_with fail
    refine Calls.mono KSm.out (fun x w5 hp => ?_)
    obtain ⟨rfl, rfl⟩ := hp
    go_wp2_with fail
    refine Calls.mono KC.out (fun x w6 hp => ?_)
    obtain ⟨rfl, hb6⟩ := hp
    have KB6 := Kept.mk (KB4.out.trans (hb6.mono KB4.out.size))
    clear hb6
    go_wp2
    go_ret
    exact ⟨rfl, KB6.out⟩
end Go.Proofs.YthkaohkondkhgaaDoor
