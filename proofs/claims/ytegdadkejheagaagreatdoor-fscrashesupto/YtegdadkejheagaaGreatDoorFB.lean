/-
  Walks: ready, folderOf.
-/
import Derived.Test.YtegdadkejheagaaGreatDoorFA
namespace Go.Proofs.YtegdadkejheagaaGreatDoor
open Go.RowKit

theorem Dk.quota {w : World} {B : Nat → Prop} {d n : Nat} {S : St} (h : Dk w B d S n) : w.cell? ⟨d, 0, none⟩ = some (.int .i64 S.quota) := h.blk.cell 0 _ rfl
theorem Dk.used {w : World} {B : Nat → Prop} {d n : Nat} {S : St} (h : Dk w B d S n) : w.cell? ⟨d, 1, none⟩ = some (.int .i64 S.used) := h.blk.cell 1 _ rfl
theorem Dk.names {w : World} {B : Nat → Prop} {d n : Nat} {S : St} (h : Dk w B d S n) : w.cell? ⟨d, 2, none⟩ = some (.map S.bn) := h.blk.cell 2 _ rfl
theorem Dk.lasting {w : World} {B : Nat → Prop} {d n : Nat} {S : St} (h : Dk w B d S n) : w.cell? ⟨d, 3, none⟩ = some (.map S.bl) := h.blk.cell 3 _ rfl
theorem Dk.pending {w : World} {B : Nat → Prop} {d n : Nat} {S : St} (h : Dk w B d S n) : w.cell? ⟨d, 4, none⟩ = some (.map S.bp) := h.blk.cell 4 _ rfl
theorem Dk.refuse {w : World} {B : Nat → Prop} {d n : Nat} {S : St} (h : Dk w B d S n) : w.cell? ⟨d, 5, none⟩ = some (.map S.rb) := h.blk.cell 5 _ rfl
theorem Dk.last {w : World} {B : Nat → Prop} {d n : Nat} {S : St} (h : Dk w B d S n) : w.cell? ⟨d, 6, none⟩ = some (.int .i64 S.last) := h.blk.cell 6 _ rfl
theorem Dk.count {w : World} {B : Nat → Prop} {d n : Nat} {S : St} (h : Dk w B d S n) : w.cell? ⟨d, 7, none⟩ = some (.int .i64 S.count) := h.blk.cell 7 _ rfl
theorem Dk.dark {w : World} {B : Nat → Prop} {d n : Nat} {S : St} (h : Dk w B d S n) : w.cell? ⟨d, 8, none⟩ = some (.bool S.dark) := h.blk.cell 8 _ rfl
def rdyE (k : Bool) : Int := if k then 13 else 0
theorem ready_any {w : World} {B : Nat → Prop} {d n : Nat} {S : St} (h : Dk w B d S n) : Calls Tryz.prog 41 #[.pointer (some ⟨d, 0, none⟩)] w fun e w' => e = .returned (.int .i64 (rdyE S.dark)) ∧ w' = w := by
  have h8 := h.dark
  clear h
  unfold rdyE
  cases hk : S.dark <;> rw [hk] at h8 <;> clear hk
  · go_enter Tryz.func41, Tryz.ntmps41
    go_wp2
    go_ret
    exact ⟨rfl, rfl⟩
  · go_enter Tryz.func41, Tryz.ntmps41
    go_wp2
    go_ret
    exact ⟨rfl, rfl⟩
theorem ready_nil (w : World) : Calls Tryz.prog 41 #[.pointer none] w fun e w' => e = .returned (.int .i64 7) ∧ w' = w := by
  go_enter Tryz.func41, Tryz.ntmps41
  go_wp2
  go_ret
  exact ⟨rfl, rfl⟩
/-- What stands ahead of a path's last /. -/
def folF (s : ByteArray) : ByteArray := s.extract 0 (max (Lib.lastIndexByte s 47) 0).toNat
theorem folderOf_any (s : ByteArray) (w : World) (hs : s.size ≤ 200) : Calls Tryz.prog 57 #[.string s] w fun e w' => e = .returned (.string (folF s)) ∧ w' = w := by
  have KL := Kept.mk (Tryz.strings_LastIndexByte s 47 (by omega) w)
  go_enter Tryz.func57, Tryz.ntmps57
  go_wp2_with fail
  refine Calls.mono KL.out (fun x w1 hp => ?_)
  obtain ⟨rfl, hw⟩ := hp
  subst hw
  have hk : 0 ≤ max (Lib.lastIndexByte s 47) 0 ∧ max (Lib.lastIndexByte s 47) 0 ≤ (s.size : Int) := by
    rcases Lib.lastIndexByte_spec s 47 with ⟨e, -⟩ | ⟨i, hi, e, -⟩ <;> rw [e] <;> omega
  have KE : Kept (folF s = s.extract 0 (max (Lib.lastIndexByte s 47) 0).toNat) := ⟨rfl⟩
  obtain ⟨k, hk'⟩ : ∃ k, Lib.lastIndexByte s 47 = k := ⟨_, rfl⟩
  rw [hk'] at hk KE ⊢
  clear hk' KL
  obtain ⟨m, hm⟩ : ∃ m, max k 0 = m := ⟨_, rfl⟩
  rw [hm] at hk KE
  obtain ⟨hk1, hk2⟩ := hk
  go_wp2
  go_ret
  rw [KE.out]
  exact ⟨rfl, rfl⟩
theorem folF_le {s : ByteArray} (hs : s.size ≤ 200) : (folF s).size ≤ 200 := by
  unfold folF
  rw [ByteArray.size_extract]
  omega
/-- A slice of values of one cell. -/
def RdV (w : World) (v : Value) (cs : List Value) : Prop := ∃ (a : Option Addr) (c : Nat), v = .slice a cs.length c ∧ cs.length ≤ c ∧ (0 < cs.length → ∃ b off, a = some ⟨b, off, none⟩ ∧ b < w.heap.size ∧ w.rangeAt b off cs)
theorem RdV.later {B : Nat} {w w' : World} {v : Value} {cs : List Value} (h : RdV w v cs) (hb : Below B w w') (hB : w.heap.size ≤ B) : RdV w' v cs := by
  obtain ⟨a, c, hv, hc, h1⟩ := h
  refine ⟨a, c, hv, hc, fun h0 => ?_⟩
  obtain ⟨b, off, ha, hlt, hr⟩ := h1 h0
  refine ⟨b, off, ha, Nat.lt_of_lt_of_le hlt hb.size, fun j u hu => ?_⟩
  rw [hb.cell (p := ⟨b, off + j, none⟩) (by simp only; omega)]
  exact hr j u hu
def RdS (w : World) (v : Value) (L : List ByteArray) : Prop := RdV w v (L.map Value.string)
theorem path_size {p : ByteArray} (h : pathF p = true) : p.size ≤ 200 := by
  unfold pathF at h
  simp only [Bool.and_eq_true, decide_eq_true_eq] at h
  exact h.1
def oneF (L : List ByteArray) : Bool := L.all fun p => pathF p && decide (folF p = folF (L.getD 0 ByteArray.empty))
set_option maxRecDepth 100000 in
set_option maxHeartbeats 2000000 in
theorem oneFolder_any (v : Value) (L : List ByteArray) (w : World) (hg : Gl w) (hr : RdS w v L) (hl : L.length ≤ 2) : Calls Tryz.prog 56 #[v] w fun e w' => e = .returned (.bool (oneF L)) ∧ Below w.heap.size w w' := by
  have KG := Kept.mk hg
  have KR := Kept.mk hr
  obtain ⟨a, c, rfl, hlc, -⟩ := hr
  clear hg
  rw [List.length_map] at hlc ⊢
  obtain ⟨Q0, hQ0⟩ : ∃ Q0, folF (L.getD 0 ByteArray.empty) = Q0 := ⟨_, rfl⟩
  have KO : Kept (oneF L = L.all fun p => pathF p && decide (folF p = Q0)) := ⟨by rw [← hQ0]; rfl⟩
  have KQ0 := Kept.mk hQ0
  clear hQ0
  go_enter Tryz.func56, Tryz.ntmps56
  go_wp2
  go_loopw [4, 7] (fun _ kv wr => ∃ k : Nat, k ≤ L.length ∧ kv = .int .i64 k ∧ Below w.heap.size w wr ∧ (L.take k).all (fun p => pathF p && decide (folF p = Q0)) = true) (fun _ kv _ => L.length - (intOf kv).toNat)
  case atStart => exact ⟨0, Nat.zero_le _, rfl, Below.refl _ _, rfl⟩
  case round =>
    obtain ⟨k, hk, rfl, hbel, hall⟩ := hrel
    have KBr := Kept.mk hbel
    have KA := Kept.mk hall
    by_cases hlt : k < L.length
    · have hki : (k : Int) < (L.length : Int) := by omega
      have h0i : (0 : Int) < (L.length : Int) := by omega
      obtain ⟨a', c', hv, -, h4⟩ := KR.out.later hbel (Nat.le_refl _)
      injection hv with hv1 hv2 hv3
      subst hv1
      rw [List.length_map] at h4
      obtain ⟨b, off, rfl, hblt, hrg⟩ := h4 (by omega)
      have hck : wr.cell? ⟨b, off + k, none⟩ = some (.string (L[k]'hlt)) := hrg k _ (by rw [List.getElem?_map, List.getElem?_eq_getElem hlt]; rfl)
      have hc0 : wr.cell? ⟨b, off + 0, none⟩ = some (.string (L.getD 0 ByteArray.empty)) := hrg 0 _ (by rw [List.getElem?_map, List.getElem?_eq_getElem (show 0 < L.length by omega)]; simp [List.getD, List.getElem?_eq_getElem (show 0 < L.length by omega)])
      have KBl := Kept.mk hblt
      have KNe : Kept (L ≠ []) := ⟨fun e => by rw [e] at hlt; exact absurd hlt (by simp)⟩
      obtain ⟨p, hp⟩ : ∃ p, L[k]'hlt = p := ⟨_, rfl⟩
      obtain ⟨p0, hp0⟩ : ∃ p0, L.getD 0 ByteArray.empty = p0 := ⟨_, rfl⟩
      rw [hp] at hck
      rw [hp0] at hc0
      have Kc0 : Kept (∀ W, CC wr W → W.cell? ⟨b, off, none⟩ = some (.string p0)) := ⟨fun W hW => by rw [CC.cell hW KBl.out]; exact hc0⟩
      have KP : Kept (∀ W, CC wr W → Calls Tryz.prog 65 #[.string p] W fun e w'' => e = .returned (.bool (pathF p)) ∧ CC wr w'') := ⟨fun W hW => (path_any p W (KG.out.later (KBr.out.trans (Below.mono hW KBr.out.size)))).mono fun e w'' h => ⟨h.1, hW.on h.2⟩⟩
      have Kp := Kept.mk hp
      have KQ : Kept (folF p0 = Q0) := ⟨by rw [← hp0]; exact KQ0.out⟩
      have KS0 : Kept (pathF p = true → p0.size ≤ 200) := ⟨fun h => by
        rcases Nat.eq_zero_or_pos k with e | e
        · subst e
          have : p0 = p := by rw [← hp0, ← hp]; simp [List.getD, List.getElem?_eq_getElem hlt]
          rw [this]
          exact path_size h
        · have hm := List.all_eq_true.1 KA.out p0 (by
            rw [← hp0, List.getD_eq_getElem?_getD, List.getElem?_eq_getElem (show 0 < L.length by omega), Option.getD_some]
            exact List.mem_take_iff_getElem.2 ⟨0, by omega, rfl⟩)
          simp only [Bool.and_eq_true] at hm
          exact path_size hm.1⟩
      clear hbel hall hrg h4 hp hp0 hblt hc0
      by_cases hq : pathF p = true
      · have Kf1 : Kept (∀ W, CC wr W → Calls Tryz.prog 57 #[.string p] W fun e w'' => e = .returned (.string (folF p)) ∧ CC wr w'') := ⟨fun W hW => (folderOf_any p W (path_size hq)).mono fun e w'' h => ⟨h.1, by rw [h.2]; exact hW⟩⟩
        have Kf2 : Kept (∀ W, CC wr W → Calls Tryz.prog 57 #[.string p0] W fun e w'' => e = .returned (.string Q0) ∧ CC wr w'') := ⟨fun W hW => (folderOf_any p0 W (KS0.out hq)).mono fun e w'' h => ⟨by rw [h.1, KQ.out], by rw [h.2]; exact hW⟩⟩
        have KQp := Kept.mk hq
        rw [hq] at KP
        obtain ⟨Qp, hQp⟩ : ∃ Qp, folF p = Qp := ⟨_, rfl⟩
        rw [hQp] at Kf1
        have KQq := Kept.mk hQp
        clear hq hQp
        go_upto_region 4 with fail
        refine wp_region_quietC (C := CC wr) (by kernel_rfl) (by kernel_rfl) (Below.refl _ _).drew ?_
        go_big_quiet_step ((intro _; rfl))
        go_big_quiet_step ((intro hCw; exact KP.out _ hCw))
        go_big_quiet_step ((intro _; rfl))
        go_big_quiet_step ((intro _; rfl))
        go_big_quiet_step ((intro _; rfl))
        go_big_quiet_step ((intro hCw; exact Kf1.out _ hCw))
        go_big_quiet_step ((intro _; rfl))
        refine BigFrame.wpQuiet_want rfl (fun K hK => quiet_run (v := .pointer (some ⟨b, off, none⟩)) (fun W hW => by go_simp; intro e; exact absurd e KNe.out) (hK _ ?_))
        clear hK K
        simp only [Act.put, List.setIfInBounds_toArray, List.set_cons_zero, List.set_cons_succ]
        refine BigFrame.wpQuiet_want rfl (fun K hK => quiet_run (v := .string p0) (fun W hW => by have hcm := Kc0.out W hW; go_simp) (hK _ ?_))
        clear hK K
        simp only [Act.put, List.setIfInBounds_toArray, List.set_cons_zero, List.set_cons_succ]
        go_big_quiet_step ((intro hCw; exact Kf2.out _ hCw))
        refine BigFrame.wpQuiet_want rfl (fun K hK => quiet_run (v := .bool (!(Qp.toList == Q0.toList))) (fun W hW => by go_simp) (hK _ ?_))
        clear hK K
        simp only [Act.put, List.setIfInBounds_toArray, List.set_cons_zero, List.set_cons_succ]
        go_big_quiet_step ((intro _; rfl))
        refine wpQuiet_nil ?_
        intro w3 hw3
        have KB3 := Kept.mk (KBr.out.trans (Below.mono hw3 KBr.out.size))
        clear hw3 Kf1 Kf2 KP Kc0 hck
        cases hE : (Qp.toList == Q0.toList)
        · have KF : Kept (oneF L = false) := ⟨by
            rw [KO.out, List.all_eq_false]
            refine ⟨p, by rw [← Kp.out]; exact List.getElem_mem hlt, ?_⟩
            rw [KQq.out]
            have : Qp ≠ Q0 := fun e => by rw [e] at hE; simp at hE
            simp [this]⟩
          go_wp2
          go_ret
          exact ⟨by rw [KF.out]; rfl, KB3.out⟩
        · have KQe : Kept (Qp = Q0) := ⟨by
            have h1 : Qp.toList = Q0.toList := by simpa using hE
            rw [Lib.toList_data, Lib.toList_data] at h1
            apply ByteArray.ext
            exact Array.ext' h1⟩
          go_wp2
          go_roundw
          case rel => exact ⟨k + 1, by omega, by go_num, KB3.out, by
            rw [List.take_add_one, List.all_append, KA.out, List.getElem?_eq_getElem hlt, Kp.out]
            simp [KQp.out, KQq.out, KQe.out]⟩
          case measure => simp [intOf]; omega
      · have hqf : pathF p = false := by simpa using hq
        have KF : Kept (oneF L = false) := ⟨by
          rw [KO.out, List.all_eq_false]
          exact ⟨p, by rw [← Kp.out]; exact List.getElem_mem hlt, by simp [hqf]⟩⟩
        rw [hqf] at KP
        clear hq hqf
        go_upto_region 4 with fail
        refine wp_region_quietC (C := CC wr) (by kernel_rfl) (by kernel_rfl) (Below.refl _ _).drew ?_
        go_big_quiet_step ((intro _; rfl))
        go_big_quiet_step ((intro hCw; exact KP.out _ hCw))
        repeat (go_big_quiet_step ((intro _; rfl)))
        refine wpQuiet_nil ?_
        intro w3 hw3
        have KB3 := Kept.mk (KBr.out.trans (Below.mono hw3 KBr.out.size))
        clear hw3 KP Kc0 hck
        go_wp2
        go_ret
        exact ⟨by rw [KF.out]; rfl, KB3.out⟩
    · have hki : ¬ (k : Int) < (L.length : Int) := by omega
      have KT : Kept (oneF L = true) := ⟨by
        have := KA.out
        rw [List.take_of_length_le (by omega)] at this
        rw [KO.out]
        exact this⟩
      clear hbel hall
      go_wp2
      go_ret
      exact ⟨by rw [KT.out]; rfl, KBr.out⟩
end Go.Proofs.YtegdadkejheagaaGreatDoor
