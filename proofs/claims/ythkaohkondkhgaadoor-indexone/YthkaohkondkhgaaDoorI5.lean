/-
  inOrder and Check.
-/
import Derived.Test.YthkaohkondkhgaaDoorI3
import Derived.Test.YthkaohkondkhgaaDoorN27
namespace Go.Proofs.YthkaohkondkhgaaDoor
open Go.RowKit

/-- Do the slots stand rightly, one behind the other? -/
def InOrd (es : List SlC) : Prop := ∀ k (h : k + 1 < es.length), behB (es[k]'(by omega)) es[k + 1] = true
set_option maxHeartbeats 1000000 in
set_option maxRecDepth 100000 in
theorem inOrder_any (v : Value) (es : List SlC) (w : World) (hr : RdZ w v es) (hl : es.length ≤ 4398046511104) :
    Calls Tryd.prog 29 #[v] w fun e w' => ∃ r : Bool, e = .returned (.bool r) ∧ (r = true ↔ InOrd es) ∧ Below w.heap.size w w' := by
  obtain ⟨a, c, rfl, hlc, hok, hrd⟩ := hr
  have KR := Kept.mk hrd
  have KK := Kept.mk hok
  clear hrd hok
  go_enter Tryd.func29, Tryd.ntmps29
  go_wp2
  go_loopw [3] (fun iv wr => ∃ k : Nat, 1 ≤ k ∧ (k ≤ es.length ∨ k = 1) ∧ iv = .int .i64 k ∧ (∀ j (h : j + 1 < es.length), j + 1 < k → behB (es[j]'(by omega)) es[j + 1] = true) ∧ Below w.heap.size w wr) (fun iv _ => es.length - (intOf iv).toNat)
  case atStart => exact ⟨1, Nat.le_refl _, .inr rfl, rfl, fun j h h' => absurd h' (by omega), Below.refl _ _⟩
  case round =>
    obtain ⟨k, hk1, hk, rfl, hall, hbel⟩ := hrel
    have KBr := Kept.mk hbel
    have KA := Kept.mk hall
    clear hall
    by_cases hlt : k < es.length
    · have hki : (k : Int) < (es.length : Int) := by omega
      obtain ⟨j, rfl⟩ : ∃ j, k = j + 1 := ⟨k - 1, by omega⟩
      have hjl : j < es.length := by omega
      have hji : (j : Int) < (es.length : Int) := by omega
      obtain ⟨b, off, rfl, hbl, hrg⟩ := KR.out (by omega)
      have hrow : ∀ i (hi : i < es.length), wr.rangeAt b (off + i * 37) (es[i]'hi).l := fun i hi j u hu => by
        rw [hbel.cell (p := ⟨b, off + i * 37 + j, none⟩) hbl]
        exact hrg i hi j u hu
      have hbr : b < wr.heap.size := Nat.lt_of_lt_of_le hbl hbel.size
      have hR1 : Kept (∀ W, CC wr W → W.rangeAt b (off + j * 37) (es[j]'hjl).l) := ⟨fun W hW i u hu => by
        rw [hW.cell (p := ⟨b, off + j * 37 + i, none⟩) hbr]
        exact hrow j hjl i u hu⟩
      have hR2 : Kept (∀ W, CC wr W → W.rangeAt b (off + (j + 1) * 37) (es[j + 1]'hlt).l) := ⟨fun W hW i u hu => by
        rw [hW.cell (p := ⟨b, off + (j + 1) * 37 + i, none⟩) hbr]
        exact hrow (j + 1) hlt i u hu⟩
      have hoA := KK.out _ (List.getElem_mem hjl)
      have hoB := KK.out _ (List.getElem_mem hlt)
      obtain ⟨O, hO⟩ : ∃ O, ordZ (es[j]'hjl) (es[j + 1]'hlt) = O := ⟨_, rfl⟩
      have KO : Kept (∀ W, CC wr W → Calls Tryd.prog 38 #[.agg (es[j]'hjl).l.toArray, .agg (es[j + 1]'hlt).l.toArray] W fun e w' => e = .returned (.int .i64 O) ∧ CC wr w') := ⟨fun W hW => (order_any hoA hoB W).mono fun e w' hp => ⟨by rw [hp.1, hO], hW.on hp.2⟩⟩
      have KI1 := Kept.mk (SlC.info hoA)
      have KI2 := Kept.mk (SlC.info hoB)
      have c0 : wr.cell? ⟨b, off + j * 37, none⟩ = some (.string (es[j]'hjl).pt) := hrow j hjl 0 _ (SlC.c0 _)
      have c1 : wr.cell? ⟨b, off + j * 37 + 1, none⟩ = some (.int .i64 (es[j]'hjl).st) := hrow j hjl 1 _ (SlC.c1 _)
      have c2 : wr.cell? ⟨b, off + (j + 1) * 37, none⟩ = some (.string (es[j + 1]'hlt).pt) := hrow (j + 1) hlt 0 _ (SlC.c0 _)
      have KL : Kept (behB (es[j]'hjl) (es[j + 1]'hlt) = (!(decide ((es[j]'hjl).pt = (es[j + 1]'hlt).pt) && decide ((es[j]'hjl).st = 0)) && decide (O < 0))) := ⟨by unfold behB; rw [hO]⟩
      clear hbel hrow hrg hoA hoB
      have e1 : ((j + 1 : Nat) : Int) - 1 = (j : Int) := by omega
      have e2 : IntKind.i64.wrap (j : Int) = (j : Int) := wr64 (by omega) (by omega)
      have e3 : IntKind.i64.wrap (((j + 1 : Nat) : Int) + 1) = ((j + 1 : Nat) : Int) + 1 := wr64 (by omega) (by omega)
      obtain ⟨bb, hbb⟩ : ∃ bb, behB (es[j]'hjl) (es[j + 1]'hlt) = bb := ⟨_, rfl⟩
      have KBB := Kept.mk hbb
      rw [hbb] at KL
      generalize (es[j]'hjl).l = LA at *
      generalize (es[j + 1]'hlt).l = LB at *
      generalize (es[j]'hjl).pt = PA at *
      generalize (es[j + 1]'hlt).pt = PB at *
      generalize (es[j]'hjl).st = SA at *
      clear hO hbr hbl hbb
      have hset : ∃ t : Bool, t = (decide (PA = PB) && decide (SA = 0)) := ⟨_, rfl⟩
      obtain ⟨t, ht⟩ := hset
      rw [← ht] at KL
      have hpp : (PA.toList == PB.toList) = decide (PA = PB) := str_eq PA PB
      by_cases hp : PA = PB
      · subst hp
        rw [decide_eq_true rfl] at hpp
        rw [decide_eq_true rfl, Bool.true_and] at ht
        by_cases hs : SA = 0
        · subst hs
          have KF : Kept (bb = false) := ⟨by rw [KL.out, ht]; rfl⟩
          clear hpp ht
          go_upto_region 4 with fail
          go_quiet (fail)
          generalize hwq : World.drewN wr _ = wq
          have KBq : Kept (Below w.heap.size w wq) := ⟨by rw [← hwq]; exact below_drewN KBr.out _⟩
          clear c0 c1 c2 hwq
          go_upto_region 5 with fail
          go_quiet (fail)
          generalize hwq : World.drewN wq _ = wp
          have KBp : Kept (Below w.heap.size w wp) := ⟨by rw [← hwq]; exact below_drewN KBq.out _⟩
          clear hwq
          go_wp2
          go_ret
          exact ⟨false, rfl, ⟨fun h => (by cases h), fun h => absurd (h j hlt) (by rw [KBB.out, KF.out]; simp)⟩, KBp.out⟩
        · have KF : Kept (bb = decide (O < 0)) := ⟨by rw [KL.out, ht, decide_eq_false hs]; rfl⟩
          have hs2 : (SA == 0) = false := by simpa using hs
          have hs3 : decide (SA = 0) = false := by simpa using hs
          clear ht
          go_upto_region 4 with fail
          go_quiet (fail)
          generalize hwq : World.drewN wr _ = wq
          have KBq : Kept (CC wr wq) := ⟨by rw [← hwq]; exact below_drewN (Below.refl _ _) _⟩
          clear c0 c1 c2 hwq
          go_upto_region 5 with fail
          refine wp_region_quietC (C := CC wr) (by kernel_rfl) (by kernel_rfl) KBq.out.drew ?_
          go_big_quiet_step ((intro _; rfl))
          go_big_quiet_step ((intro _; rfl))
          go_big_quiet_step ((intro _; rfl))
          go_big_quiet_step ((intro _; rfl))
          refine BigFrame.wpQuiet_want rfl (fun K hK => quiet_run (v := .int .i64 (j : Int)) (fun W hW => by go_simp; all_goals rfl) (hK _ ?_))
          clear hK K
          simp only [Act.put, List.setIfInBounds_toArray, List.set_cons_zero, List.set_cons_succ]
          refine BigFrame.wpQuiet_want rfl (fun K hK => quiet_run (v := .pointer (some ⟨b, off + j * 37, none⟩)) (fun W hW => by go_simp; all_goals first | rfl | (intro hneg; exfalso; omega)) (hK _ ?_))
          clear hK K
          simp only [Act.put, List.setIfInBounds_toArray, List.set_cons_zero, List.set_cons_succ]
          refine BigFrame.wpQuiet_want rfl (fun K hK => quiet_load_mid 41 _ rfl b (off + j * 37) rfl LA _ hR1.out Tryd.underlying41 rfl KI1.out (hK _ ?_))
          clear hK K
          simp only [Act.put, List.setIfInBounds_toArray, List.set_cons_zero, List.set_cons_succ]
          go_big_quiet_step ((intro _; rfl))
          go_big_quiet_step ((intro _; rfl))
          refine BigFrame.wpQuiet_want rfl (fun K hK => quiet_run (v := .pointer (some ⟨b, off + (j + 1) * 37, none⟩)) (fun W hW => by go_simp; all_goals first | rfl | (intro hneg; exfalso; omega)) (hK _ ?_))
          clear hK K
          simp only [Act.put, List.setIfInBounds_toArray, List.set_cons_zero, List.set_cons_succ]
          refine BigFrame.wpQuiet_want rfl (fun K hK => quiet_load_mid 41 _ rfl b (off + (j + 1) * 37) rfl LB _ hR2.out Tryd.underlying41 rfl KI2.out (hK _ ?_))
          clear hK K
          simp only [Act.put, List.setIfInBounds_toArray, List.set_cons_zero, List.set_cons_succ]
          go_big_quiet_step ((intro hCw; exact KO.out _ hCw))
          refine BigFrame.wpQuiet_want rfl (fun K hK => quiet_run (v := .bool (decide (0 ≤ O))) (fun W hW => by go_simp; all_goals rfl) (hK _ ?_))
          clear hK K
          simp only [Act.put, List.setIfInBounds_toArray, List.set_cons_zero, List.set_cons_succ]
          repeat (go_big_quiet_step ((intro _; rfl)))
          refine wpQuiet_nil ?_
          intro w3 hw3
          have KB3 := Kept.mk (KBr.out.trans (Below.mono hw3 KBr.out.size))
          clear hw3
          by_cases hge : 0 ≤ O
          · have hd : decide (0 ≤ O) = true := decide_eq_true hge
            go_wp2
            go_ret
            exact ⟨false, rfl, ⟨fun h => (by cases h), fun h => absurd (h j hlt) (by rw [KBB.out, KF.out, decide_eq_false (by omega)]; simp)⟩, KB3.out⟩
          · have hd : decide (0 ≤ O) = false := decide_eq_false hge
            have KOn : Kept (O < 0) := ⟨by omega⟩
            go_wp2
            go_roundw
            case rel =>
              refine ⟨j + 1 + 1, by omega, .inl (by omega), by go_num, fun i h h' => ?_, KB3.out⟩
              rcases Nat.lt_or_ge (i + 1) (j + 1) with h2 | h2
              · exact KA.out i h h2
              · obtain rfl : i = j := by omega
                rw [KBB.out, KF.out]; exact decide_eq_true KOn.out
            case measure => simp [intOf]; omega
      · have KF : Kept (bb = decide (O < 0)) := ⟨by rw [KL.out, ht, decide_eq_false hp]; rfl⟩
        rw [decide_eq_false hp] at hpp
        clear ht
        go_upto_region 4 with fail
        go_quiet (fail)
        generalize hwq : World.drewN wr _ = wq
        have KBq : Kept (CC wr wq) := ⟨by rw [← hwq]; exact below_drewN (Below.refl _ _) _⟩
        clear c0 c1 c2 hwq
        go_upto_region 5 with fail
        refine wp_region_quietC (C := CC wr) (by kernel_rfl) (by kernel_rfl) KBq.out.drew ?_
        go_big_quiet_step ((intro _; rfl))
        go_big_quiet_step ((intro _; rfl))
        go_big_quiet_step ((intro _; rfl))
        go_big_quiet_step ((intro _; rfl))
        refine BigFrame.wpQuiet_want rfl (fun K hK => quiet_run (v := .int .i64 (j : Int)) (fun W hW => by go_simp; all_goals rfl) (hK _ ?_))
        clear hK K
        simp only [Act.put, List.setIfInBounds_toArray, List.set_cons_zero, List.set_cons_succ]
        refine BigFrame.wpQuiet_want rfl (fun K hK => quiet_run (v := .pointer (some ⟨b, off + j * 37, none⟩)) (fun W hW => by go_simp; all_goals first | rfl | (intro hneg; exfalso; omega)) (hK _ ?_))
        clear hK K
        simp only [Act.put, List.setIfInBounds_toArray, List.set_cons_zero, List.set_cons_succ]
        refine BigFrame.wpQuiet_want rfl (fun K hK => quiet_load_mid 41 _ rfl b (off + j * 37) rfl LA _ hR1.out Tryd.underlying41 rfl KI1.out (hK _ ?_))
        clear hK K
        simp only [Act.put, List.setIfInBounds_toArray, List.set_cons_zero, List.set_cons_succ]
        go_big_quiet_step ((intro _; rfl))
        go_big_quiet_step ((intro _; rfl))
        refine BigFrame.wpQuiet_want rfl (fun K hK => quiet_run (v := .pointer (some ⟨b, off + (j + 1) * 37, none⟩)) (fun W hW => by go_simp; all_goals first | rfl | (intro hneg; exfalso; omega)) (hK _ ?_))
        clear hK K
        simp only [Act.put, List.setIfInBounds_toArray, List.set_cons_zero, List.set_cons_succ]
        refine BigFrame.wpQuiet_want rfl (fun K hK => quiet_load_mid 41 _ rfl b (off + (j + 1) * 37) rfl LB _ hR2.out Tryd.underlying41 rfl KI2.out (hK _ ?_))
        clear hK K
        simp only [Act.put, List.setIfInBounds_toArray, List.set_cons_zero, List.set_cons_succ]
        go_big_quiet_step ((intro hCw; exact KO.out _ hCw))
        refine BigFrame.wpQuiet_want rfl (fun K hK => quiet_run (v := .bool (decide (0 ≤ O))) (fun W hW => by go_simp; all_goals rfl) (hK _ ?_))
        clear hK K
        simp only [Act.put, List.setIfInBounds_toArray, List.set_cons_zero, List.set_cons_succ]
        repeat (go_big_quiet_step ((intro _; rfl)))
        refine wpQuiet_nil ?_
        intro w3 hw3
        have KB3 := Kept.mk (KBr.out.trans (Below.mono hw3 KBr.out.size))
        clear hw3
        by_cases hge : 0 ≤ O
        · have hd : decide (0 ≤ O) = true := decide_eq_true hge
          go_wp2
          go_ret
          exact ⟨false, rfl, ⟨fun h => (by cases h), fun h => absurd (h j hlt) (by rw [KBB.out, KF.out, decide_eq_false (by omega)]; simp)⟩, KB3.out⟩
        · have hd : decide (0 ≤ O) = false := decide_eq_false hge
          have KOn : Kept (O < 0) := ⟨by omega⟩
          go_wp2
          go_roundw
          case rel =>
            refine ⟨j + 1 + 1, by omega, .inl (by omega), by go_num, fun i h h' => ?_, KB3.out⟩
            rcases Nat.lt_or_ge (i + 1) (j + 1) with h2 | h2
            · exact KA.out i h h2
            · obtain rfl : i = j := by omega
              rw [KBB.out, KF.out]; exact decide_eq_true KOn.out
          case measure => simp [intOf]; omega
    · have hki : ¬ (k : Int) < (es.length : Int) := by omega
      clear hbel
      go_wp2
      go_ret
      exact .inr ⟨rfl, fun j h => KA.out j h (by omega), KBr.out⟩


def ordB : List SlC → Bool
  | [] => true
  | a :: r => (match r with | [] => true | b :: _ => behB a b) && ordB r
theorem ordB_iff : ∀ es : List SlC, ordB es = true ↔ InOrd es
  | [] => ⟨fun _ k h => by simp at h, fun _ => rfl⟩
  | [a] => ⟨fun _ k h => by simp at h, fun _ => rfl⟩
  | a :: b :: r => by
    have ih := ordB_iff (b :: r)
    unfold ordB
    rw [Bool.and_eq_true, ih]
    constructor
    · intro ⟨h1, h2⟩ k h
      cases k with
      | zero => exact h1
      | succ k => exact h2 k (by simp at h ⊢; omega)
    · intro h
      exact ⟨h 0 (by simp), fun k hk => h (k + 1) (by simp at hk ⊢; omega)⟩
/-- Check's answer. -/
def chkE (es : List SlC) : Int := if es.any outF = true then 1 else if 4096 < es.length then 2 else if es.any unnF = true then 3 else if es.any noFl = true then 4 else if ordB es = true then 0 else 4
theorem chk_ok {es : List SlC} : chkE es = 0 ↔ es.any outF = false ∧ es.length ≤ 4096 ∧ es.any unnF = false ∧ es.any noFl = false ∧ ordB es = true := by
  unfold chkE
  constructor
  · intro h
    split at h
    · omega
    · split at h
      · omega
      · split at h
        · omega
        · split at h
          · omega
          · split at h
            · simp_all
            · omega
  · intro ⟨h1, h2, h3, h4, h5⟩
    rw [if_neg (by simp [h1]), if_neg (by omega), if_neg (by simp [h3]), if_neg (by simp [h4]), if_pos h5]
set_option maxHeartbeats 1000000 in
set_option maxRecDepth 100000 in
theorem check_any (v : Value) (es : List SlC) (w : World) (hg : Gl w) (hr : RdZ w v es) (hl : es.length ≤ 4398046511104) :
    Calls Tryd.prog 13 #[v] w fun e w' => e = .returned (.int .i64 (chkE es)) ∧ Below w.heap.size w w' := by
  have hrd := hr
  obtain ⟨a, c, hv, -⟩ := hr
  subst hv
  have K1 := Kept.mk (containsFunc_outside _ es w hg hrd hl)
  have K2 : Kept (∀ W, CC w W → Calls Tryd.prog 25 #[.slice a es.length c, .func (.func 27) #[] #[]] W fun e w' => e = .returned (.bool (es.any unnF)) ∧ CC w w') := ⟨fun W hW => (containsFunc_unnamed _ es W (hg.later hW) (RdZ.later hrd hW) hl).mono fun e w' hp => ⟨hp.1, hW.on hp.2⟩⟩
  have K3 : Kept (∀ W, CC w W → Calls Tryd.prog 25 #[.slice a es.length c, .func (.func 28) #[] #[]] W fun e w' => e = .returned (.bool (es.any noFl)) ∧ CC w w') := ⟨fun W hW => (containsFunc_noFile _ es W (hg.later hW) (RdZ.later hrd hW) hl).mono fun e w' hp => ⟨hp.1, hW.on hp.2⟩⟩
  have K4 : Kept (∀ W, CC w W → Calls Tryd.prog 29 #[.slice a es.length c] W fun e w' => e = .returned (.bool (ordB es)) ∧ CC w w') := ⟨fun W hW => (inOrder_any _ es W (RdZ.later hrd hW) hl).mono fun e w' hp => by
    obtain ⟨r, rfl, h1, h2⟩ := hp
    refine ⟨?_, hW.on h2⟩
    have : r = ordB es := by
      rw [Bool.eq_iff_iff, h1, ordB_iff]
    rw [this]⟩
  have KE : Kept (chkE es = if es.any outF = true then 1 else if 4096 < es.length then 2 else if es.any unnF = true then 3 else if es.any noFl = true then 4 else if ordB es = true then 0 else 4) := ⟨rfl⟩
  generalize chkE es = o at *
  generalize es.any outF = q1 at *
  generalize es.any unnF = q2 at *
  generalize es.any noFl = q3 at *
  generalize ordB es = q4 at *
  clear hg hrd
  go_enter Tryd.func13, Tryd.ntmps13
  go_wp2_with fail
  refine Calls.mono K1.out (fun e w1 hp => ?_)
  obtain ⟨rfl, hb1⟩ := hp
  have KB1 : Kept (CC w w1) := ⟨hb1⟩
  clear hb1 K1
  cases q1 with
  | true =>
    go_wp2
    go_ret
    exact ⟨by rw [KE.out]; rfl, KB1.out⟩
  | false =>
    by_cases h4 : 4096 < es.length
    · have h4i : (4096 : Int) < (es.length : Int) := by omega
      have KH := Kept.mk h4
      clear h4
      go_wp2
      go_ret
      exact ⟨by rw [KE.out, if_neg (by simp), if_pos KH.out]; rfl, KB1.out⟩
    · have h4i : ¬ (4096 : Int) < (es.length : Int) := by omega
      have KH : Kept (o = if q2 = true then 3 else if q3 = true then 4 else if q4 = true then 0 else 4) := ⟨by rw [KE.out, if_neg (by simp), if_neg h4]⟩
      clear h4
      go_wp2_with fail
      refine Calls.mono (K2.out _ KB1.out) (fun e w2 hp => ?_)
      obtain ⟨rfl, hb2⟩ := hp
      have KB2 := Kept.mk hb2
      clear hb2 K2
      cases q2 with
      | true =>
        go_wp2
        go_ret
        exact ⟨by rw [KH.out]; rfl, KB2.out⟩
      | false =>
        go_wp2_with fail
        refine Calls.mono (K3.out _ KB2.out) (fun e w3 hp => ?_)
        obtain ⟨rfl, hb3⟩ := hp
        have KB3 := Kept.mk hb3
        clear hb3 K3
        cases q3 with
        | true =>
          go_wp2
          go_ret
          exact ⟨by rw [KH.out]; rfl, KB3.out⟩
        | false =>
          go_wp2_with fail
          refine Calls.mono (K4.out _ KB3.out) (fun e w4 hp => ?_)
          obtain ⟨rfl, hb4⟩ := hp
          have KB4 := Kept.mk hb4
          clear hb4 K4
          cases q4 with
          | true =>
            go_wp2
            go_ret
            exact ⟨by rw [KH.out]; rfl, KB4.out⟩
          | false =>
            go_wp2
            go_ret
            exact ⟨by rw [KH.out]; rfl, KB4.out⟩
end Go.Proofs.YthkaohkondkhgaaDoor
