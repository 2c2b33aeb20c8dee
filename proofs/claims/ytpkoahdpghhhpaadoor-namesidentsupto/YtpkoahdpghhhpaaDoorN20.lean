/-
  Walks of the document: Put, DocPutIdent.
-/
import Derived.Test.YtpkoahdpghhhpaaDoorN19
namespace Go.Proofs.YtpkoahdpghhhpaaDoor
open Go.RowKit

set_option maxHeartbeats 1000000 in
set_option maxRecDepth 100000 in
theorem rput_any (i : Idt) (hid : idF i = true) (w : World) (hg : Gl w) :
    Calls Tryd.prog 38 #[i.v] w fun e w' => e = .returned (.string (putB i)) ∧ Below w.heap.size w w' := by
  obtain ⟨w1, hw1, hB1, hlt, hc⟩ := box_ident w i
  have K0 := hc w1 (Below.refl _ _)
  obtain ⟨d0, d1, d2, d3⟩ := K0
  have KC := Kept.mk hc
  have KB1 := Kept.mk hB1
  have KG := Kept.mk (hg.later hB1)
  clear hc hB1 hg
  have hb : 0 ≤ i.tm ∧ i.tm ≤ 1099511627776 ∧ -1439 ≤ i.zn ∧ i.zn ≤ 1439 ∧ i.nm.size ≤ 100 ∧ i.em.size ≤ 100 := by
    unfold idF whoF at hid
    simp only [Bool.and_eq_true, decide_eq_true_eq] at hid
    omega
  obtain ⟨b0, b1, b2, b3, hnl, hel⟩ := hb
  have hTl : (⟨(Lib.itoa i.tm).toArray⟩ : ByteArray).size ≤ 20 := by
    show (Lib.itoa i.tm).toArray.size ≤ 20
    rw [List.size_toArray]
    unfold Lib.itoa
    rw [if_neg (by omega), Lib.decDigits_length]
    exact ndig_le _ 20 (by omega) (by omega)
  obtain ⟨a, ha⟩ : ∃ a : Nat, i.zn.natAbs = a := ⟨_, rfl⟩
  obtain ⟨S, hS⟩ : ∃ S : ByteArray, (if i.zn < 0 then (⟨#[45]⟩ : ByteArray) else ⟨#[43]⟩) = S := ⟨_, rfl⟩
  have KPB : Kept (putB i = i.nm ++ ⟨#[32, 60]⟩ ++ i.em ++ ⟨#[62, 32]⟩ ++ ⟨(Lib.itoa i.tm).toArray⟩ ++ ⟨#[32]⟩ ++ S ++ twoB (a / 60) ++ twoB (a % 60)) := ⟨by
    unfold putB
    rw [zone_two b2 b3, ha, hS]
    simp only [ByteArray.append_assoc]⟩
  have KIt : Kept (∀ w', Gl w' → Calls Tryd.prog 36 #[.int .i64 i.tm] w' fun e w2 => e = .returned (.string ⟨(Lib.itoa i.tm).toArray⟩) ∧ Below w'.heap.size w' w2) := ⟨fun w' hg => itoa_any _ w' hg (by omega) (by omega)⟩
  have KT1 : Kept (∀ w', Calls Tryd.prog 55 #[.int .i64 ((a : Int) / 60)] w' fun e w2 => e = .returned (.string (twoB (a / 60))) ∧ Below w'.heap.size w' w2) := ⟨fun w' => two_any (a / 60) (by omega) w'⟩
  have KT2 : Kept (∀ w', Calls Tryd.prog 55 #[.int .i64 ((a : Int) % 60)] w' fun e w2 => e = .returned (.string (twoB (a % 60))) ∧ Below w'.heap.size w' w2) := ⟨fun w' => two_any (a % 60) (by omega) w'⟩
  have hSl : S.size = 1 := by rw [← hS]; split <;> rfl
  have t1 : (twoB (a / 60)).size = 2 := rfl
  have t2 : (twoB (a % 60)).size = 2 := rfl
  obtain ⟨nm, em, tm, zn⟩ := i
  unfold Idt.v at *
  simp only at *
  have KR : Kept (putB ⟨nm, em, tm, zn⟩ = putB ⟨nm, em, tm, zn⟩) := ⟨rfl⟩
  clear hid KR
  generalize (⟨(Lib.itoa tm).toArray⟩ : ByteArray) = T at *
  generalize twoB (a / 60) = Z1 at *
  generalize twoB (a % 60) = Z2 at *
  generalize putB ⟨nm, em, tm, zn⟩ = PB at *
  by_cases hz : zn < 0
  · rw [if_pos hz] at hS
    subst hS
    have hza : -zn = (a : Int) := by omega
    have hwn : IntKind.i64.wrap (-zn) = (a : Int) := by rw [IntKind.wrap_i64]; omega
    have l2 : (⟨#[32, 60]⟩ : ByteArray).size = 2 := rfl
    have l2' : (⟨#[62, 32]⟩ : ByteArray).size = 2 := rfl
    have l1 : (⟨#[32]⟩ : ByteArray).size = 1 := rfl
    have s1 : (nm ++ ⟨#[32, 60]⟩).size ≤ 102 := by rw [size_cat]; omega
    have s2 : (nm ++ ⟨#[32, 60]⟩ ++ em).size ≤ 202 := by rw [size_cat]; omega
    have s3 : (nm ++ ⟨#[32, 60]⟩ ++ em ++ ⟨#[62, 32]⟩).size ≤ 204 := by rw [size_cat]; omega
    have s4 : (nm ++ ⟨#[32, 60]⟩ ++ em ++ ⟨#[62, 32]⟩ ++ T).size ≤ 224 := by rw [size_cat]; omega
    have s5 : (nm ++ ⟨#[32, 60]⟩ ++ em ++ ⟨#[62, 32]⟩ ++ T ++ ⟨#[32]⟩).size ≤ 225 := by rw [size_cat]; omega
    have s6 : (nm ++ ⟨#[32, 60]⟩ ++ em ++ ⟨#[62, 32]⟩ ++ T ++ ⟨#[32]⟩ ++ ⟨#[45]⟩).size ≤ 226 := by rw [size_cat]; omega
    have s7 : (nm ++ ⟨#[32, 60]⟩ ++ em ++ ⟨#[62, 32]⟩ ++ T ++ ⟨#[32]⟩ ++ ⟨#[45]⟩ ++ Z1).size ≤ 228 := by rw [size_cat]; omega
    have KI2 : Kept (∀ w', CC w1 w' → Calls Tryd.prog 36 #[.int .i64 tm] w' fun e w'' => e = .returned (.string T) ∧ CC w1 w'') := ⟨fun w' hw => (KIt.out w' (KG.out.later hw)).mono fun e w'' hp2 => ⟨hp2.1, hw.on hp2.2⟩⟩
    have KA1 : Kept (∀ w', CC w1 w' → Calls Tryd.prog 55 #[.int .i64 ((a : Int) / 60)] w' fun e w'' => e = .returned (.string Z1) ∧ CC w1 w'') := ⟨fun w' hw => (KT1.out w').mono fun e w'' hp2 => ⟨hp2.1, hw.on hp2.2⟩⟩
    have KA2 : Kept (∀ w', CC w1 w' → Calls Tryd.prog 55 #[.int .i64 ((a : Int) % 60)] w' fun e w'' => e = .returned (.string Z2) ∧ CC w1 w'') := ⟨fun w' hw => (KT2.out w').mono fun e w'' hp2 => ⟨hp2.1, hw.on hp2.2⟩⟩
    clear KIt KT1 KT2 KG
    go_enter Tryd.func38, Tryd.ntmps38
    go_upto_region 1 with fail
    refine wp_region_quietC (C := CC w1) (by kernel_rfl) (by kernel_rfl) (Below.refl _ _).drew ?_
    go_big_quiet_step ((intro _; rfl))
    refine BigFrame.wpQuiet_want rfl (fun K hK => quiet_run (v := .int .i64 zn) (fun W hW => by have hcm := (KC.out W hW).2.2.2; go_simp) (hK _ ?_))
    clear hK K
    simp only [Act.put, List.setIfInBounds_toArray, List.set_cons_zero, List.set_cons_succ]
    go_big_quiet_step ((intro _; rfl))
    go_big_quiet_step ((intro _; rfl))
    refine wpQuiet_nil ?_
    intro w2 hw2
    have KB2 : Kept (CC w1 w2) := ⟨hw2⟩
    clear hw2 d0 d1 d2 d3
    go_wp2
    refine wp_region_quietC (C := CC w1) (by kernel_rfl) (by kernel_rfl) (Below.drew KB2.out) ?_
    go_big_quiet_step ((intro _; rfl))
    refine BigFrame.wpQuiet_want rfl (fun K hK => quiet_run (v := .string nm) (fun W hW => by have hcm := (KC.out W hW).1; go_simp) (hK _ ?_))
    clear hK K
    simp only [Act.put, List.setIfInBounds_toArray, List.set_cons_zero, List.set_cons_succ]
    refine BigFrame.wpQuiet_want rfl (fun K hK => quiet_cat _ _ rfl _ _ rfl rfl (by omega) (hK _ ?_))
    clear hK K
    simp only [Act.put, List.setIfInBounds_toArray, List.set_cons_zero, List.set_cons_succ]
    go_big_quiet_step ((intro _; rfl))
    refine BigFrame.wpQuiet_want rfl (fun K hK => quiet_run (v := .string em) (fun W hW => by have hcm := (KC.out W hW).2.1; go_simp) (hK _ ?_))
    clear hK K
    simp only [Act.put, List.setIfInBounds_toArray, List.set_cons_zero, List.set_cons_succ]
    refine BigFrame.wpQuiet_want rfl (fun K hK => quiet_cat _ _ rfl _ _ rfl rfl (by omega) (hK _ ?_))
    clear hK K
    simp only [Act.put, List.setIfInBounds_toArray, List.set_cons_zero, List.set_cons_succ]
    refine BigFrame.wpQuiet_want rfl (fun K hK => quiet_cat _ _ rfl _ _ rfl rfl (by omega) (hK _ ?_))
    clear hK K
    simp only [Act.put, List.setIfInBounds_toArray, List.set_cons_zero, List.set_cons_succ]
    go_big_quiet_step ((intro _; rfl))
    refine BigFrame.wpQuiet_want rfl (fun K hK => quiet_run (v := .int .i64 tm) (fun W hW => by have hcm := (KC.out W hW).2.2.1; go_simp) (hK _ ?_))
    clear hK K
    simp only [Act.put, List.setIfInBounds_toArray, List.set_cons_zero, List.set_cons_succ]
    go_big_quiet_step ((intro hCw; exact KI2.out _ hCw))
    refine BigFrame.wpQuiet_want rfl (fun K hK => quiet_cat _ _ rfl _ _ rfl rfl (by omega) (hK _ ?_))
    clear hK K
    simp only [Act.put, List.setIfInBounds_toArray, List.set_cons_zero, List.set_cons_succ]
    refine BigFrame.wpQuiet_want rfl (fun K hK => quiet_cat _ _ rfl _ _ rfl rfl (by omega) (hK _ ?_))
    clear hK K
    simp only [Act.put, List.setIfInBounds_toArray, List.set_cons_zero, List.set_cons_succ]
    go_big_quiet_step ((intro _; rfl))
    refine BigFrame.wpQuiet_want rfl (fun K hK => quiet_cat _ _ rfl _ _ rfl rfl (by omega) (hK _ ?_))
    clear hK K
    simp only [Act.put, List.setIfInBounds_toArray, List.set_cons_zero, List.set_cons_succ]
    go_big_quiet_step ((intro _; rfl))
    refine BigFrame.wpQuiet_want rfl (fun K hK => quiet_run (v := .int .i64 ((a : Int) / 60)) (fun W hW => by go_simp; rw [IntKind.wrap_i64]; omega) (hK _ ?_))
    clear hK K
    simp only [Act.put, List.setIfInBounds_toArray, List.set_cons_zero, List.set_cons_succ]
    go_big_quiet_step ((intro hCw; exact KA1.out _ hCw))
    refine BigFrame.wpQuiet_want rfl (fun K hK => quiet_cat _ _ rfl _ _ rfl rfl (by omega) (hK _ ?_))
    clear hK K
    simp only [Act.put, List.setIfInBounds_toArray, List.set_cons_zero, List.set_cons_succ]
    go_big_quiet_step ((intro _; rfl))
    refine BigFrame.wpQuiet_want rfl (fun K hK => quiet_run (v := .int .i64 ((a : Int) % 60)) (fun W hW => by go_simp; exact Int.tmod_eq_emod_of_nonneg (by omega)) (hK _ ?_))
    clear hK K
    simp only [Act.put, List.setIfInBounds_toArray, List.set_cons_zero, List.set_cons_succ]
    go_big_quiet_step ((intro hCw; exact KA2.out _ hCw))
    refine BigFrame.wpQuiet_want rfl (fun K hK => quiet_cat _ _ rfl _ _ rfl rfl (by omega) (hK _ ?_))
    clear hK K
    simp only [Act.put, List.setIfInBounds_toArray, List.set_cons_zero, List.set_cons_succ]
    go_big_quiet_step ((intro _; rfl))
    refine wpQuiet_nil ?_
    intro w3 hw3
    have KB3 := Kept.mk (KB1.out.trans (Below.mono hw3 KB1.out.size))
    clear hw3 KC KI2 KA1 KA2 KB2
    go_wp2
    go_ret
    rw [KPB.out]
    exact ⟨rfl, KB3.out⟩
  · rw [if_neg hz] at hS
    subst hS
    have hza : zn = (a : Int) := by omega
    subst hza
    have l2 : (⟨#[32, 60]⟩ : ByteArray).size = 2 := rfl
    have l2' : (⟨#[62, 32]⟩ : ByteArray).size = 2 := rfl
    have l1 : (⟨#[32]⟩ : ByteArray).size = 1 := rfl
    have s1 : (nm ++ ⟨#[32, 60]⟩).size ≤ 102 := by rw [size_cat]; omega
    have s2 : (nm ++ ⟨#[32, 60]⟩ ++ em).size ≤ 202 := by rw [size_cat]; omega
    have s3 : (nm ++ ⟨#[32, 60]⟩ ++ em ++ ⟨#[62, 32]⟩).size ≤ 204 := by rw [size_cat]; omega
    have s4 : (nm ++ ⟨#[32, 60]⟩ ++ em ++ ⟨#[62, 32]⟩ ++ T).size ≤ 224 := by rw [size_cat]; omega
    have s5 : (nm ++ ⟨#[32, 60]⟩ ++ em ++ ⟨#[62, 32]⟩ ++ T ++ ⟨#[32]⟩).size ≤ 225 := by rw [size_cat]; omega
    have s6 : (nm ++ ⟨#[32, 60]⟩ ++ em ++ ⟨#[62, 32]⟩ ++ T ++ ⟨#[32]⟩ ++ ⟨#[43]⟩).size ≤ 226 := by rw [size_cat]; omega
    have s7 : (nm ++ ⟨#[32, 60]⟩ ++ em ++ ⟨#[62, 32]⟩ ++ T ++ ⟨#[32]⟩ ++ ⟨#[43]⟩ ++ Z1).size ≤ 228 := by rw [size_cat]; omega
    have KI2 : Kept (∀ w', CC w1 w' → Calls Tryd.prog 36 #[.int .i64 tm] w' fun e w'' => e = .returned (.string T) ∧ CC w1 w'') := ⟨fun w' hw => (KIt.out w' (KG.out.later hw)).mono fun e w'' hp2 => ⟨hp2.1, hw.on hp2.2⟩⟩
    have KA1 : Kept (∀ w', CC w1 w' → Calls Tryd.prog 55 #[.int .i64 ((a : Int) / 60)] w' fun e w'' => e = .returned (.string Z1) ∧ CC w1 w'') := ⟨fun w' hw => (KT1.out w').mono fun e w'' hp2 => ⟨hp2.1, hw.on hp2.2⟩⟩
    have KA2 : Kept (∀ w', CC w1 w' → Calls Tryd.prog 55 #[.int .i64 ((a : Int) % 60)] w' fun e w'' => e = .returned (.string Z2) ∧ CC w1 w'') := ⟨fun w' hw => (KT2.out w').mono fun e w'' hp2 => ⟨hp2.1, hw.on hp2.2⟩⟩
    clear KIt KT1 KT2 KG
    go_enter Tryd.func38, Tryd.ntmps38
    go_upto_region 1 with fail
    refine wp_region_quietC (C := CC w1) (by kernel_rfl) (by kernel_rfl) (Below.refl _ _).drew ?_
    go_big_quiet_step ((intro _; rfl))
    refine BigFrame.wpQuiet_want rfl (fun K hK => quiet_run (v := .int .i64 (a : Int)) (fun W hW => by have hcm := (KC.out W hW).2.2.2; go_simp) (hK _ ?_))
    clear hK K
    simp only [Act.put, List.setIfInBounds_toArray, List.set_cons_zero, List.set_cons_succ]
    go_big_quiet_step ((intro _; rfl))
    go_big_quiet_step ((intro _; rfl))
    refine wpQuiet_nil ?_
    intro w2 hw2
    have KB2 : Kept (CC w1 w2) := ⟨hw2⟩
    clear hw2 d0 d1 d2 d3
    go_wp2
    refine wp_region_quietC (C := CC w1) (by kernel_rfl) (by kernel_rfl) (Below.drew KB2.out) ?_
    go_big_quiet_step ((intro _; rfl))
    refine BigFrame.wpQuiet_want rfl (fun K hK => quiet_run (v := .string nm) (fun W hW => by have hcm := (KC.out W hW).1; go_simp) (hK _ ?_))
    clear hK K
    simp only [Act.put, List.setIfInBounds_toArray, List.set_cons_zero, List.set_cons_succ]
    refine BigFrame.wpQuiet_want rfl (fun K hK => quiet_cat _ _ rfl _ _ rfl rfl (by omega) (hK _ ?_))
    clear hK K
    simp only [Act.put, List.setIfInBounds_toArray, List.set_cons_zero, List.set_cons_succ]
    go_big_quiet_step ((intro _; rfl))
    refine BigFrame.wpQuiet_want rfl (fun K hK => quiet_run (v := .string em) (fun W hW => by have hcm := (KC.out W hW).2.1; go_simp) (hK _ ?_))
    clear hK K
    simp only [Act.put, List.setIfInBounds_toArray, List.set_cons_zero, List.set_cons_succ]
    refine BigFrame.wpQuiet_want rfl (fun K hK => quiet_cat _ _ rfl _ _ rfl rfl (by omega) (hK _ ?_))
    clear hK K
    simp only [Act.put, List.setIfInBounds_toArray, List.set_cons_zero, List.set_cons_succ]
    refine BigFrame.wpQuiet_want rfl (fun K hK => quiet_cat _ _ rfl _ _ rfl rfl (by omega) (hK _ ?_))
    clear hK K
    simp only [Act.put, List.setIfInBounds_toArray, List.set_cons_zero, List.set_cons_succ]
    go_big_quiet_step ((intro _; rfl))
    refine BigFrame.wpQuiet_want rfl (fun K hK => quiet_run (v := .int .i64 tm) (fun W hW => by have hcm := (KC.out W hW).2.2.1; go_simp) (hK _ ?_))
    clear hK K
    simp only [Act.put, List.setIfInBounds_toArray, List.set_cons_zero, List.set_cons_succ]
    go_big_quiet_step ((intro hCw; exact KI2.out _ hCw))
    refine BigFrame.wpQuiet_want rfl (fun K hK => quiet_cat _ _ rfl _ _ rfl rfl (by omega) (hK _ ?_))
    clear hK K
    simp only [Act.put, List.setIfInBounds_toArray, List.set_cons_zero, List.set_cons_succ]
    refine BigFrame.wpQuiet_want rfl (fun K hK => quiet_cat _ _ rfl _ _ rfl rfl (by omega) (hK _ ?_))
    clear hK K
    simp only [Act.put, List.setIfInBounds_toArray, List.set_cons_zero, List.set_cons_succ]
    go_big_quiet_step ((intro _; rfl))
    refine BigFrame.wpQuiet_want rfl (fun K hK => quiet_cat _ _ rfl _ _ rfl rfl (by omega) (hK _ ?_))
    clear hK K
    simp only [Act.put, List.setIfInBounds_toArray, List.set_cons_zero, List.set_cons_succ]
    go_big_quiet_step ((intro _; rfl))
    refine BigFrame.wpQuiet_want rfl (fun K hK => quiet_run (v := .int .i64 ((a : Int) / 60)) (fun W hW => by go_simp; rw [IntKind.wrap_i64]; omega) (hK _ ?_))
    clear hK K
    simp only [Act.put, List.setIfInBounds_toArray, List.set_cons_zero, List.set_cons_succ]
    go_big_quiet_step ((intro hCw; exact KA1.out _ hCw))
    refine BigFrame.wpQuiet_want rfl (fun K hK => quiet_cat _ _ rfl _ _ rfl rfl (by omega) (hK _ ?_))
    clear hK K
    simp only [Act.put, List.setIfInBounds_toArray, List.set_cons_zero, List.set_cons_succ]
    go_big_quiet_step ((intro _; rfl))
    refine BigFrame.wpQuiet_want rfl (fun K hK => quiet_run (v := .int .i64 ((a : Int) % 60)) (fun W hW => by go_simp; exact Int.tmod_eq_emod_of_nonneg (by omega)) (hK _ ?_))
    clear hK K
    simp only [Act.put, List.setIfInBounds_toArray, List.set_cons_zero, List.set_cons_succ]
    go_big_quiet_step ((intro hCw; exact KA2.out _ hCw))
    refine BigFrame.wpQuiet_want rfl (fun K hK => quiet_cat _ _ rfl _ _ rfl rfl (by omega) (hK _ ?_))
    clear hK K
    simp only [Act.put, List.setIfInBounds_toArray, List.set_cons_zero, List.set_cons_succ]
    go_big_quiet_step ((intro _; rfl))
    refine wpQuiet_nil ?_
    intro w3 hw3
    have KB3 := Kept.mk (KB1.out.trans (Below.mono hw3 KB1.out.size))
    clear hw3 KC KI2 KA1 KA2 KB2
    go_wp2
    go_ret
    rw [KPB.out]
    exact ⟨rfl, KB3.out⟩

set_option maxHeartbeats 1000000 in
set_option maxRecDepth 100000 in
theorem docPutIdent_any (i : Idt) (w : World) (hg : Gl w) :
    Calls Tryd.prog 19 #[i.v] w fun e w' => e = .returned (.tuple #[.string (putS i), .int .i64 (putE i)]) ∧ Below w.heap.size w w' := by
  obtain ⟨w1, hw1, hB1, hlt, hc⟩ := box_ident w i
  have KId := Kept.mk (rident_any i w1)
  obtain ⟨d0, d1, d2, d3⟩ := hc w1 (Below.refl _ _)
  have KC := Kept.mk hc
  have KB1 := Kept.mk hB1
  have KG := Kept.mk (hg.later hB1)
  clear hc hB1 hg
  by_cases hid : idF i = true
  · have KE : Kept (putE i = 0 ∧ putS i = putB i) := ⟨by unfold putE putS; rw [if_pos hid, if_pos hid]; exact ⟨rfl, rfl⟩⟩
    have KP : Kept (∀ w', Gl w' → Calls Tryd.prog 38 #[i.v] w' fun e w2 => e = .returned (.string (putB i)) ∧ Below w'.heap.size w' w2) := ⟨fun w' h => rput_any i hid w' h⟩
    rw [KE.out.1, KE.out.2]
    rw [hid] at KId
    clear hid KE
    generalize putB i = P at *
    obtain ⟨nm, em, tm, zn⟩ := i
    unfold Idt.v at *
    simp only at *
    go_enter Tryd.func19, Tryd.ntmps19
    go_wp2_with fail
    refine Calls.mono KId.out (fun e w2 hp => ?_)
    obtain ⟨rfl, hb2⟩ := hp
    have KG2 := Kept.mk (KG.out.later hb2)
    have KB2 := Kept.mk (KB1.out.trans (hb2.mono KB1.out.size))
    clear d0 d1 d2 d3
    obtain ⟨d0, d1, d2, d3⟩ := KC.out w2 hb2
    clear hb2 KId
    go_wp2_with fail
    refine Calls.mono (KP.out w2 KG2.out) (fun e w3 hp => ?_)
    obtain ⟨rfl, hb3⟩ := hp
    have KB3 := Kept.mk (KB2.out.trans (hb3.mono KB2.out.size))
    clear hb3 KB2 KG2 KP
    go_wp2
    go_ret2
    exact ⟨rfl, KB3.out⟩
  · have KE : Kept (putE i = 3 ∧ putS i = .empty) := ⟨by unfold putE putS; rw [if_neg hid, if_neg hid]; exact ⟨rfl, rfl⟩⟩
    have hidf : idF i = false := by simpa using hid
    rw [hidf] at KId
    obtain ⟨nm, em, tm, zn⟩ := i
    unfold Idt.v at *
    simp only at *
    go_enter Tryd.func19, Tryd.ntmps19
    go_wp2_with fail
    refine Calls.mono KId.out (fun e w2 hp => ?_)
    obtain ⟨rfl, hb2⟩ := hp
    have KB2 := Kept.mk (KB1.out.trans (hb2.mono KB1.out.size))
    clear hb2
    go_wp2
    go_ret2
    rw [KE.out.1, KE.out.2]
    exact ⟨rfl, KB2.out⟩
end Go.Proofs.YtpkoahdpghhhpaaDoor
