/-
  Walks: zoneText, PutIdent.
-/
import Derived.Test.YtbagkmhhgngbcaaDoorN3
namespace Go.Proofs.YtbagkmhhgngbcaaDoor
open Go.RowKit

/-- The digits that tell a zone, one ahead of them. -/
def zdB (a : Nat) : ByteArray := ⟨(Lib.itoa (10000 + (a : Int) / 60 * 100 + (a : Int) % 60)).toArray⟩
theorem zdB_size {a : Nat} (h : a ≤ 1439) : (zdB a).size = 5 := by
  have e : (10000 + (a : Int) / 60 * 100 + (a : Int) % 60) = ((10000 + a / 60 * 100 + a % 60 : Nat) : Int) := by omega
  unfold zdB
  show (Lib.itoa _).toArray.size = 5
  rw [List.size_toArray, e]
  unfold Lib.itoa
  rw [if_neg (by omega), Int.toNat_natCast, Lib.decDigits_length]
  exact Lib.nDigits_unique 4 _ (by omega) (by omega)
/-- How a zone is written. -/
def zoneB (z : Int) : ByteArray := (if z < 0 then ⟨#[45]⟩ else ⟨#[43]⟩) ++ (zdB z.natAbs).extract 1 5

set_option maxHeartbeats 1000000 in
set_option maxRecDepth 100000 in
theorem zoneText_any (z : Int) (w : World) (hg : Gl w) (h0 : -1439 ≤ z) (h1 : z ≤ 1439) :
    Calls Tryd.prog 37 #[.int .i64 z] w fun e w' => e = .returned (.string (zoneB z)) ∧ Below w.heap.size w w' := by
  by_cases hz : z < 0
  · obtain ⟨a, rfl⟩ : ∃ a : Nat, z = -(a : Int) := ⟨z.natAbs, by omega⟩
    have ha : a ≤ 1439 := by omega
    have hs := zdB_size ha
    have KE : Kept (zoneB (-(a : Int)) = (⟨#[45]⟩ : ByteArray) ++ (zdB a).extract 1 5) := ⟨by unfold zoneB; rw [if_pos hz, show (-(a : Int)).natAbs = a from by omega]⟩
    have KI : Kept (Calls Tryd.prog 36 #[.int .i64 (10000 + (a : Int) / 60 * 100 + (a : Int) % 60)] w fun e w' => e = .returned (.string (zdB a)) ∧ Below w.heap.size w w') := ⟨itoa_any _ w hg (by omega) (by omega)⟩
    have han : (a : Int) ≤ 1439 := by omega
    generalize zdB a = Z at *
    clear hg
    go_enter Tryd.func37, Tryd.ntmps37
    go_wp2_with fail
    refine Calls.mono KI.out (fun e w1 hp => ?_)
    obtain ⟨rfl, hb⟩ := hp
    have KB := Kept.mk hb
    clear hb
    go_wp2
    go_ret
    exact ⟨by rw [KE.out]; rfl, KB.out⟩
  · obtain ⟨a, rfl⟩ := Int.eq_ofNat_of_zero_le (show 0 ≤ z by omega)
    have ha : a ≤ 1439 := by omega
    have hs := zdB_size ha
    have KE : Kept (zoneB (a : Int) = (⟨#[43]⟩ : ByteArray) ++ (zdB a).extract 1 5) := ⟨by unfold zoneB; rw [if_neg hz, show (a : Int).natAbs = a from by omega]⟩
    have KI : Kept (Calls Tryd.prog 36 #[.int .i64 (10000 + (a : Int) / 60 * 100 + (a : Int) % 60)] w fun e w' => e = .returned (.string (zdB a)) ∧ Below w.heap.size w w') := ⟨itoa_any _ w hg (by omega) (by omega)⟩
    have han : (a : Int) ≤ 1439 := by omega
    generalize zdB a = Z at *
    clear hg
    go_enter Tryd.func37, Tryd.ntmps37
    go_wp2_with fail
    refine Calls.mono KI.out (fun e w1 hp => ?_)
    obtain ⟨rfl, hb⟩ := hp
    have KB := Kept.mk hb
    clear hb
    go_wp2
    go_ret
    exact ⟨by rw [KE.out]; rfl, KB.out⟩

theorem ndig_le : ∀ (u k : Nat), 1 ≤ k → u < 10 ^ k → Lib.nDigits u ≤ k
  | u, 0, h, _ => by omega
  | u, k + 1, _, h => by
    by_cases hu : u < 10
    · rw [Lib.nDigits_small hu]; omega
    · rw [Lib.nDigits_big hu]
      cases k with
      | zero => simp at h; omega
      | succ k =>
        have := ndig_le (u / 10) (k + 1) (by omega) (by rw [Nat.pow_succ] at h; omega)
        omega
theorem quiet_cat {C : World → Prop} {K : Act → Prop} {o : Oper} {a : Act} (x y : Operand) (ho : o.op = .binOp .add 9 x y 9) (s t : ByteArray) (hx : a.eval x = .string s) (hy : a.eval y = .string t) (hb : s.size + t.size ≤ 9223372036854775807) (hk : K (a.put o.dst (.string (s ++ t)))) : o.quiet Tryd.prog a C K :=
  quiet_run (fun w _ => by
    have hb2 : ¬ 9223372036854775807 < s.size + t.size := by omega
    unfold execOp
    simp only [ho, hx, hy]
    go_simp) hk
theorem size_cat (s t : ByteArray) : (s ++ t).size = s.size + t.size := ByteArray.size_append

/-- How an ident is written. -/
def putB (i : Idt) : ByteArray := i.nm ++ ⟨#[32, 60]⟩ ++ i.em ++ ⟨#[62, 32]⟩ ++ ⟨(Lib.itoa i.tm).toArray⟩ ++ ⟨#[32]⟩ ++ zoneB i.zn
def putE (i : Idt) : Int := if idF i = true then 0 else 3
def putS (i : Idt) : ByteArray := if idF i = true then putB i else .empty

set_option maxHeartbeats 1000000 in
set_option maxRecDepth 100000 in
theorem putIdent_any (i : Idt) (w : World) (hg : Gl w) :
    Calls Tryd.prog 18 #[i.v] w fun e w' => e = .returned (.tuple #[.string (putS i), .int .i64 (putE i)]) ∧ Below w.heap.size w w' := by
  obtain ⟨w1, hw1, hB1, hlt, hc⟩ := box_ident w i
  have KId := Kept.mk (ident_any i w1)
  have K0 := hc w1 (Below.refl _ _)
  obtain ⟨d0, d1, d2, d3⟩ := K0
  have KC := Kept.mk hc
  have KB1 := Kept.mk hB1
  have KG := Kept.mk (hg.later hB1)
  clear hc hB1 hg
  by_cases hid : idF i = true
  · have KE : Kept (putE i = 0 ∧ putS i = putB i) := ⟨by unfold putE putS; rw [if_pos hid, if_pos hid]; exact ⟨rfl, rfl⟩⟩
    have hb : 0 ≤ i.tm ∧ i.tm ≤ 1099511627776 ∧ -1439 ≤ i.zn ∧ i.zn ≤ 1439 ∧ i.nm.size ≤ 100 ∧ i.em.size ≤ 100 := by
      unfold idF whoF at hid
      simp only [Bool.and_eq_true, decide_eq_true_eq] at hid
      omega
    obtain ⟨-, -, -, -, hnl, hel⟩ := id hb
    have hTl : (⟨(Lib.itoa i.tm).toArray⟩ : ByteArray).size ≤ 20 := by
      show (Lib.itoa i.tm).toArray.size ≤ 20
      rw [List.size_toArray]
      unfold Lib.itoa
      rw [if_neg (by omega), Lib.decDigits_length]
      exact ndig_le _ 20 (by omega) (by omega)
    have hZl : (zoneB i.zn).size ≤ 10 := by
      unfold zoneB
      rw [size_cat, ByteArray.size_extract, zdB_size (by omega)]
      split <;> (show 1 + _ ≤ 10; omega)
    rw [hid] at KId
    have KPB : Kept (putB i = i.nm ++ ⟨#[32, 60]⟩ ++ i.em ++ ⟨#[62, 32]⟩ ++ ⟨(Lib.itoa i.tm).toArray⟩ ++ ⟨#[32]⟩ ++ zoneB i.zn) := ⟨rfl⟩
    have KIt : Kept (∀ w', Gl w' → Calls Tryd.prog 36 #[.int .i64 i.tm] w' fun e w2 => e = .returned (.string ⟨(Lib.itoa i.tm).toArray⟩) ∧ Below w'.heap.size w' w2) := ⟨fun w' hg => itoa_any _ w' hg (by omega) (by omega)⟩
    have KZ : Kept (∀ w', Gl w' → Calls Tryd.prog 37 #[.int .i64 i.zn] w' fun e w2 => e = .returned (.string (zoneB i.zn)) ∧ Below w'.heap.size w' w2) := ⟨fun w' hg => zoneText_any _ w' hg (by omega) (by omega)⟩
    obtain ⟨nm, em, tm, zn⟩ := i
    unfold Idt.v at *
    simp only at *
    generalize (⟨(Lib.itoa tm).toArray⟩ : ByteArray) = T at *
    generalize zoneB zn = Z at *
    generalize putB ⟨nm, em, tm, zn⟩ = PB at *
    have l2 : (⟨#[32, 60]⟩ : ByteArray).size = 2 := rfl
    have l2' : (⟨#[62, 32]⟩ : ByteArray).size = 2 := rfl
    have l1 : (⟨#[32]⟩ : ByteArray).size = 1 := rfl
    have s1 : (nm ++ ⟨#[32, 60]⟩).size ≤ 102 := by rw [size_cat]; omega
    have s2 : (nm ++ ⟨#[32, 60]⟩ ++ em).size ≤ 202 := by rw [size_cat]; omega
    have s3 : (nm ++ ⟨#[32, 60]⟩ ++ em ++ ⟨#[62, 32]⟩).size ≤ 204 := by rw [size_cat]; omega
    have s4 : (nm ++ ⟨#[32, 60]⟩ ++ em ++ ⟨#[62, 32]⟩ ++ T).size ≤ 224 := by rw [size_cat]; omega
    have s5 : (nm ++ ⟨#[32, 60]⟩ ++ em ++ ⟨#[62, 32]⟩ ++ T ++ ⟨#[32]⟩).size ≤ 225 := by rw [size_cat]; omega
    clear hid hb
    go_enter Tryd.func18, Tryd.ntmps18
    go_wp2_with fail
    refine Calls.mono KId.out (fun e w2 hp => ?_)
    obtain ⟨rfl, hb2⟩ := hp
    have KB12 := Kept.mk hb2
    have hz2 := hb2.size
    have KC2 : Kept (∀ w', CC w2 w' → w'.cell? ⟨w.heap.size, 0, none⟩ = some (.string nm) ∧ w'.cell? ⟨w.heap.size, 1, none⟩ = some (.string em) ∧ w'.cell? ⟨w.heap.size, 2, none⟩ = some (.int .i64 tm) ∧ w'.cell? ⟨w.heap.size, 3, none⟩ = some (.int .i64 zn)) := ⟨fun w' hw => KC.out w' (hb2.trans (Below.mono hw hb2.size))⟩
    have KIt2 : Kept (∀ w', CC w2 w' → Calls Tryd.prog 36 #[.int .i64 tm] w' fun e w'' => e = .returned (.string T) ∧ CC w2 w'') := ⟨fun w' hw => (KIt.out w' ((KG.out.later hb2).later hw)).mono fun e w'' hp2 => ⟨hp2.1, hw.on hp2.2⟩⟩
    have KZ2 : Kept (∀ w', CC w2 w' → Calls Tryd.prog 37 #[.int .i64 zn] w' fun e w'' => e = .returned (.string Z) ∧ CC w2 w'') := ⟨fun w' hw => (KZ.out w' ((KG.out.later hb2).later hw)).mono fun e w'' hp2 => ⟨hp2.1, hw.on hp2.2⟩⟩
    clear hb2 KIt KZ KC KG d0 d1 d2 d3
    go_wp2_with fail
    refine wp_region_quietC (C := CC w2) (by kernel_rfl) (by kernel_rfl) (Below.refl _ _).drew ?_
    go_big_quiet_step ((intro _; rfl))
    refine BigFrame.wpQuiet_want rfl (fun K hK => quiet_run (v := .string nm) (fun W hW => by have hcm := (KC2.out W hW).1; go_simp) (hK _ ?_))
    clear hK K
    simp only [Act.put, List.setIfInBounds_toArray, List.set_cons_zero, List.set_cons_succ]
    refine BigFrame.wpQuiet_want rfl (fun K hK => quiet_cat _ _ rfl _ _ rfl rfl (by omega) (hK _ ?_))
    clear hK K
    simp only [Act.put, List.setIfInBounds_toArray, List.set_cons_zero, List.set_cons_succ]
    go_big_quiet_step ((intro _; rfl))
    refine BigFrame.wpQuiet_want rfl (fun K hK => quiet_run (v := .string em) (fun W hW => by have hcm := (KC2.out W hW).2.1; go_simp) (hK _ ?_))
    clear hK K
    simp only [Act.put, List.setIfInBounds_toArray, List.set_cons_zero, List.set_cons_succ]
    refine BigFrame.wpQuiet_want rfl (fun K hK => quiet_cat _ _ rfl _ _ rfl rfl (by omega) (hK _ ?_))
    clear hK K
    simp only [Act.put, List.setIfInBounds_toArray, List.set_cons_zero, List.set_cons_succ]
    refine BigFrame.wpQuiet_want rfl (fun K hK => quiet_cat _ _ rfl _ _ rfl rfl (by omega) (hK _ ?_))
    clear hK K
    simp only [Act.put, List.setIfInBounds_toArray, List.set_cons_zero, List.set_cons_succ]
    go_big_quiet_step ((intro _; rfl))
    refine BigFrame.wpQuiet_want rfl (fun K hK => quiet_run (v := .int .i64 tm) (fun W hW => by have hcm := (KC2.out W hW).2.2.1; go_simp) (hK _ ?_))
    clear hK K
    simp only [Act.put, List.setIfInBounds_toArray, List.set_cons_zero, List.set_cons_succ]
    go_big_quiet_step ((intro hCw; exact KIt2.out _ hCw))
    refine BigFrame.wpQuiet_want rfl (fun K hK => quiet_cat _ _ rfl _ _ rfl rfl (by omega) (hK _ ?_))
    clear hK K
    simp only [Act.put, List.setIfInBounds_toArray, List.set_cons_zero, List.set_cons_succ]
    refine BigFrame.wpQuiet_want rfl (fun K hK => quiet_cat _ _ rfl _ _ rfl rfl (by omega) (hK _ ?_))
    clear hK K
    simp only [Act.put, List.setIfInBounds_toArray, List.set_cons_zero, List.set_cons_succ]
    go_big_quiet_step ((intro _; rfl))
    refine BigFrame.wpQuiet_want rfl (fun K hK => quiet_run (v := .int .i64 zn) (fun W hW => by have hcm := (KC2.out W hW).2.2.2; go_simp) (hK _ ?_))
    clear hK K
    simp only [Act.put, List.setIfInBounds_toArray, List.set_cons_zero, List.set_cons_succ]
    go_big_quiet_step ((intro hCw; exact KZ2.out _ hCw))
    refine BigFrame.wpQuiet_want rfl (fun K hK => quiet_cat _ _ rfl _ _ rfl rfl (by omega) (hK _ ?_))
    clear hK K
    simp only [Act.put, List.setIfInBounds_toArray, List.set_cons_zero, List.set_cons_succ]
    go_big_quiet_step ((intro _; rfl))
    go_big_quiet_step ((intro _; rfl))
    refine wpQuiet_nil ?_
    intro w3 hw3
    have KB3 := Kept.mk (KB1.out.trans ((KB12.out.trans (Below.mono hw3 KB12.out.size)).mono KB1.out.size))
    clear hw3 KC2 KIt2 KZ2
    go_wp2
    go_ret2
    rw [KE.out.1, KE.out.2, KPB.out]
    exact ⟨rfl, KB3.out⟩
  · have KE : Kept (putE i = 3 ∧ putS i = .empty) := ⟨by unfold putE putS; rw [if_neg hid, if_neg hid]; exact ⟨rfl, rfl⟩⟩
    have hidf : idF i = false := by simpa using hid
    rw [hidf] at KId
    obtain ⟨nm, em, tm, zn⟩ := i
    unfold Idt.v at *
    simp only at *
    go_enter Tryd.func18, Tryd.ntmps18
    go_wp2_with fail
    refine Calls.mono KId.out (fun e w2 hp => ?_)
    obtain ⟨rfl, hb2⟩ := hp
    have KB2 := Kept.mk (KB1.out.trans (hb2.mono KB1.out.size))
    clear hb2
    go_wp2
    go_ret2
    rw [KE.out.1, KE.out.2]
    exact ⟨rfl, KB2.out⟩
end Go.Proofs.YtbagkmhhgngbcaaDoor
