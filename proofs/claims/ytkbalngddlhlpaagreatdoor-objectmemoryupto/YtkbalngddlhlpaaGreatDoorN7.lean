/-
  Walks: zoneText, PutIdent.
-/
import Derived.Test.YtkbalngddlhlpaaGreatDoorN3
import Derived.Lib.AtoiErrMem
namespace Go.Proofs.YtkbalngddlhlpaaGreatDoor
open Go.RowKit

def zdB (a : Nat) : ByteArray := ⟨(Lib.itoa (10000 + (a : Int) / 60 * 100 + (a : Int) % 60)).toArray⟩
theorem zdB_size {a : Nat} (h : a ≤ 1439) : (zdB a).size = 5 := by
  have e : (10000 + (a : Int) / 60 * 100 + (a : Int) % 60) = ((10000 + a / 60 * 100 + a % 60 : Nat) : Int) := by omega
  unfold zdB
  show (Lib.itoa _).toArray.size = 5
  rw [List.size_toArray, e]
  unfold Lib.itoa
  rw [if_neg (by omega), Int.toNat_natCast, Lib.decDigits_length]
  exact Lib.nDigits_unique 4 _ (by omega) (by omega)
def zoneB (z : Int) : ByteArray := (if z < 0 then ⟨#[45]⟩ else ⟨#[43]⟩) ++ (zdB z.natAbs).extract 1 5

set_option maxHeartbeats 1000000 in
set_option maxRecDepth 100000 in
theorem zoneText_any (z : Int) (w : World) (hg : Gl w) (h0 : -1439 ≤ z) (h1 : z ≤ 1439) :
    Calls Tryz.prog 68 #[.int .i64 z] w fun e w' => e = .returned (.string (zoneB z)) ∧ Below w.heap.size w w' := by
  by_cases hz : z < 0
  · obtain ⟨a, rfl⟩ : ∃ a : Nat, z = -(a : Int) := ⟨z.natAbs, by omega⟩
    have ha : a ≤ 1439 := by omega
    have hs := zdB_size ha
    have KE : Kept (zoneB (-(a : Int)) = (⟨#[45]⟩ : ByteArray) ++ (zdB a).extract 1 5) := ⟨by unfold zoneB; rw [if_pos hz, show (-(a : Int)).natAbs = a from by omega]⟩
    have KI : Kept (Calls Tryz.prog 26 #[.int .i64 (10000 + (a : Int) / 60 * 100 + (a : Int) % 60)] w fun e w' => e = .returned (.string (zdB a)) ∧ Below w.heap.size w w') := ⟨itoa_any _ w hg (by omega) (by omega)⟩
    have han : (a : Int) ≤ 1439 := by omega
    generalize zdB a = Z at *
    clear hg
    go_enter Tryz.func68, Tryz.ntmps68
    go_wp2_with fail
    refine Calls.mono KI.out (fun e w1 hp => ?_)
    obtain ⟨rfl, hb⟩ := hp
    have KB := Kept.mk hb
    clear hb
    go_wp2
    go_ret
    exact ⟨by rw [KE.out]; rfl, KB.out⟩
  · obtain ⟨a, rfl⟩ := Int.eq_ofNat_of_zero_le (show 0 ≤ z by omega)
    have ha : a ≤ 1439 := by omega
    have hs := zdB_size ha
    have KE : Kept (zoneB (a : Int) = (⟨#[43]⟩ : ByteArray) ++ (zdB a).extract 1 5) := ⟨by unfold zoneB; rw [if_neg hz, show (a : Int).natAbs = a from by omega]⟩
    have KI : Kept (Calls Tryz.prog 26 #[.int .i64 (10000 + (a : Int) / 60 * 100 + (a : Int) % 60)] w fun e w' => e = .returned (.string (zdB a)) ∧ Below w.heap.size w w') := ⟨itoa_any _ w hg (by omega) (by omega)⟩
    have han : (a : Int) ≤ 1439 := by omega
    generalize zdB a = Z at *
    clear hg
    go_enter Tryz.func68, Tryz.ntmps68
    go_wp2_with fail
    refine Calls.mono KI.out (fun e w1 hp => ?_)
    obtain ⟨rfl, hb⟩ := hp
    have KB := Kept.mk hb
    clear hb
    go_wp2
    go_ret
    exact ⟨by rw [KE.out]; rfl, KB.out⟩

theorem ndig_le : ∀ (u k : Nat), 1 ≤ k → u < 10 ^ k → Lib.nDigits u ≤ k
  | u, 0, h, _ => by omega
  | u, k + 1, _, h => by
    by_cases hu : u < 10
    · rw [Lib.nDigits_small hu]; omega
    · rw [Lib.nDigits_big hu]
      cases k with
      | zero => simp at h; omega
      | succ k =>
        have := ndig_le (u / 10) (k + 1) (by omega) (by rw [Nat.pow_succ] at h; omega)
        omega
theorem quiet_cat {C : World → Prop} {K : Act → Prop} {o : Oper} {a : Act} (x y : Operand) (ho : o.op = .binOp .add 9 x y 9) (s t : ByteArray) (hx : a.eval x = .string s) (hy : a.eval y = .string t) (hb : s.size + t.size ≤ 9223372036854775807) (hk : K (a.put o.dst (.string (s ++ t)))) : o.quiet Tryz.prog a C K :=
  quiet_run (fun w _ => by
    have hb2 : ¬ 9223372036854775807 < s.size + t.size := by omega
    unfold execOp
    simp only [ho, hx, hy]
    go_simp) hk
theorem size_cat (s t : ByteArray) : (s ++ t).size = s.size + t.size := ByteArray.size_append

def putB (i : Idt) : ByteArray := i.nm ++ ⟨#[32, 60]⟩ ++ i.em ++ ⟨#[62, 32]⟩ ++ ⟨(Lib.itoa i.tm).toArray⟩ ++ ⟨#[32]⟩ ++ zoneB i.zn
def putE (i : Idt) : Int := if idF i = true then 0 else 3
def putS (i : Idt) : ByteArray := if idF i = true then putB i else .empty

set_option maxHeartbeats 1000000 in
set_option maxRecDepth 100000 in
theorem putIdent_any (i : Idt) (w : World) (hg : Gl w) :
    Calls Tryz.prog 32 #[i.v] w fun e w' => e = .returned (.tuple #[.string (putS i), .int .i64 (putE i)]) ∧ Below w.heap.size w w' := by
  obtain ⟨w1, hw1, hB1, hlt, hc⟩ := box_ident w i
  have KId := Kept.mk (ident_any i w1)
  have K0 := hc w1 (Below.refl _ _)
  obtain ⟨d0, d1, d2, d3⟩ := K0
  have KC := Kept.mk hc
  have KB1 := Kept.mk hB1
  have KG := Kept.mk (hg.later hB1)
  clear hc hB1 hg
  by_cases hid : idF i = true
  · have KE : Kept (putE i = 0 ∧ putS i = putB i) := ⟨by unfold putE putS; rw [if_pos hid, if_pos hid]; exact ⟨rfl, rfl⟩⟩
    have hb : 0 ≤ i.tm ∧ i.tm ≤ 1099511627776 ∧ -1439 ≤ i.zn ∧ i.zn ≤ 1439 ∧ i.nm.size ≤ 100 ∧ i.em.size ≤ 100 := by
      unfold idF whoF at hid
      simp only [Bool.and_eq_true, decide_eq_true_eq] at hid
      omega
    obtain ⟨-, -, -, -, hnl, hel⟩ := id hb
    have hTl : (⟨(Lib.itoa i.tm).toArray⟩ : ByteArray).size ≤ 20 := by
      show (Lib.itoa i.tm).toArray.size ≤ 20
      rw [List.size_toArray]
      unfold Lib.itoa
      rw [if_neg (by omega), Lib.decDigits_length]
      exact ndig_le _ 20 (by omega) (by omega)
    have hZl : (zoneB i.zn).size ≤ 10 := by
      unfold zoneB
      rw [size_cat, ByteArray.size_extract, zdB_size (by omega)]
      split <;> (show 1 + _ ≤ 10; omega)
    rw [hid] at KId
    have KPB : Kept (putB i = i.nm ++ ⟨#[32, 60]⟩ ++ i.em ++ ⟨#[62, 32]⟩ ++ ⟨(Lib.itoa i.tm).toArray⟩ ++ ⟨#[32]⟩ ++ zoneB i.zn) := ⟨rfl⟩
    have KIt : Kept (∀ w', Gl w' → Calls Tryz.prog 26 #[.int .i64 i.tm] w' fun e w2 => e = .returned (.string ⟨(Lib.itoa i.tm).toArray⟩) ∧ Below w'.heap.size w' w2) := ⟨fun w' hg => itoa_any _ w' hg (by omega) (by omega)⟩
    have KZ : Kept (∀ w', Gl w' → Calls Tryz.prog 68 #[.int .i64 i.zn] w' fun e w2 => e = .returned (.string (zoneB i.zn)) ∧ Below w'.heap.size w' w2) := ⟨fun w' hg => zoneText_any _ w' hg (by omega) (by omega)⟩
    obtain ⟨nm, em, tm, zn⟩ := i
    unfold Idt.v at *
    simp only at *
    generalize (⟨(Lib.itoa tm).toArray⟩ : ByteArray) = T at *
    generalize zoneB zn = Z at *
    generalize putB ⟨nm, em, tm, zn⟩ = PB at *
    have l2 : (⟨#[32, 60]⟩ : ByteArray).size = 2 := rfl
    have l2' : (⟨#[62, 32]⟩ : ByteArray).size = 2 := rfl
    have l1 : (⟨#[32]⟩ : ByteArray).size = 1 := rfl
    have s1 : (nm ++ ⟨#[32, 60]⟩).size ≤ 102 := by rw [size_cat]; omega
    have s2 : (nm ++ ⟨#[32, 60]⟩ ++ em).size ≤ 202 := by rw [size_cat]; omega
    have s3 : (nm ++ ⟨#[32, 60]⟩ ++ em ++ ⟨#[62, 32]⟩).size ≤ 204 := by rw [size_cat]; omega
    have s4 : (nm ++ ⟨#[32, 60]⟩ ++ em ++ ⟨#[62, 32]⟩ ++ T).size ≤ 224 := by rw [size_cat]; omega
    have s5 : (nm ++ ⟨#[32, 60]⟩ ++ em ++ ⟨#[62, 32]⟩ ++ T ++ ⟨#[32]⟩).size ≤ 225 := by rw [size_cat]; omega
    clear hid hb
    go_enter Tryz.func32, Tryz.ntmps32
    go_wp2_with fail
    refine Calls.mono KId.out (fun e w2 hp => ?_)
    obtain ⟨rfl, hb2⟩ := hp
    have KB12 := Kept.mk hb2
    have hz2 := hb2.size
    have KC2 : Kept (∀ w', CC w2 w' → w'.cell? ⟨w.heap.size, 0, none⟩ = some (.string nm) ∧ w'.cell? ⟨w.heap.size, 1, none⟩ = some (.string em) ∧ w'.cell? ⟨w.heap.size, 2, none⟩ = some (.int .i64 tm) ∧ w'.cell? ⟨w.heap.size, 3, none⟩ = some (.int .i64 zn)) := ⟨fun w' hw => KC.out w' (hb2.trans (Below.mono hw hb2.size))⟩
    have KIt2 : Kept (∀ w', CC w2 w' → Calls Tryz.prog 26 #[.int .i64 tm] w' fun e w'' => e = .returned (.string T) ∧ CC w2 w'') := ⟨fun w' hw => (KIt.out w' ((KG.out.later hb2).later hw)).mono fun e w'' hp2 => ⟨hp2.1, hw.on hp2.2⟩⟩
    have KZ2 : Kept (∀ w', CC w2 w' → Calls Tryz.prog 68 #[.int .i64 zn] w' fun e w'' => e = .returned (.string Z) ∧ CC w2 w'') := ⟨fun w' hw => (KZ.out w' ((KG.out.later hb2).later hw)).mono fun e w'' hp2 => ⟨hp2.1, hw.on hp2.2⟩⟩
    clear hb2 KIt KZ KC KG d0 d1 d2 d3
    go_wp2_with fail
    refine wp_region_quietC (C := CC w2) (by kernel_rfl) (by kernel_rfl) (Below.refl _ _).drew ?_
    go_big_quiet_step ((intro _; rfl))
    refine BigFrame.wpQuiet_want rfl (fun K hK => quiet_run (v := .string nm) (fun W hW => by have hcm := (KC2.out W hW).1; go_simp) (hK _ ?_))
    clear hK K
    simp only [Act.put, List.setIfInBounds_toArray, List.set_cons_zero, List.set_cons_succ]
    refine BigFrame.wpQuiet_want rfl (fun K hK => quiet_cat _ _ rfl _ _ rfl rfl (by omega) (hK _ ?_))
    clear hK K
    simp only [Act.put, List.setIfInBounds_toArray, List.set_cons_zero, List.set_cons_succ]
    go_big_quiet_step ((intro _; rfl))
    refine BigFrame.wpQuiet_want rfl (fun K hK => quiet_run (v := .string em) (fun W hW => by have hcm := (KC2.out W hW).2.1; go_simp) (hK _ ?_))
    clear hK K
    simp only [Act.put, List.setIfInBounds_toArray, List.set_cons_zero, List.set_cons_succ]
    refine BigFrame.wpQuiet_want rfl (fun K hK => quiet_cat _ _ rfl _ _ rfl rfl (by omega) (hK _ ?_))
    clear hK K
    simp only [Act.put, List.setIfInBounds_toArray, List.set_cons_zero, List.set_cons_succ]
    refine BigFrame.wpQuiet_want rfl (fun K hK => quiet_cat _ _ rfl _ _ rfl rfl (by omega) (hK _ ?_))
    clear hK K
    simp only [Act.put, List.setIfInBounds_toArray, List.set_cons_zero, List.set_cons_succ]
    go_big_quiet_step ((intro _; rfl))
    refine BigFrame.wpQuiet_want rfl (fun K hK => quiet_run (v := .int .i64 tm) (fun W hW => by have hcm := (KC2.out W hW).2.2.1; go_simp) (hK _ ?_))
    clear hK K
    simp only [Act.put, List.setIfInBounds_toArray, List.set_cons_zero, List.set_cons_succ]
    go_big_quiet_step ((intro hCw; exact KIt2.out _ hCw))
    refine BigFrame.wpQuiet_want rfl (fun K hK => quiet_cat _ _ rfl _ _ rfl rfl (by omega) (hK _ ?_))
    clear hK K
    simp only [Act.put, List.setIfInBounds_toArray, List.set_cons_zero, List.set_cons_succ]
    refine BigFrame.wpQuiet_want rfl (fun K hK => quiet_cat _ _ rfl _ _ rfl rfl (by omega) (hK _ ?_))
    clear hK K
    simp only [Act.put, List.setIfInBounds_toArray, List.set_cons_zero, List.set_cons_succ]
    go_big_quiet_step ((intro _; rfl))
    refine BigFrame.wpQuiet_want rfl (fun K hK => quiet_run (v := .int .i64 zn) (fun W hW => by have hcm := (KC2.out W hW).2.2.2; go_simp) (hK _ ?_))
    clear hK K
    simp only [Act.put, List.setIfInBounds_toArray, List.set_cons_zero, List.set_cons_succ]
    go_big_quiet_step ((intro hCw; exact KZ2.out _ hCw))
    refine BigFrame.wpQuiet_want rfl (fun K hK => quiet_cat _ _ rfl _ _ rfl rfl (by omega) (hK _ ?_))
    clear hK K
    simp only [Act.put, List.setIfInBounds_toArray, List.set_cons_zero, List.set_cons_succ]
    go_big_quiet_step ((intro _; rfl))
    go_big_quiet_step ((intro _; rfl))
    refine wpQuiet_nil ?_
    intro w3 hw3
    have KB3 := Kept.mk (KB1.out.trans ((KB12.out.trans (Below.mono hw3 KB12.out.size)).mono KB1.out.size))
    clear hw3 KC2 KIt2 KZ2
    go_wp2
    go_ret2
    rw [KE.out.1, KE.out.2, KPB.out]
    exact ⟨rfl, KB3.out⟩
  · have KE : Kept (putE i = 3 ∧ putS i = .empty) := ⟨by unfold putE putS; rw [if_neg hid, if_neg hid]; exact ⟨rfl, rfl⟩⟩
    have hidf : idF i = false := by simpa using hid
    rw [hidf] at KId
    obtain ⟨nm, em, tm, zn⟩ := i
    unfold Idt.v at *
    simp only at *
    go_enter Tryz.func32, Tryz.ntmps32
    go_wp2_with fail
    refine Calls.mono KId.out (fun e w2 hp => ?_)
    obtain ⟨rfl, hb2⟩ := hp
    have KB2 := Kept.mk (KB1.out.trans (hb2.mono KB1.out.size))
    clear hb2
    go_wp2
    go_ret2
    rw [KE.out.1, KE.out.2]
    exact ⟨rfl, KB2.out⟩


def atoF (s : ByteArray) : Int := match Lib.atoiAll s.data.toList with
  | .ok v => v
  | .«syntax» => 0
  | .range => Lib.atoiSat s.data.toList

set_option maxHeartbeats 1000000 in
set_option maxRecDepth 100000 in
theorem clone_any (s : ByteArray) (w : World) (hs : s.size ≤ 281474976710656) : Calls Tryz.prog 74 #[.string s] w fun e w' => e = .returned (.string s) ∧ Below w.heap.size w w' := by
  have KC := Kept.mk (Tryz.stringslite_Clone s w hs)
  go_enter Tryz.func74, Tryz.ntmps74
  go_wp2_with fail
  refine Calls.mono KC.out (fun e w1 hp => ?_)
  obtain ⟨rfl, hb⟩ := hp
  have KB := Kept.mk hb
  clear hb
  go_wp2
  go_ret
  exact ⟨rfl, KB.out⟩
theorem below_bytes (w : World) (e : TypeId) (s : ByteArray) : Below w.heap.size w (Lib.bytesWorld w e s) := Lib.bytesWorld_below w e s
theorem atoi_any (s : ByteArray) (w : World) (hg : Gl w) (hs : s.size ≤ 281474976710656) : Calls Tryz.prog 142 #[.string s] w fun e w' => ∃ x, e = .returned (.tuple #[.int .i64 (atoF s), x]) ∧ Below w.heap.size w w' := by
  unfold atoF
  cases h : Lib.atoiAll s.data.toList with
  | ok v =>
    refine (Tryz.strconv_Atoi_ok s (by omega) v h w).mono fun e w' hp => ⟨_, hp.1, ?_⟩
    rcases hp.2 with rfl | ⟨t, rfl⟩
    · exact Below.refl _ _
    · exact below_bytes w 5 t
  | «syntax» =>
    obtain ⟨te, pe, hv⟩ := hg.sy
    refine (Tryz.strconv_Atoi_syntax s hs h _ w hv (Or.inr ⟨te, pe, rfl⟩)).mono fun e w' hp => ?_
    obtain ⟨N, h1, -, -, h2⟩ := hp
    exact ⟨_, h1, h2⟩
  | range =>
    obtain ⟨te, pe, hv⟩ := hg.rg
    refine (Tryz.strconv_Atoi_range s hs h _ w hv (Or.inr ⟨te, pe, rfl⟩)).mono fun e w' hp => ?_
    obtain ⟨N, h1, -, -, h2⟩ := hp
    exact ⟨_, h1, h2⟩
set_option maxHeartbeats 1000000 in
set_option maxRecDepth 100000 in
theorem num_any (s : ByteArray) (w : World) (hg : Gl w) (hs : s.size ≤ 281474976710656) : Calls Tryz.prog 121 #[.string s] w fun e w' => e = .returned (.int .i64 (atoF s)) ∧ Below w.heap.size w w' := by
  have KA := Kept.mk (atoi_any s w hg hs)
  clear hg
  go_enter Tryz.func121, Tryz.ntmps121
  go_wp2_with fail
  refine Calls.mono KA.out (fun e w1 hp => ?_)
  obtain ⟨x, rfl, hb⟩ := hp
  have KB := Kept.mk hb
  clear hb
  go_wp2
  go_ret
  exact ⟨rfl, KB.out⟩

def IB (w : World) (b : Nat) (i : Idt) : Prop := w.heap[b]? = some (.cells #[.string i.nm, .string i.em, .int .i64 i.tm, .int .i64 i.zn] 38)
section
variable {w : World} {b : Nat} {i : Idt}
theorem IB.lt (h : IB w b i) : b < w.heap.size := by
  rcases Nat.lt_or_ge b w.heap.size with h' | h'
  · exact h'
  · unfold IB at h
    rw [Array.getElem?_eq_none h'] at h
    cases h
theorem IB.c0 (h : IB w b i) : w.cell? ⟨b, 0, none⟩ = some (.string i.nm) := by unfold IB at h; simp [World.cell?, h]
theorem IB.c1 (h : IB w b i) : w.cell? ⟨b, 1, none⟩ = some (.string i.em) := by unfold IB at h; simp [World.cell?, h]
theorem IB.c2 (h : IB w b i) : w.cell? ⟨b, 2, none⟩ = some (.int .i64 i.tm) := by unfold IB at h; simp [World.cell?, h]
theorem IB.c3 (h : IB w b i) : w.cell? ⟨b, 3, none⟩ = some (.int .i64 i.zn) := by unfold IB at h; simp [World.cell?, h]
theorem IB.fz (h : IB w b i) (k : Nat) : w.frozen? ⟨b, k, none⟩ = false := by unfold IB at h; simp [World.frozen?, h]
theorem IB.far {w' : World} (h : IB w b i) (hb : w'.heap[b]? = w.heap[b]?) : IB w' b i := by
  unfold IB at h ⊢
  rw [hb]
  exact h
theorem IB.s0 (h : IB w b i) (n : ByteArray) : IB (w.setCell ⟨b, 0, none⟩ (.string n)) b { i with nm := n } := by
  unfold IB at h ⊢
  simp only [World.setCell, Array.getElem?_modify, h]
  simp
theorem IB.s1 (h : IB w b i) (n : ByteArray) : IB (w.setCell ⟨b, 1, none⟩ (.string n)) b { i with em := n } := by
  unfold IB at h ⊢
  simp only [World.setCell, Array.getElem?_modify, h]
  simp
theorem IB.s2 (h : IB w b i) (n : Int) : IB (w.setCell ⟨b, 2, none⟩ (.int .i64 n)) b { i with tm := n } := by
  unfold IB at h ⊢
  simp only [World.setCell, Array.getElem?_modify, h]
  simp
theorem IB.s3 (h : IB w b i) (n : Int) : IB (w.setCell ⟨b, 3, none⟩ (.int .i64 n)) b { i with zn := n } := by
  unfold IB at h ⊢
  simp only [World.setCell, Array.getElem?_modify, h]
  simp
end
def c1B (s : ByteArray) (sep : List UInt8) : ByteArray := ⟨(Lib.cut s.data.toList sep).1.toArray⟩
def c2B (s : ByteArray) (sep : List UInt8) : ByteArray := ⟨(Lib.cut s.data.toList sep).2.1.toArray⟩
def rfF (s : ByteArray) : Idt :=
  ⟨c1B s [32, 60], c1B (c2B s [32, 60]) [62, 32], atoF (c1B (c2B (c2B s [32, 60]) [62, 32]) [32]),
    wrap64 (wrap64 (wrap64 ((atoF (c2B (c2B (c2B s [32, 60]) [62, 32]) [32])).tdiv 100) * 60) + (atoF (c2B (c2B (c2B s [32, 60]) [62, 32]) [32])).tmod 100)⟩
theorem cut_size (s : ByteArray) (sep : List UInt8) : (c1B s sep).size ≤ s.size ∧ (c2B s sep).size ≤ s.size := by
  unfold c1B c2B
  show (Lib.cut s.data.toList sep).1.toArray.size ≤ s.size ∧ (Lib.cut s.data.toList sep).2.1.toArray.size ≤ s.size
  rw [List.size_toArray, List.size_toArray, Lib.size_eq]
  unfold Lib.cut
  split
  · simp only [List.length_take, List.length_drop]
    omega
  · simp
theorem cut_any (s : ByteArray) (sep : Array UInt8) (w : World) (hg : Gl w) (hs : s.size < 4294967281) : Calls Tryz.prog 72 #[.string s, .string ⟨sep⟩] w fun e w' => ∃ f, e = .returned (.tuple #[.string (c1B s sep.toList), .string (c2B s sep.toList), .bool f]) ∧ ∃ n, w' = w.drewN n := by
  obtain ⟨m, hm⟩ := hg.mx
  exact (Tryz.strings_Cut s ⟨sep⟩ m w hs hm).mono fun e w' hp => ⟨_, hp.1, hp.2⟩


def idt0 : Idt := ⟨⟨#[]⟩, ⟨#[]⟩, 0, 0⟩
structure RF (w w' : World) (i : Idt) : Prop where
  ib : IB w' (w.heap.size + 1) i
  rb : IB w' w.heap.size idt0
  bel : Below w.heap.size w w'
section
variable {w w' w'' : World} {i : Idt}
theorem RF.later (h : RF w w' i) (hb : Below w'.heap.size w' w'') : RF w w'' i := ⟨h.ib.far (hb.block _ h.ib.lt), h.rb.far (hb.block _ h.rb.lt), h.bel.trans (hb.mono h.bel.size)⟩
theorem RF.drewN (h : RF w w' i) (n : Nat) : RF w (w'.drewN n) i := h.later (below_drewN (Below.refl _ _) n)
theorem RF.set (h : RF w w' i) {k : Nat} {v : Value} {j : Idt} (hi : IB (w'.setCell ⟨w.heap.size + 1, k, none⟩ v) (w.heap.size + 1) j) : RF w (w'.setCell ⟨w.heap.size + 1, k, none⟩ v) j :=
  ⟨hi, h.rb.far (Below.heap_setCell _ _ _ _ (by simp only; omega)), h.bel.setCell (by simp only; omega) v⟩
end
theorem rf_new (w : World) : ∃ w2, (w.alloc (.cells #[.string ⟨#[]⟩, .string ⟨#[]⟩, .int .i64 0, .int .i64 0] 38)).alloc (.cells #[.string ⟨#[]⟩, .string ⟨#[]⟩, .int .i64 0, .int .i64 0] 38) = w2 ∧ RF w w2 idt0 := by
  refine ⟨_, rfl, ?_, ?_, ((Below.refl _ _).alloc (Nat.le_refl _) _).alloc (by simp) _⟩
  · have := heap_alloc_new (w.alloc (.cells #[.string ⟨#[]⟩, .string ⟨#[]⟩, .int .i64 0, .int .i64 0] 38)) (.cells #[.string ⟨#[]⟩, .string ⟨#[]⟩, .int .i64 0, .int .i64 0] 38)
    rw [show (w.alloc (.cells #[.string ⟨#[]⟩, .string ⟨#[]⟩, .int .i64 0, .int .i64 0] 38)).heap.size = w.heap.size + 1 from by simp] at this
    exact this
  · unfold IB
    rw [Below.heap_alloc _ _ _ (by simp)]
    exact heap_alloc_new w _
set_option maxHeartbeats 4000000 in
set_option maxRecDepth 100000 in
theorem readFields_any (s : ByteArray) (w : World) (hg : Gl w) (hs : s.size < 4294967281) : Calls Tryz.prog 97 #[.string s] w fun e w' => e = .returned (rfF s).v ∧ Below w.heap.size w w' := by
  have z1 := cut_size s [32, 60]
  have z2 := cut_size (c2B s [32, 60]) [62, 32]
  have z3 := cut_size (c2B (c2B s [32, 60]) [62, 32]) [32]
  have KV : Kept ((rfF s).v = .agg #[.string (c1B s [32, 60]), .string (c1B (c2B s [32, 60]) [62, 32]), .int .i64 (atoF (c1B (c2B (c2B s [32, 60]) [62, 32]) [32])), .int .i64 (wrap64 (wrap64 (wrap64 ((atoF (c2B (c2B (c2B s [32, 60]) [62, 32]) [32])).tdiv 100) * 60) + (atoF (c2B (c2B (c2B s [32, 60]) [62, 32]) [32])).tmod 100))]) := ⟨rfl⟩
  have KC1 : Kept (∀ w', Gl w' → Calls Tryz.prog 72 #[.string s, .string ⟨#[32, 60]⟩] w' fun e w'' => ∃ f, e = .returned (.tuple #[.string (c1B s [32, 60]), .string (c2B s [32, 60]), .bool f]) ∧ ∃ n, w'' = w'.drewN n) := ⟨fun w' h => cut_any s #[32, 60] w' h hs⟩
  have KC2 : Kept (∀ w', Gl w' → Calls Tryz.prog 72 #[.string (c2B s [32, 60]), .string ⟨#[62, 32]⟩] w' fun e w'' => ∃ f, e = .returned (.tuple #[.string (c1B (c2B s [32, 60]) [62, 32]), .string (c2B (c2B s [32, 60]) [62, 32]), .bool f]) ∧ ∃ n, w'' = w'.drewN n) := ⟨fun w' h => cut_any _ #[62, 32] w' h (by omega)⟩
  have KC3 : Kept (∀ w', Gl w' → Calls Tryz.prog 72 #[.string (c2B (c2B s [32, 60]) [62, 32]), .string ⟨#[32]⟩] w' fun e w'' => ∃ f, e = .returned (.tuple #[.string (c1B (c2B (c2B s [32, 60]) [62, 32]) [32]), .string (c2B (c2B (c2B s [32, 60]) [62, 32]) [32]), .bool f]) ∧ ∃ n, w'' = w'.drewN n) := ⟨fun w' h => cut_any _ #[32] w' h (by omega)⟩
  have KL1 : Kept (∀ w', Calls Tryz.prog 74 #[.string (c1B s [32, 60])] w' fun e w'' => e = .returned (.string (c1B s [32, 60])) ∧ Below w'.heap.size w' w'') := ⟨fun w' => clone_any _ w' (by omega)⟩
  have KL2 : Kept (∀ w', Calls Tryz.prog 74 #[.string (c1B (c2B s [32, 60]) [62, 32])] w' fun e w'' => e = .returned (.string (c1B (c2B s [32, 60]) [62, 32])) ∧ Below w'.heap.size w' w'') := ⟨fun w' => clone_any _ w' (by omega)⟩
  have KN1 : Kept (∀ w', Gl w' → Calls Tryz.prog 121 #[.string (c1B (c2B (c2B s [32, 60]) [62, 32]) [32])] w' fun e w'' => e = .returned (.int .i64 (atoF (c1B (c2B (c2B s [32, 60]) [62, 32]) [32]))) ∧ Below w'.heap.size w' w'') := ⟨fun w' h => num_any _ w' h (by omega)⟩
  have KN2 : Kept (∀ w', Gl w' → Calls Tryz.prog 121 #[.string (c2B (c2B (c2B s [32, 60]) [62, 32]) [32])] w' fun e w'' => e = .returned (.int .i64 (atoF (c2B (c2B (c2B s [32, 60]) [62, 32]) [32]))) ∧ Below w'.heap.size w' w'') := ⟨fun w' h => num_any _ w' h (by omega)⟩
  clear z1 z2 z3
  generalize c1B (c2B (c2B s [32, 60]) [62, 32]) [32] = T at *
  generalize c2B (c2B (c2B s [32, 60]) [62, 32]) [32] = Z at *
  generalize c1B (c2B s [32, 60]) [62, 32] = E at *
  generalize c2B (c2B s [32, 60]) [62, 32] = R2 at *
  generalize c1B s [32, 60] = N at *
  generalize c2B s [32, 60] = R1 at *
  generalize atoF T = tm at *
  generalize atoF Z = zz at *
  have KG : Kept (∀ w', Below w.heap.size w w' → Gl w') := ⟨fun w' h => hg.later h⟩
  obtain ⟨w2, hw2, hF⟩ := rf_new w
  have KF := Kept.mk hF
  clear hg hF
  go_enter Tryz.func97, Tryz.ntmps97
  go_wp2_with fail
  refine Calls.mono (KC1.out w2 (KG.out _ KF.out.bel)) (fun e w3 hp => ?_)
  obtain ⟨f3, rfl, n3, rfl⟩ := hp
  have KF := Kept.mk (KF.out.drewN n3)
  obtain ⟨w3, hw3⟩ : ∃ w3, w2.drewN n3 = w3 := ⟨_, rfl⟩
  rw [hw3] at KF ⊢
  clear hw3 hw2
  go_wp2_with fail
  refine Calls.mono (KL1.out w3) (fun e w4 hp => ?_)
  obtain ⟨rfl, hb4⟩ := hp
  have hF := KF.out.later hb4
  have d0 := hF.ib.c0
  have e0 := hF.ib.fz 0
  have KF := Kept.mk (hF.set (hF.ib.s0 N))
  clear hb4 hF
  go_wp2_with fail
  obtain ⟨w5, hw5⟩ : ∃ w5, w4.setCell ⟨w.heap.size + 1, 0, none⟩ (.string N) = w5 := ⟨_, rfl⟩
  rw [hw5] at KF ⊢
  clear hw5 d0 e0
  refine Calls.mono (KC2.out w5 (KG.out _ KF.out.bel)) (fun e w6 hp => ?_)
  obtain ⟨f6, rfl, n6, rfl⟩ := hp
  have KF := Kept.mk (KF.out.drewN n6)
  obtain ⟨w6, hw6⟩ : ∃ w6, w5.drewN n6 = w6 := ⟨_, rfl⟩
  rw [hw6] at KF ⊢
  clear hw6
  go_wp2_with fail
  refine Calls.mono (KL2.out w6) (fun e w7 hp => ?_)
  obtain ⟨rfl, hb7⟩ := hp
  have hF := KF.out.later hb7
  have d1 := hF.ib.c1
  have e1 := hF.ib.fz 1
  have KF := Kept.mk (hF.set (hF.ib.s1 E))
  clear hb7 hF
  go_wp2_with fail
  obtain ⟨w8, hw8⟩ : ∃ w8, w7.setCell ⟨w.heap.size + 1, 1, none⟩ (.string E) = w8 := ⟨_, rfl⟩
  rw [hw8] at KF ⊢
  clear hw8 d1 e1
  refine Calls.mono (KC3.out w8 (KG.out _ KF.out.bel)) (fun e w9 hp => ?_)
  obtain ⟨f9, rfl, n9, rfl⟩ := hp
  have KF := Kept.mk (KF.out.drewN n9)
  obtain ⟨w9, hw9⟩ : ∃ w9, w8.drewN n9 = w9 := ⟨_, rfl⟩
  rw [hw9] at KF ⊢
  clear hw9
  go_wp2_with fail
  refine Calls.mono (KN1.out w9 (KG.out _ KF.out.bel)) (fun e w10 hp => ?_)
  obtain ⟨rfl, hb10⟩ := hp
  have hF := KF.out.later hb10
  have d2 := hF.ib.c2
  have e2 := hF.ib.fz 2
  have KF := Kept.mk (hF.set (hF.ib.s2 tm))
  clear hb10 hF
  go_wp2_with fail
  obtain ⟨w11, hw11⟩ : ∃ w11, w10.setCell ⟨w.heap.size + 1, 2, none⟩ (.int .i64 tm) = w11 := ⟨_, rfl⟩
  rw [hw11] at KF ⊢
  clear hw11 d2 e2
  refine Calls.mono (KN2.out w11 (KG.out _ KF.out.bel)) (fun e w12 hp => ?_)
  obtain ⟨rfl, hb12⟩ := hp
  have hF := KF.out.later hb12
  have d3 := hF.ib.c3
  have e3 := hF.ib.fz 3
  obtain ⟨Y, hY⟩ : ∃ Y, wrap64 (wrap64 (wrap64 (zz.tdiv 100) * 60) + zz.tmod 100) = Y := ⟨_, rfl⟩
  rw [hY] at KV
  have KF := Kept.mk (hF.set (hF.ib.s3 Y))
  clear hb12 hF
  go_upto_region 17 with fail
  obtain ⟨w13, hw13⟩ : ∃ w13, w12.setCell ⟨w.heap.size + 1, 3, none⟩ (.int .i64 Y) = w13 := ⟨_, rfl⟩
  rw [hY, hw13]
  rw [hw13] at KF
  have hF2 := KF.out
  have g0 : w13.cell? ⟨w.heap.size + 1, 0, none⟩ = some (.string N) := hF2.ib.c0
  have g1 : w13.cell? ⟨w.heap.size + 1, 1, none⟩ = some (.string E) := hF2.ib.c1
  have g2 : w13.cell? ⟨w.heap.size + 1, 2, none⟩ = some (.int .i64 tm) := hF2.ib.c2
  have g3 : w13.cell? ⟨w.heap.size + 1, 3, none⟩ = some (.int .i64 Y) := hF2.ib.c3
  have r0 := hF2.rb.c0
  have r1 := hF2.rb.c1
  have r2 := hF2.rb.c2
  have r3 := hF2.rb.c3
  have q0 := hF2.rb.fz 0
  have q1 := hF2.rb.fz 1
  have q2 := hF2.rb.fz 2
  have q3 := hF2.rb.fz 3
  clear hF2 hw13 d3 e3
  go_wp2
  obtain ⟨w14, hw14, hI14, hB14⟩ : ∃ w14, (((w13.setCell ⟨w.heap.size, 0, none⟩ (.string N)).setCell ⟨w.heap.size, 1, none⟩ (.string E)).setCell ⟨w.heap.size, 2, none⟩ (.int .i64 tm)).setCell ⟨w.heap.size, 3, none⟩ (.int .i64 Y) = w14 ∧ IB w14 w.heap.size ⟨N, E, tm, Y⟩ ∧ Below w.heap.size w w14 :=
    ⟨_, rfl, ((((KF.out.rb).s0 N).s1 E).s2 tm).s3 Y, (((KF.out.bel.setCell (Nat.le_refl _) _).setCell (Nat.le_refl _) _).setCell (Nat.le_refl _) _).setCell (Nat.le_refl _) _⟩
  rw [hw14]
  have g0 := hI14.c0
  have g1 := hI14.c1
  have g2 := hI14.c2
  have g3 := hI14.c3
  have KB14 := Kept.mk hB14
  clear hw14 hI14 hB14 r0 r1 r2 r3 q0 q1 q2 q3
  refine bodyPost_ret (v := .agg #[.string N, .string E, .int .i64 tm, .int .i64 Y]) (by simp [results, Tryz.results97, go_sem, g0, g1, g2, g3]) rfl ?_
  rw [KV.out]
  exact ⟨rfl, KB14.out⟩


def prsF (s : ByteArray) : Idt × Int := if idF (rfF s) = true ∧ putB (rfF s) = s then (rfF s, 0) else (idt0, 4)
theorem str_eq (s t : ByteArray) : (s.toList == t.toList) = decide (s = t) := by
  rw [Lib.toList_data, Lib.toList_data]
  by_cases h : s = t
  · subst h
    simp
  · have hd : ¬ s.data = t.data := fun e => h (by cases s; cases t; simp only at e; subst e; rfl)
    simp [h, hd]

set_option maxHeartbeats 2000000 in
set_option maxRecDepth 100000 in
theorem parseIdent_any (s : ByteArray) (w : World) (hg : Gl w) (hs : s.size < 4294967281) : Calls Tryz.prog 64 #[.string s] w fun e w' => e = .returned (.tuple #[(prsF s).1.v, .int .i64 (prsF s).2]) ∧ Below w.heap.size w w' := by
  obtain ⟨w1, hw1, hB1, hR1⟩ : ∃ w1, w.alloc (.cells #[.string ⟨#[]⟩, .string ⟨#[]⟩, .int .i64 0, .int .i64 0] 38) = w1 ∧ Below w.heap.size w w1 ∧ IB w1 w.heap.size idt0 := ⟨_, rfl, (Below.refl _ _).alloc (Nat.le_refl _) _, heap_alloc_new w _⟩
  have K1 := Kept.mk (readFields_any s w1 (hg.later hB1) hs)
  have KG : Kept (∀ w', Below w.heap.size w w' → Gl w') := ⟨fun w' h => hg.later h⟩
  obtain ⟨i, hi⟩ : ∃ i, rfF s = i := ⟨_, rfl⟩
  rw [hi] at K1
  have KP : Kept (∀ w', Gl w' → Calls Tryz.prog 32 #[i.v] w' fun e w2 => e = .returned (.tuple #[.string (putS i), .int .i64 (putE i)]) ∧ Below w'.heap.size w' w2) := ⟨fun w' h => putIdent_any i w' h⟩
  have KB1 := Kept.mk hB1
  have KR1 := Kept.mk hR1
  have hse := str_eq (putS i) s
  have KE : Kept (prsF s = if idF i = true ∧ putB i = s then (i, 0) else (idt0, 4)) := ⟨by unfold prsF; rw [hi]⟩
  have KPS : Kept (putE i = (if idF i = true then 0 else 3) ∧ putS i = (if idF i = true then putB i else .empty)) := ⟨rfl, rfl⟩
  clear hg hB1 hR1 hi
  by_cases hok : idF i = true
  · by_cases heq : putB i = s
    · have e1 : putE i = 0 := by rw [KPS.out.1, if_pos hok]
      have e2 : putS i = s := by rw [KPS.out.2, if_pos hok, heq]
      have KE2 : Kept (prsF s = (i, 0)) := ⟨by rw [KE.out, if_pos ⟨hok, heq⟩]⟩
      rw [e1, e2] at KP
      clear hse e1 e2 KPS hok heq
      obtain ⟨nm, em, tm, zn⟩ := i
      unfold Idt.v at K1 KP
      simp only at K1 KP
      go_enter Tryz.func64, Tryz.ntmps64
      go_wp2_with fail
      refine Calls.mono K1.out (fun e w2 hp => ?_)
      obtain ⟨rfl, hb2⟩ := hp
      have hbz := (Below.refl w2.heap.size w2).alloc (Nat.le_refl _) (.cells #[.string ⟨#[]⟩, .string ⟨#[]⟩, .int .i64 0, .int .i64 0] 38)
      obtain ⟨w3, hw3, hI3, hb3⟩ : ∃ w3, w2.alloc (.cells #[.string ⟨#[]⟩, .string ⟨#[]⟩, .int .i64 0, .int .i64 0] 38) = w3 ∧ IB w3 w2.heap.size idt0 ∧ Below w2.heap.size w2 w3 := ⟨_, rfl, heap_alloc_new w2 _, hbz⟩
      have c0 := hI3.c0
      have c1 := hI3.c1
      have c2 := hI3.c2
      have c3 := hI3.c3
      have f0 := hI3.fz 0
      have f1 := hI3.fz 1
      have f2 := hI3.fz 2
      have f3 := hI3.fz 3
      have hB2 := KB1.out.trans (hb2.mono KB1.out.size)
      have hR3 := (KR1.out.far (hb2.block _ KR1.out.lt)).far (hb3.block _ (Nat.lt_of_lt_of_le KR1.out.lt hb2.size))
      have hlt2 : w.heap.size < w2.heap.size := Nat.lt_of_lt_of_le KR1.out.lt hb2.size
      have KI3 := Kept.mk hI3
      have KR3 := Kept.mk hR3
      have KB3 := Kept.mk (hB2.trans (hb3.mono hB2.size))
      clear hb2 hbz hI3 hb3 hB2 hR3
      go_upto_region 2 with fail
      obtain ⟨w4, hw4, hI4, hR4, hB4⟩ : ∃ w4, (((w3.setCell ⟨w2.heap.size, 0, none⟩ (.string nm)).setCell ⟨w2.heap.size, 1, none⟩ (.string em)).setCell ⟨w2.heap.size, 2, none⟩ (.int .i64 tm)).setCell ⟨w2.heap.size, 3, none⟩ (.int .i64 zn) = w4 ∧ IB w4 w2.heap.size ⟨nm, em, tm, zn⟩ ∧ IB w4 w.heap.size idt0 ∧ Below w.heap.size w w4 := by
        have hne : ∀ k v (u : World), (u.setCell ⟨w2.heap.size, k, none⟩ v).heap[w.heap.size]? = u.heap[w.heap.size]? := fun k v u => Below.heap_setCell _ _ _ _ (by simp only; omega)
        have hle : w.heap.size ≤ w2.heap.size := by omega
        exact ⟨_, rfl, ((((KI3.out).s0 nm).s1 em).s2 tm).s3 zn, KR3.out.far (by rw [hne, hne, hne, hne]), (((KB3.out.setCell hle _).setCell hle _).setCell hle _).setCell hle _⟩
      rw [hw4]
      have d0 : w4.cell? ⟨w2.heap.size, 0, none⟩ = some (.string nm) := hI4.c0
      have d1 : w4.cell? ⟨w2.heap.size, 1, none⟩ = some (.string em) := hI4.c1
      have d2 : w4.cell? ⟨w2.heap.size, 2, none⟩ = some (.int .i64 tm) := hI4.c2
      have d3 : w4.cell? ⟨w2.heap.size, 3, none⟩ = some (.int .i64 zn) := hI4.c3
      have KI4 := Kept.mk hI4
      have KR4 := Kept.mk hR4
      have KB4 := Kept.mk hB4
      clear hw4 hw3 c0 c1 c2 c3 f0 f1 f2 f3 hI4 hR4 hB4 KI3 KR3 KB3
      go_wp2_with fail
      refine Calls.mono (KP.out w4 (KG.out _ KB4.out)) (fun e w5 hp => ?_)
      obtain ⟨rfl, hb5⟩ := hp
      have hI5 := KI4.out.far (hb5.block _ KI4.out.lt)
      have hR5 := KR4.out.far (hb5.block _ KR4.out.lt)
      have KB5 := Kept.mk (KB4.out.trans (hb5.mono KB4.out.size))
      have KR5 := Kept.mk hR5
      have d0 : w5.cell? ⟨w2.heap.size, 0, none⟩ = some (.string nm) := hI5.c0
      have d1 : w5.cell? ⟨w2.heap.size, 1, none⟩ = some (.string em) := hI5.c1
      have d2 : w5.cell? ⟨w2.heap.size, 2, none⟩ = some (.int .i64 tm) := hI5.c2
      have d3 : w5.cell? ⟨w2.heap.size, 3, none⟩ = some (.int .i64 zn) := hI5.c3
      have c0 := hR5.c0
      have c1 := hR5.c1
      have c2 := hR5.c2
      have c3 := hR5.c3
      have f0 := hR5.fz 0
      have f1 := hR5.fz 1
      have f2 := hR5.fz 2
      have f3 := hR5.fz 3
      clear hb5 hI5 hR5 KI4 KR4 KB4
      go_wp2
      obtain ⟨w6, hw6, hI6, hB6⟩ : ∃ w6, (((w5.setCell ⟨w.heap.size, 0, none⟩ (.string nm)).setCell ⟨w.heap.size, 1, none⟩ (.string em)).setCell ⟨w.heap.size, 2, none⟩ (.int .i64 tm)).setCell ⟨w.heap.size, 3, none⟩ (.int .i64 zn) = w6 ∧ IB w6 w.heap.size ⟨nm, em, tm, zn⟩ ∧ Below w.heap.size w w6 :=
        ⟨_, rfl, ((((KR5.out).s0 nm).s1 em).s2 tm).s3 zn, (((KB5.out.setCell (Nat.le_refl _) _).setCell (Nat.le_refl _) _).setCell (Nat.le_refl _) _).setCell (Nat.le_refl _) _⟩
      rw [hw6]
      have g0 : w6.cell? ⟨w.heap.size, 0, none⟩ = some (.string nm) := hI6.c0
      have g1 : w6.cell? ⟨w.heap.size, 1, none⟩ = some (.string em) := hI6.c1
      have g2 : w6.cell? ⟨w.heap.size, 2, none⟩ = some (.int .i64 tm) := hI6.c2
      have g3 : w6.cell? ⟨w.heap.size, 3, none⟩ = some (.int .i64 zn) := hI6.c3
      have KB6 := Kept.mk hB6
      clear hw6 hI6 hB6 c0 c1 c2 c3 f0 f1 f2 f3 d0 d1 d2 d3
      refine bodyPost_ret (v := .tuple #[.agg #[.string nm, .string em, .int .i64 tm, .int .i64 zn], .int .i64 0]) (by simp [results, Tryz.results64, go_sem, g0, g1, g2, g3]) rfl ?_
      rw [KE2.out]
      exact ⟨rfl, KB6.out⟩
    · have e1 : putE i = 0 := by rw [KPS.out.1, if_pos hok]
      have e2 : putS i = putB i := by rw [KPS.out.2, if_pos hok]
      have KE2 : Kept (prsF s = (idt0, 4)) := ⟨by rw [KE.out, if_neg (fun h => heq h.2)]⟩
      rw [e1] at KP
      have hne : ¬ putS i = s := by rw [e2]; exact heq
      rw [decide_eq_false hne] at hse
      generalize putS i = P at *
      clear e1 e2 KPS hok heq hne
      obtain ⟨nm, em, tm, zn⟩ := i
      unfold Idt.v at K1 KP
      simp only at K1 KP
      go_enter Tryz.func64, Tryz.ntmps64
      go_wp2_with fail
      refine Calls.mono K1.out (fun e w2 hp => ?_)
      obtain ⟨rfl, hb2⟩ := hp
      have hbz := (Below.refl w2.heap.size w2).alloc (Nat.le_refl _) (.cells #[.string ⟨#[]⟩, .string ⟨#[]⟩, .int .i64 0, .int .i64 0] 38)
      obtain ⟨w3, hw3, hI3, hb3⟩ : ∃ w3, w2.alloc (.cells #[.string ⟨#[]⟩, .string ⟨#[]⟩, .int .i64 0, .int .i64 0] 38) = w3 ∧ IB w3 w2.heap.size idt0 ∧ Below w2.heap.size w2 w3 := ⟨_, rfl, heap_alloc_new w2 _, hbz⟩
      have c0 := hI3.c0
      have c1 := hI3.c1
      have c2 := hI3.c2
      have c3 := hI3.c3
      have f0 := hI3.fz 0
      have f1 := hI3.fz 1
      have f2 := hI3.fz 2
      have f3 := hI3.fz 3
      have hB2 := KB1.out.trans (hb2.mono KB1.out.size)
      have hR3 := (KR1.out.far (hb2.block _ KR1.out.lt)).far (hb3.block _ (Nat.lt_of_lt_of_le KR1.out.lt hb2.size))
      have hlt2 : w.heap.size < w2.heap.size := Nat.lt_of_lt_of_le KR1.out.lt hb2.size
      have KI3 := Kept.mk hI3
      have KR3 := Kept.mk hR3
      have KB3 := Kept.mk (hB2.trans (hb3.mono hB2.size))
      clear hb2 hbz hI3 hb3 hB2 hR3
      go_upto_region 2 with fail
      obtain ⟨w4, hw4, hI4, hR4, hB4⟩ : ∃ w4, (((w3.setCell ⟨w2.heap.size, 0, none⟩ (.string nm)).setCell ⟨w2.heap.size, 1, none⟩ (.string em)).setCell ⟨w2.heap.size, 2, none⟩ (.int .i64 tm)).setCell ⟨w2.heap.size, 3, none⟩ (.int .i64 zn) = w4 ∧ IB w4 w2.heap.size ⟨nm, em, tm, zn⟩ ∧ IB w4 w.heap.size idt0 ∧ Below w.heap.size w w4 := by
        have hne : ∀ k v (u : World), (u.setCell ⟨w2.heap.size, k, none⟩ v).heap[w.heap.size]? = u.heap[w.heap.size]? := fun k v u => Below.heap_setCell _ _ _ _ (by simp only; omega)
        have hle : w.heap.size ≤ w2.heap.size := by omega
        exact ⟨_, rfl, ((((KI3.out).s0 nm).s1 em).s2 tm).s3 zn, KR3.out.far (by rw [hne, hne, hne, hne]), (((KB3.out.setCell hle _).setCell hle _).setCell hle _).setCell hle _⟩
      rw [hw4]
      have d0 : w4.cell? ⟨w2.heap.size, 0, none⟩ = some (.string nm) := hI4.c0
      have d1 : w4.cell? ⟨w2.heap.size, 1, none⟩ = some (.string em) := hI4.c1
      have d2 : w4.cell? ⟨w2.heap.size, 2, none⟩ = some (.int .i64 tm) := hI4.c2
      have d3 : w4.cell? ⟨w2.heap.size, 3, none⟩ = some (.int .i64 zn) := hI4.c3
      have KI4 := Kept.mk hI4
      have KR4 := Kept.mk hR4
      have KB4 := Kept.mk hB4
      clear hw4 hw3 c0 c1 c2 c3 f0 f1 f2 f3 hI4 hR4 hB4 KI3 KR3 KB3
      go_wp2_with fail
      refine Calls.mono (KP.out w4 (KG.out _ KB4.out)) (fun e w5 hp => ?_)
      obtain ⟨rfl, hb5⟩ := hp
      have hI5 := KI4.out.far (hb5.block _ KI4.out.lt)
      have hR5 := KR4.out.far (hb5.block _ KR4.out.lt)
      have KB5 := Kept.mk (KB4.out.trans (hb5.mono KB4.out.size))
      have KR5 := Kept.mk hR5
      have d0 : w5.cell? ⟨w2.heap.size, 0, none⟩ = some (.string nm) := hI5.c0
      have d1 : w5.cell? ⟨w2.heap.size, 1, none⟩ = some (.string em) := hI5.c1
      have d2 : w5.cell? ⟨w2.heap.size, 2, none⟩ = some (.int .i64 tm) := hI5.c2
      have d3 : w5.cell? ⟨w2.heap.size, 3, none⟩ = some (.int .i64 zn) := hI5.c3
      have c0 := hR5.c0
      have c1 := hR5.c1
      have c2 := hR5.c2
      have c3 := hR5.c3
      have f0 := hR5.fz 0
      have f1 := hR5.fz 1
      have f2 := hR5.fz 2
      have f3 := hR5.fz 3
      clear hb5 hI5 hR5 KI4 KR4 KB4
      go_wp2
      obtain ⟨w6, hw6, hI6, hB6⟩ : ∃ w6, (((w5.setCell ⟨w.heap.size, 0, none⟩ (.string ⟨#[]⟩)).setCell ⟨w.heap.size, 1, none⟩ (.string ⟨#[]⟩)).setCell ⟨w.heap.size, 2, none⟩ (.int .i64 0)).setCell ⟨w.heap.size, 3, none⟩ (.int .i64 0) = w6 ∧ IB w6 w.heap.size ⟨⟨#[]⟩, ⟨#[]⟩, 0, 0⟩ ∧ Below w.heap.size w w6 :=
        ⟨_, rfl, ((((KR5.out).s0 ⟨#[]⟩).s1 ⟨#[]⟩).s2 0).s3 0, (((KB5.out.setCell (Nat.le_refl _) _).setCell (Nat.le_refl _) _).setCell (Nat.le_refl _) _).setCell (Nat.le_refl _) _⟩
      rw [hw6]
      have g0 : w6.cell? ⟨w.heap.size, 0, none⟩ = some (.string ⟨#[]⟩) := hI6.c0
      have g1 : w6.cell? ⟨w.heap.size, 1, none⟩ = some (.string ⟨#[]⟩) := hI6.c1
      have g2 : w6.cell? ⟨w.heap.size, 2, none⟩ = some (.int .i64 0) := hI6.c2
      have g3 : w6.cell? ⟨w.heap.size, 3, none⟩ = some (.int .i64 0) := hI6.c3
      have KB6 := Kept.mk hB6
      clear hw6 hI6 hB6 c0 c1 c2 c3 f0 f1 f2 f3 d0 d1 d2 d3
      refine bodyPost_ret (v := .tuple #[.agg #[.string ⟨#[]⟩, .string ⟨#[]⟩, .int .i64 0, .int .i64 0], .int .i64 4]) (by simp [results, Tryz.results64, go_sem, g0, g1, g2, g3]) rfl ?_
      rw [KE2.out]
      exact ⟨rfl, KB6.out⟩
  · have e1 : putE i = 3 := by rw [KPS.out.1, if_neg hok]
    have KE2 : Kept (prsF s = (idt0, 4)) := ⟨by rw [KE.out, if_neg (fun h => hok h.1)]⟩
    rw [e1] at KP
    generalize putS i = P at *
    clear e1 KPS hok hse
    obtain ⟨nm, em, tm, zn⟩ := i
    unfold Idt.v at K1 KP
    simp only at K1 KP
    go_enter Tryz.func64, Tryz.ntmps64
    go_wp2_with fail
    refine Calls.mono K1.out (fun e w2 hp => ?_)
    obtain ⟨rfl, hb2⟩ := hp
    have hbz := (Below.refl w2.heap.size w2).alloc (Nat.le_refl _) (.cells #[.string ⟨#[]⟩, .string ⟨#[]⟩, .int .i64 0, .int .i64 0] 38)
    obtain ⟨w3, hw3, hI3, hb3⟩ : ∃ w3, w2.alloc (.cells #[.string ⟨#[]⟩, .string ⟨#[]⟩, .int .i64 0, .int .i64 0] 38) = w3 ∧ IB w3 w2.heap.size idt0 ∧ Below w2.heap.size w2 w3 := ⟨_, rfl, heap_alloc_new w2 _, hbz⟩
    have c0 := hI3.c0
    have c1 := hI3.c1
    have c2 := hI3.c2
    have c3 := hI3.c3
    have f0 := hI3.fz 0
    have f1 := hI3.fz 1
    have f2 := hI3.fz 2
    have f3 := hI3.fz 3
    have hB2 := KB1.out.trans (hb2.mono KB1.out.size)
    have hR3 := (KR1.out.far (hb2.block _ KR1.out.lt)).far (hb3.block _ (Nat.lt_of_lt_of_le KR1.out.lt hb2.size))
    have hlt2 : w.heap.size < w2.heap.size := Nat.lt_of_lt_of_le KR1.out.lt hb2.size
    have KI3 := Kept.mk hI3
    have KR3 := Kept.mk hR3
    have KB3 := Kept.mk (hB2.trans (hb3.mono hB2.size))
    clear hb2 hbz hI3 hb3 hB2 hR3
    go_upto_region 2 with fail
    obtain ⟨w4, hw4, hI4, hR4, hB4⟩ : ∃ w4, (((w3.setCell ⟨w2.heap.size, 0, none⟩ (.string nm)).setCell ⟨w2.heap.size, 1, none⟩ (.string em)).setCell ⟨w2.heap.size, 2, none⟩ (.int .i64 tm)).setCell ⟨w2.heap.size, 3, none⟩ (.int .i64 zn) = w4 ∧ IB w4 w2.heap.size ⟨nm, em, tm, zn⟩ ∧ IB w4 w.heap.size idt0 ∧ Below w.heap.size w w4 := by
      have hne : ∀ k v (u : World), (u.setCell ⟨w2.heap.size, k, none⟩ v).heap[w.heap.size]? = u.heap[w.heap.size]? := fun k v u => Below.heap_setCell _ _ _ _ (by simp only; omega)
      have hle : w.heap.size ≤ w2.heap.size := by omega
      exact ⟨_, rfl, ((((KI3.out).s0 nm).s1 em).s2 tm).s3 zn, KR3.out.far (by rw [hne, hne, hne, hne]), (((KB3.out.setCell hle _).setCell hle _).setCell hle _).setCell hle _⟩
    rw [hw4]
    have d0 : w4.cell? ⟨w2.heap.size, 0, none⟩ = some (.string nm) := hI4.c0
    have d1 : w4.cell? ⟨w2.heap.size, 1, none⟩ = some (.string em) := hI4.c1
    have d2 : w4.cell? ⟨w2.heap.size, 2, none⟩ = some (.int .i64 tm) := hI4.c2
    have d3 : w4.cell? ⟨w2.heap.size, 3, none⟩ = some (.int .i64 zn) := hI4.c3
    have KI4 := Kept.mk hI4
    have KR4 := Kept.mk hR4
    have KB4 := Kept.mk hB4
    clear hw4 hw3 c0 c1 c2 c3 f0 f1 f2 f3 hI4 hR4 hB4 KI3 KR3 KB3
    go_wp2_with fail
    refine Calls.mono (KP.out w4 (KG.out _ KB4.out)) (fun e w5 hp => ?_)
    obtain ⟨rfl, hb5⟩ := hp
    have hI5 := KI4.out.far (hb5.block _ KI4.out.lt)
    have hR5 := KR4.out.far (hb5.block _ KR4.out.lt)
    have KB5 := Kept.mk (KB4.out.trans (hb5.mono KB4.out.size))
    have KR5 := Kept.mk hR5
    have d0 : w5.cell? ⟨w2.heap.size, 0, none⟩ = some (.string nm) := hI5.c0
    have d1 : w5.cell? ⟨w2.heap.size, 1, none⟩ = some (.string em) := hI5.c1
    have d2 : w5.cell? ⟨w2.heap.size, 2, none⟩ = some (.int .i64 tm) := hI5.c2
    have d3 : w5.cell? ⟨w2.heap.size, 3, none⟩ = some (.int .i64 zn) := hI5.c3
    have c0 := hR5.c0
    have c1 := hR5.c1
    have c2 := hR5.c2
    have c3 := hR5.c3
    have f0 := hR5.fz 0
    have f1 := hR5.fz 1
    have f2 := hR5.fz 2
    have f3 := hR5.fz 3
    clear hb5 hI5 hR5 KI4 KR4 KB4
    go_wp2
    obtain ⟨w6, hw6, hI6, hB6⟩ : ∃ w6, (((w5.setCell ⟨w.heap.size, 0, none⟩ (.string ⟨#[]⟩)).setCell ⟨w.heap.size, 1, none⟩ (.string ⟨#[]⟩)).setCell ⟨w.heap.size, 2, none⟩ (.int .i64 0)).setCell ⟨w.heap.size, 3, none⟩ (.int .i64 0) = w6 ∧ IB w6 w.heap.size ⟨⟨#[]⟩, ⟨#[]⟩, 0, 0⟩ ∧ Below w.heap.size w w6 :=
      ⟨_, rfl, ((((KR5.out).s0 ⟨#[]⟩).s1 ⟨#[]⟩).s2 0).s3 0, (((KB5.out.setCell (Nat.le_refl _) _).setCell (Nat.le_refl _) _).setCell (Nat.le_refl _) _).setCell (Nat.le_refl _) _⟩
    rw [hw6]
    have g0 : w6.cell? ⟨w.heap.size, 0, none⟩ = some (.string ⟨#[]⟩) := hI6.c0
    have g1 : w6.cell? ⟨w.heap.size, 1, none⟩ = some (.string ⟨#[]⟩) := hI6.c1
    have g2 : w6.cell? ⟨w.heap.size, 2, none⟩ = some (.int .i64 0) := hI6.c2
    have g3 : w6.cell? ⟨w.heap.size, 3, none⟩ = some (.int .i64 0) := hI6.c3
    have KB6 := Kept.mk hB6
    clear hw6 hI6 hB6 c0 c1 c2 c3 f0 f1 f2 f3 d0 d1 d2 d3
    refine bodyPost_ret (v := .tuple #[.agg #[.string ⟨#[]⟩, .string ⟨#[]⟩, .int .i64 0, .int .i64 0], .int .i64 4]) (by simp [results, Tryz.results64, go_sem, g0, g1, g2, g3]) rfl ?_
    rw [KE2.out]
    exact ⟨rfl, KB6.out⟩
end Go.Proofs.YtkbalngddlhlpaaGreatDoor
