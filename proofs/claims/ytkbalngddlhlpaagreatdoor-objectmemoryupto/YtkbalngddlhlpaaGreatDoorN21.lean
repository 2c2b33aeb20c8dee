/-
  Walks of the document: Has, plain, Ident.
-/
import Derived.Test.YtkbalngddlhlpaaGreatDoorN15
import Derived.Lib.SlBytesRow
namespace Go.Proofs.YtkbalngddlhlpaaGreatDoor
open Go.RowKit

def sN (s : ByteArray) (i : Nat) : Int := ((s.data.getD i 0).toNat : Int)
theorem sN_range (s : ByteArray) (i : Nat) : 0 ≤ sN s i ∧ sN s i < 256 := by
  unfold sN
  have := (s.data.getD i 0).toNat_lt
  omega
theorem run_index_text (w : World) (s : ByteArray) (k : IntKind) (i : Nat) (hi : i < s.size) : (Instr.index 9 (.string s) (.int k i)).run Tryz.prog w = .ok (.int .u8 (sN s i)) w := by
  rw [run_index_string (P := Tryz.prog) (t := 9) (s := s) (k := k) (i := (i : Int)) (h := Tryz.underlying9)]
  rw [dif_pos ⟨by omega, by omega⟩]
  have e : s[((i : Int)).toNat]'(by omega) = s.data.getD i 0 := by
    simp only [Array.getD, Int.toNat_natCast]
    rw [dif_pos (show i < s.data.size from hi)]
    rfl
  rw [e]
  rfl
def hasF (s : ByteArray) (c : UInt8) : Bool := s.data.toList.contains c
theorem sN_eq (s : ByteArray) (c : UInt8) {i : Nat} (hi : i < s.size) : sN s i = (c.toNat : Int) ↔ s.data.toList[i]? = some c := by
  unfold sN
  have hi' : i < s.data.size := hi
  have e : s.data.toList[i]? = some (s.data.getD i 0) := by
    rw [Array.getElem?_toList, Array.getElem?_eq_getElem hi', Array.getD, dif_pos hi']; rfl
  rw [e]
  constructor
  · intro h
    congr 1
    exact UInt8.toNat_inj.1 (by omega)
  · intro h
    rw [Option.some.inj h]
theorem has_yes (s : ByteArray) (c : UInt8) {i : Nat} (hi : i < s.size) (h : sN s i = (c.toNat : Int)) : hasF s c = true := by
  have := (sN_eq s c hi).1 h
  unfold hasF
  rw [List.contains_iff_mem]
  exact List.mem_of_getElem? this
theorem has_no (s : ByteArray) (c : UInt8) (h : ∀ i, i < s.size → sN s i ≠ (c.toNat : Int)) : hasF s c = false := by
  unfold hasF
  cases e : s.data.toList.contains c with
  | false => rfl
  | true =>
    exfalso
    have hm := List.contains_iff_mem.1 e
    obtain ⟨i, hi, he⟩ := List.getElem_of_mem hm
    have hi' : i < s.size := by simpa using hi
    exact h i hi' ((sN_eq s c hi').2 (by rw [List.getElem?_eq_getElem hi, he]))

set_option maxHeartbeats 1000000 in
set_option maxRecDepth 100000 in
theorem has_any (s : ByteArray) (c : UInt8) (b : Int) (hb : b = (c.toNat : Int)) (w : World) (hs : s.size < 9223372036854775807) : Calls Tryz.prog 105 #[.string s, .int .u8 b] w fun e w' => e = .returned (.bool (hasF s c)) ∧ Below w.heap.size w w' := by
  have KY : Kept (∀ i, i < s.size → sN s i = b → hasF s c = true) := ⟨fun i hi h => has_yes s c hi (by rw [h, hb])⟩
  have KN : Kept ((∀ i, i < s.size → sN s i ≠ b) → hasF s c = false) := ⟨fun h => has_no s c (by rw [← hb]; exact h)⟩
  clear hb
  go_enter Tryz.func105, Tryz.ntmps105
  go_wp2
  go_loopw [5] (fun iv wr => ∃ k : Nat, k ≤ s.size ∧ iv = .int .i64 k ∧ wr = w ∧ ∀ j, j < k → sN s j ≠ b) (fun iv _ => s.size - (intOf iv).toNat)
  case atStart => exact ⟨0, by omega, rfl, rfl, fun j hj => by omega⟩
  case round =>
    obtain ⟨k, hk, rfl, rfl, hp⟩ := hrel
    have KP := Kept.mk hp
    clear hp
    by_cases hlt : k < s.size
    · have hd : ((k : Int) < (s.size : Int)) := by omega
      have hi := run_index_text wr s .i64 k hlt
      by_cases hx : sN s k = b
      · have KE := Kept.mk (KY.out k hlt hx)
        rw [hx] at hi
        clear hx
        go_wp2
        go_ret
        exact ⟨by rw [KE.out]; rfl, Below.refl _ _⟩
      · have KX := Kept.mk hx
        have hxb : (sN s k == b) = false := by simpa using hx
        generalize sN s k = x at hi hxb
        clear hx
        go_wp2
        refine ⟨⟨k + 1, by omega, by simp, trivial, fun j hj => ?_⟩, by simp [intOf]; omega⟩
        rcases Nat.lt_or_ge j k with h' | h'
        · exact KP.out j h'
        · rw [show j = k by omega]
          exact KX.out
    · have hd : ¬ ((k : Int) < (s.size : Int)) := by omega
      have KE := Kept.mk (KN.out (fun i hi => KP.out i (by omega)))
      go_wp2
      go_ret
      exact ⟨by rw [KE.out]; rfl, Below.refl _ _⟩

theorem any_no (chars : List UInt8) : ∀ (l : List UInt8), (∀ b ∈ l, b ∉ chars) → Lib.containsAny l chars = false
  | [], _ => by simp [Lib.containsAny, Lib.indexAny]
  | x :: l, h => by
    have ih := any_no chars l (fun b hb => h b (List.mem_cons_of_mem _ hb))
    unfold Lib.containsAny at ih ⊢
    have ih := of_decide_eq_false ih
    have hg := Lib.indexAny_ge chars l
    refine decide_eq_false ?_
    unfold Lib.indexAny
    rw [if_neg (by simpa using h x List.mem_cons_self), if_pos (by have : Lib.indexAny l chars = -1 := by omega
                                                                   simp [this])]
    omega
theorem who_has (s : ByteArray) : whoF s = (decide (s.size ≤ 100) && !hasF s 0 && !hasF s 10 && !hasF s 60 && !hasF s 62) := by
  unfold whoF hasF
  cases e : Lib.containsAny s.data.toList [0, 10, 60, 62] with
  | false =>
    have h := any_mem _ _ e
    have g : ∀ c ∈ ([0, 10, 60, 62] : List UInt8), s.data.toList.contains c = false := fun c hc => by
      cases e' : s.data.toList.contains c with
      | false => rfl
      | true => exact absurd hc (h c (List.contains_iff_mem.1 e'))
    rw [g 0 (by simp), g 10 (by simp), g 60 (by simp), g 62 (by simp)]
    simp
  | true =>
    cases e2 : (decide (s.size ≤ 100) && !s.data.toList.contains 0 && !s.data.toList.contains 10 && !s.data.toList.contains 60 && !s.data.toList.contains 62) with
    | false => simp
    | true =>
      exfalso
      simp only [Bool.and_eq_true, Bool.not_eq_true', decide_eq_true_eq] at e2
      obtain ⟨⟨⟨⟨_, a0⟩, a1⟩, a2⟩, a3⟩ := e2
      have := any_no [0, 10, 60, 62] s.data.toList (fun b hb hc => by
        have hb' := List.contains_iff_mem.2 hb
        simp only [List.mem_cons, List.not_mem_nil, or_false] at hc
        rcases hc with rfl | rfl | rfl | rfl
        · rw [a0] at hb'; cases hb'
        · rw [a1] at hb'; cases hb'
        · rw [a2] at hb'; cases hb'
        · rw [a3] at hb'; cases hb')
      rw [this] at e
      cases e

set_option maxHeartbeats 1000000 in
set_option maxRecDepth 100000 in
theorem plain_any (s : ByteArray) (w : World) : Calls Tryz.prog 108 #[.string s] w fun e w' => e = .returned (.bool (whoF s)) ∧ Below w.heap.size w w' := by
  rw [who_has]
  by_cases h : s.size ≤ 100
  · have hd : decide ((s.size : Int) ≤ 100) = true := by simp; omega
    have K0 : Kept (∀ w, Calls Tryz.prog 105 #[.string s, .int .u8 0] w fun e w' => e = .returned (.bool (hasF s 0)) ∧ Below w.heap.size w w') := ⟨fun w => has_any s 0 0 rfl w (by omega)⟩
    have K1 : Kept (∀ w, Calls Tryz.prog 105 #[.string s, .int .u8 10] w fun e w' => e = .returned (.bool (hasF s 10)) ∧ Below w.heap.size w w') := ⟨fun w => has_any s 10 10 rfl w (by omega)⟩
    have K2 : Kept (∀ w, Calls Tryz.prog 105 #[.string s, .int .u8 60] w fun e w' => e = .returned (.bool (hasF s 60)) ∧ Below w.heap.size w w') := ⟨fun w => has_any s 60 60 rfl w (by omega)⟩
    have K3 : Kept (∀ w, Calls Tryz.prog 105 #[.string s, .int .u8 62] w fun e w' => e = .returned (.bool (hasF s 62)) ∧ Below w.heap.size w w') := ⟨fun w => has_any s 62 62 rfl w (by omega)⟩
    rw [decide_eq_true h]
    generalize hasF s 0 = q0 at *
    generalize hasF s 10 = q1 at *
    generalize hasF s 60 = q2 at *
    generalize hasF s 62 = q3 at *
    go_enter Tryz.func108, Tryz.ntmps108
    go_wp2_with fail
    refine Calls.mono (K0.out w) (fun e w1 hp => ?_)
    obtain ⟨rfl, hb⟩ := hp
    have KB1 := Kept.mk hb
    clear hb K0
    cases q0
    · go_wp2_with fail
      refine Calls.mono (K1.out w1) (fun e w2 hp => ?_)
      obtain ⟨rfl, hb⟩ := hp
      have KB2 := Kept.mk (KB1.out.trans (hb.mono KB1.out.size))
      clear hb K1 KB1
      cases q1
      · go_wp2_with fail
        refine Calls.mono (K2.out w2) (fun e w3 hp => ?_)
        obtain ⟨rfl, hb⟩ := hp
        have KB3 := Kept.mk (KB2.out.trans (hb.mono KB2.out.size))
        clear hb K2 KB2
        cases q2
        · go_wp2_with fail
          refine Calls.mono (K3.out w3) (fun e w4 hp => ?_)
          obtain ⟨rfl, hb⟩ := hp
          have KB4 := Kept.mk (KB3.out.trans (hb.mono KB3.out.size))
          clear hb K3 KB3
          go_wp2
          go_ret
          exact ⟨by cases q3 <;> rfl, KB4.out⟩
        · go_wp2
          go_ret
          exact ⟨rfl, KB3.out⟩
      · go_wp2
        go_ret
        exact ⟨rfl, KB2.out⟩
    · go_wp2
      go_ret
      exact ⟨rfl, KB1.out⟩
  · have hd : decide ((s.size : Int) ≤ 100) = false := by simp; omega
    rw [decide_eq_false h]
    go_enter Tryz.func108, Tryz.ntmps108
    go_wp2
    go_ret
    exact ⟨rfl, Below.refl _ _⟩

set_option maxHeartbeats 1000000 in
set_option maxRecDepth 100000 in
theorem rident_any (i : Idt) (w : World) : Calls Tryz.prog 84 #[i.v] w fun e w' => e = .returned (.bool (idF i)) ∧ Below w.heap.size w w' := by
  obtain ⟨nm, em, tm, zn⟩ := i
  unfold Idt.v idF
  simp only
  have KW1 := plain_any nm
  have KW2 := plain_any em
  obtain ⟨w1, hw1, hB1, -, hc⟩ := box_ident w ⟨nm, em, tm, zn⟩
  simp only at hw1 hc
  have KC := Kept.mk hc
  have KB1 := Kept.mk hB1
  have d0 := (hc w1 (Below.refl _ _)).1
  clear hc hB1
  generalize whoF nm = q1 at *
  generalize whoF em = q2 at *
  have K1 := Kept.mk (KW1 w1)
  have K2 := Kept.mk KW2
  clear KW1 KW2
  cases q1
  · go_enter Tryz.func84, Tryz.ntmps84
    go_wp2_with fail
    refine Calls.mono K1.out (fun e w2 hp => ?_)
    obtain ⟨rfl, hb2⟩ := hp
    have KB2 := Kept.mk (KB1.out.trans (hb2.mono KB1.out.size))
    clear hb2
    go_wp2
    go_ret
    exact ⟨rfl, KB2.out⟩
  · go_enter Tryz.func84, Tryz.ntmps84
    go_wp2_with fail
    refine Calls.mono K1.out (fun e w2 hp => ?_)
    obtain ⟨rfl, hb2⟩ := hp
    have d1 := (KC.out w2 hb2).2.1
    have K2 := Kept.mk (K2.out w2)
    have KB2 := Kept.mk (KB1.out.trans (hb2.mono KB1.out.size))
    have KB12 := Kept.mk hb2
    clear hb2 d0
    go_wp2_with fail
    refine Calls.mono K2.out (fun e w3 hp => ?_)
    obtain ⟨rfl, hb3⟩ := hp
    obtain ⟨-, -, d2, d3⟩ := KC.out w3 (KB12.out.trans (hb3.mono KB12.out.size))
    have KB3 := Kept.mk (KB2.out.trans (hb3.mono KB2.out.size))
    clear hb3 d1
    cases q2
    · go_wp2
      go_ret
      exact ⟨rfl, KB3.out⟩
    · by_cases h1 : 0 ≤ tm
      · by_cases h2 : tm ≤ 1099511627776
        · by_cases h3 : -1439 ≤ zn
          · go_wp2
            go_ret
            exact ⟨by simp [h1, h2, h3], KB3.out⟩
          · go_wp2
            go_ret
            exact ⟨by simp; omega, KB3.out⟩
        · go_wp2
          go_ret
          exact ⟨by simp; omega, KB3.out⟩
      · go_wp2
        go_ret
        exact ⟨by simp; omega, KB3.out⟩


def twoB (n : Nat) : ByteArray := ⟨#[UInt8.ofNat (48 + n / 10), UInt8.ofNat (48 + n % 10)]⟩

theorem two_str (n : Nat) (hn : n < 100) (w : World) : (convert 27 9 (.slice (some ⟨w.heap.size, 0, none⟩) 2 2)).run Tryz.prog (w.alloc (.cells #[.int .u8 (48 + (n : Int) / 10), .int .u8 (48 + (n : Int) % 10)] 5)) = .ok (.string (twoB n)) (w.alloc (.cells #[.int .u8 (48 + (n : Int) / 10), .int .u8 (48 + (n : Int) % 10)] 5)) := by
  have h := heap_alloc_new w (.cells #[.int .u8 (48 + (n : Int) / 10), .int .u8 (48 + (n : Int) % 10)] 5)
  refine Lib.run_convert_whole (P := Tryz.prog) _ 27 5 9 Tryz.underlying27 Tryz.underlying5 Tryz.underlying9 w.heap.size 0 (twoB n) (fun i hi => ?_) 2
  have hi : i < 2 := hi
  have e1 := dig_nat (show n / 10 < 10 by omega)
  have e2 := dig_nat (show n % 10 < 10 by omega)
  unfold World.cell?
  simp only [h]
  match i, hi with
  | 0, _ => show some (Value.int .u8 (48 + (n : Int) / 10)) = some (.int .u8 ((UInt8.ofNat (48 + n / 10)).toNat : Int)); rw [e1]; congr 2
  | 1, _ => show some (Value.int .u8 (48 + (n : Int) % 10)) = some (.int .u8 ((UInt8.ofNat (48 + n % 10)).toNat : Int)); rw [e2]; congr 2

set_option maxHeartbeats 1000000 in
set_option maxRecDepth 100000 in
theorem two_any (n : Nat) (hn : n < 100) (w : World) : Calls Tryz.prog 109 #[.int .i64 n] w fun e w' => e = .returned (.string (twoB n)) ∧ Below w.heap.size w w' := by
  have q1 : ((n : Int)).tdiv 10 = ((n / 10 : Nat) : Int) := rfl
  have q2 : ((n : Int)).tmod 10 = ((n % 10 : Nat) : Int) := rfl
  have a1 : n / 10 < 10 := by omega
  have a2 : n % 10 < 10 := by omega
  have w1 : IntKind.i64.wrap ((n / 10 : Nat) : Int) = ((n / 10 : Nat) : Int) := by rw [IntKind.wrap_i64]; omega
  have w2 : IntKind.i64.wrap (48 + ((n / 10 : Nat) : Int)) = 48 + ((n / 10 : Nat) : Int) := by rw [IntKind.wrap_i64]; omega
  have w3 : IntKind.i64.wrap (48 + ((n % 10 : Nat) : Int)) = 48 + ((n % 10 : Nat) : Int) := by rw [IntKind.wrap_i64]; omega
  have hcv := two_str n hn w
  go_enter Tryz.func109, Tryz.ntmps109
  go_wp2
  go_ret
  exact ⟨rfl, (Below.refl _ _).alloc (Nat.le_refl _) _⟩

theorem zone_two {z : Int} (h0 : -1439 ≤ z) (h1 : z ≤ 1439) : zoneB z = (if z < 0 then ⟨#[45]⟩ else ⟨#[43]⟩) ++ twoB (z.natAbs / 60) ++ twoB (z.natAbs % 60) := by
  apply ByteArray.ext
  apply Array.toList_inj.1
  rw [zone_list h0 h1, ByteArray.data_append, ByteArray.data_append, Array.toList_append, Array.toList_append]
  have g : ∀ k : Nat, (twoB k).data.toList = [UInt8.ofNat (48 + k / 10), UInt8.ofNat (48 + k % 10)] := fun _ => rfl
  have e0 : (if z < 0 then (⟨#[45]⟩ : ByteArray) else ⟨#[43]⟩).data.toList = [if z < 0 then 45 else 43] := by split <;> rfl
  rw [g, g, e0]
  unfold zl
  obtain ⟨a, ha, hb⟩ : ∃ a, z.natAbs = a ∧ a ≤ 1439 := ⟨_, rfl, by omega⟩
  rw [ha]
  rw [show (a / 60 * 100 + a % 60) / 1000 = a / 60 / 10 by omega, show (a / 60 * 100 + a % 60) / 100 % 10 = a / 60 % 10 by omega, show (a / 60 * 100 + a % 60) / 10 % 10 = a % 60 / 10 by omega, show (a / 60 * 100 + a % 60) % 10 = a % 60 % 10 by omega]
  rfl


set_option maxHeartbeats 1000000 in
set_option maxRecDepth 100000 in
theorem rput_any (i : Idt) (hid : idF i = true) (w : World) (hg : Gl w) :
    Calls Tryz.prog 85 #[i.v] w fun e w' => e = .returned (.string (putB i)) ∧ Below w.heap.size w w' := by
  obtain ⟨w1, hw1, hB1, hlt, hc⟩ := box_ident w i
  have K0 := hc w1 (Below.refl _ _)
  obtain ⟨d0, d1, d2, d3⟩ := K0
  have KC := Kept.mk hc
  have KB1 := Kept.mk hB1
  have KG := Kept.mk (hg.later hB1)
  clear hc hB1 hg
  have hb : 0 ≤ i.tm ∧ i.tm ≤ 1099511627776 ∧ -1439 ≤ i.zn ∧ i.zn ≤ 1439 ∧ i.nm.size ≤ 100 ∧ i.em.size ≤ 100 := by
    unfold idF whoF at hid
    simp only [Bool.and_eq_true, decide_eq_true_eq] at hid
    omega
  obtain ⟨b0, b1, b2, b3, hnl, hel⟩ := hb
  have hTl : (⟨(Lib.itoa i.tm).toArray⟩ : ByteArray).size ≤ 20 := by
    show (Lib.itoa i.tm).toArray.size ≤ 20
    rw [List.size_toArray]
    unfold Lib.itoa
    rw [if_neg (by omega), Lib.decDigits_length]
    exact ndig_le _ 20 (by omega) (by omega)
  obtain ⟨a, ha⟩ : ∃ a : Nat, i.zn.natAbs = a := ⟨_, rfl⟩
  obtain ⟨S, hS⟩ : ∃ S : ByteArray, (if i.zn < 0 then (⟨#[45]⟩ : ByteArray) else ⟨#[43]⟩) = S := ⟨_, rfl⟩
  have KPB : Kept (putB i = i.nm ++ ⟨#[32, 60]⟩ ++ i.em ++ ⟨#[62, 32]⟩ ++ ⟨(Lib.itoa i.tm).toArray⟩ ++ ⟨#[32]⟩ ++ S ++ twoB (a / 60) ++ twoB (a % 60)) := ⟨by
    unfold putB
    rw [zone_two b2 b3, ha, hS]
    simp only [ByteArray.append_assoc]⟩
  have KIt : Kept (∀ w', Gl w' → Calls Tryz.prog 26 #[.int .i64 i.tm] w' fun e w2 => e = .returned (.string ⟨(Lib.itoa i.tm).toArray⟩) ∧ Below w'.heap.size w' w2) := ⟨fun w' hg => itoa_any _ w' hg (by omega) (by omega)⟩
  have KT1 : Kept (∀ w', Calls Tryz.prog 109 #[.int .i64 ((a : Int) / 60)] w' fun e w2 => e = .returned (.string (twoB (a / 60))) ∧ Below w'.heap.size w' w2) := ⟨fun w' => two_any (a / 60) (by omega) w'⟩
  have KT2 : Kept (∀ w', Calls Tryz.prog 109 #[.int .i64 ((a : Int) % 60)] w' fun e w2 => e = .returned (.string (twoB (a % 60))) ∧ Below w'.heap.size w' w2) := ⟨fun w' => two_any (a % 60) (by omega) w'⟩
  have hSl : S.size = 1 := by rw [← hS]; split <;> rfl
  have t1 : (twoB (a / 60)).size = 2 := rfl
  have t2 : (twoB (a % 60)).size = 2 := rfl
  obtain ⟨nm, em, tm, zn⟩ := i
  unfold Idt.v at *
  simp only at *
  have KR : Kept (putB ⟨nm, em, tm, zn⟩ = putB ⟨nm, em, tm, zn⟩) := ⟨rfl⟩
  clear hid KR
  generalize (⟨(Lib.itoa tm).toArray⟩ : ByteArray) = T at *
  generalize twoB (a / 60) = Z1 at *
  generalize twoB (a % 60) = Z2 at *
  generalize putB ⟨nm, em, tm, zn⟩ = PB at *
  by_cases hz : zn < 0
  · rw [if_pos hz] at hS
    subst hS
    have hza : -zn = (a : Int) := by omega
    have hwn : IntKind.i64.wrap (-zn) = (a : Int) := by rw [IntKind.wrap_i64]; omega
    have l2 : (⟨#[32, 60]⟩ : ByteArray).size = 2 := rfl
    have l2' : (⟨#[62, 32]⟩ : ByteArray).size = 2 := rfl
    have l1 : (⟨#[32]⟩ : ByteArray).size = 1 := rfl
    have s1 : (nm ++ ⟨#[32, 60]⟩).size ≤ 102 := by rw [size_cat]; omega
    have s2 : (nm ++ ⟨#[32, 60]⟩ ++ em).size ≤ 202 := by rw [size_cat]; omega
    have s3 : (nm ++ ⟨#[32, 60]⟩ ++ em ++ ⟨#[62, 32]⟩).size ≤ 204 := by rw [size_cat]; omega
    have s4 : (nm ++ ⟨#[32, 60]⟩ ++ em ++ ⟨#[62, 32]⟩ ++ T).size ≤ 224 := by rw [size_cat]; omega
    have s5 : (nm ++ ⟨#[32, 60]⟩ ++ em ++ ⟨#[62, 32]⟩ ++ T ++ ⟨#[32]⟩).size ≤ 225 := by rw [size_cat]; omega
    have s6 : (nm ++ ⟨#[32, 60]⟩ ++ em ++ ⟨#[62, 32]⟩ ++ T ++ ⟨#[32]⟩ ++ ⟨#[45]⟩).size ≤ 226 := by rw [size_cat]; omega
    have s7 : (nm ++ ⟨#[32, 60]⟩ ++ em ++ ⟨#[62, 32]⟩ ++ T ++ ⟨#[32]⟩ ++ ⟨#[45]⟩ ++ Z1).size ≤ 228 := by rw [size_cat]; omega
    have KI2 : Kept (∀ w', CC w1 w' → Calls Tryz.prog 26 #[.int .i64 tm] w' fun e w'' => e = .returned (.string T) ∧ CC w1 w'') := ⟨fun w' hw => (KIt.out w' (KG.out.later hw)).mono fun e w'' hp2 => ⟨hp2.1, hw.on hp2.2⟩⟩
    have KA1 : Kept (∀ w', CC w1 w' → Calls Tryz.prog 109 #[.int .i64 ((a : Int) / 60)] w' fun e w'' => e = .returned (.string Z1) ∧ CC w1 w'') := ⟨fun w' hw => (KT1.out w').mono fun e w'' hp2 => ⟨hp2.1, hw.on hp2.2⟩⟩
    have KA2 : Kept (∀ w', CC w1 w' → Calls Tryz.prog 109 #[.int .i64 ((a : Int) % 60)] w' fun e w'' => e = .returned (.string Z2) ∧ CC w1 w'') := ⟨fun w' hw => (KT2.out w').mono fun e w'' hp2 => ⟨hp2.1, hw.on hp2.2⟩⟩
    clear KIt KT1 KT2 KG
    go_enter Tryz.func85, Tryz.ntmps85
    go_upto_region 1 with fail
    refine wp_region_quietC (C := CC w1) (by kernel_rfl) (by kernel_rfl) (Below.refl _ _).drew ?_
    go_big_quiet_step ((intro _; rfl))
    refine BigFrame.wpQuiet_want rfl (fun K hK => quiet_run (v := .int .i64 zn) (fun W hW => by have hcm := (KC.out W hW).2.2.2; go_simp) (hK _ ?_))
    clear hK K
    simp only [Act.put, List.setIfInBounds_toArray, List.set_cons_zero, List.set_cons_succ]
    go_big_quiet_step ((intro _; rfl))
    go_big_quiet_step ((intro _; rfl))
    refine wpQuiet_nil ?_
    intro w2 hw2
    have KB2 : Kept (CC w1 w2) := ⟨hw2⟩
    clear hw2 d0 d1 d2 d3
    go_wp2
    refine wp_region_quietC (C := CC w1) (by kernel_rfl) (by kernel_rfl) (Below.drew KB2.out) ?_
    go_big_quiet_step ((intro _; rfl))
    refine BigFrame.wpQuiet_want rfl (fun K hK => quiet_run (v := .string nm) (fun W hW => by have hcm := (KC.out W hW).1; go_simp) (hK _ ?_))
    clear hK K
    simp only [Act.put, List.setIfInBounds_toArray, List.set_cons_zero, List.set_cons_succ]
    refine BigFrame.wpQuiet_want rfl (fun K hK => quiet_cat _ _ rfl _ _ rfl rfl (by omega) (hK _ ?_))
    clear hK K
    simp only [Act.put, List.setIfInBounds_toArray, List.set_cons_zero, List.set_cons_succ]
    go_big_quiet_step ((intro _; rfl))
    refine BigFrame.wpQuiet_want rfl (fun K hK => quiet_run (v := .string em) (fun W hW => by have hcm := (KC.out W hW).2.1; go_simp) (hK _ ?_))
    clear hK K
    simp only [Act.put, List.setIfInBounds_toArray, List.set_cons_zero, List.set_cons_succ]
    refine BigFrame.wpQuiet_want rfl (fun K hK => quiet_cat _ _ rfl _ _ rfl rfl (by omega) (hK _ ?_))
    clear hK K
    simp only [Act.put, List.setIfInBounds_toArray, List.set_cons_zero, List.set_cons_succ]
    refine BigFrame.wpQuiet_want rfl (fun K hK => quiet_cat _ _ rfl _ _ rfl rfl (by omega) (hK _ ?_))
    clear hK K
    simp only [Act.put, List.setIfInBounds_toArray, List.set_cons_zero, List.set_cons_succ]
    go_big_quiet_step ((intro _; rfl))
    refine BigFrame.wpQuiet_want rfl (fun K hK => quiet_run (v := .int .i64 tm) (fun W hW => by have hcm := (KC.out W hW).2.2.1; go_simp) (hK _ ?_))
    clear hK K
    simp only [Act.put, List.setIfInBounds_toArray, List.set_cons_zero, List.set_cons_succ]
    go_big_quiet_step ((intro hCw; exact KI2.out _ hCw))
    refine BigFrame.wpQuiet_want rfl (fun K hK => quiet_cat _ _ rfl _ _ rfl rfl (by omega) (hK _ ?_))
    clear hK K
    simp only [Act.put, List.setIfInBounds_toArray, List.set_cons_zero, List.set_cons_succ]
    refine BigFrame.wpQuiet_want rfl (fun K hK => quiet_cat _ _ rfl _ _ rfl rfl (by omega) (hK _ ?_))
    clear hK K
    simp only [Act.put, List.setIfInBounds_toArray, List.set_cons_zero, List.set_cons_succ]
    go_big_quiet_step ((intro _; rfl))
    refine BigFrame.wpQuiet_want rfl (fun K hK => quiet_cat _ _ rfl _ _ rfl rfl (by omega) (hK _ ?_))
    clear hK K
    simp only [Act.put, List.setIfInBounds_toArray, List.set_cons_zero, List.set_cons_succ]
    go_big_quiet_step ((intro _; rfl))
    refine BigFrame.wpQuiet_want rfl (fun K hK => quiet_run (v := .int .i64 ((a : Int) / 60)) (fun W hW => by go_simp; rw [IntKind.wrap_i64]; omega) (hK _ ?_))
    clear hK K
    simp only [Act.put, List.setIfInBounds_toArray, List.set_cons_zero, List.set_cons_succ]
    go_big_quiet_step ((intro hCw; exact KA1.out _ hCw))
    refine BigFrame.wpQuiet_want rfl (fun K hK => quiet_cat _ _ rfl _ _ rfl rfl (by omega) (hK _ ?_))
    clear hK K
    simp only [Act.put, List.setIfInBounds_toArray, List.set_cons_zero, List.set_cons_succ]
    go_big_quiet_step ((intro _; rfl))
    refine BigFrame.wpQuiet_want rfl (fun K hK => quiet_run (v := .int .i64 ((a : Int) % 60)) (fun W hW => by go_simp; exact Int.tmod_eq_emod_of_nonneg (by omega)) (hK _ ?_))
    clear hK K
    simp only [Act.put, List.setIfInBounds_toArray, List.set_cons_zero, List.set_cons_succ]
    go_big_quiet_step ((intro hCw; exact KA2.out _ hCw))
    refine BigFrame.wpQuiet_want rfl (fun K hK => quiet_cat _ _ rfl _ _ rfl rfl (by omega) (hK _ ?_))
    clear hK K
    simp only [Act.put, List.setIfInBounds_toArray, List.set_cons_zero, List.set_cons_succ]
    go_big_quiet_step ((intro _; rfl))
    refine wpQuiet_nil ?_
    intro w3 hw3
    have KB3 := Kept.mk (KB1.out.trans (Below.mono hw3 KB1.out.size))
    clear hw3 KC KI2 KA1 KA2 KB2
    go_wp2
    go_ret
    rw [KPB.out]
    exact ⟨rfl, KB3.out⟩
  · rw [if_neg hz] at hS
    subst hS
    have hza : zn = (a : Int) := by omega
    subst hza
    have l2 : (⟨#[32, 60]⟩ : ByteArray).size = 2 := rfl
    have l2' : (⟨#[62, 32]⟩ : ByteArray).size = 2 := rfl
    have l1 : (⟨#[32]⟩ : ByteArray).size = 1 := rfl
    have s1 : (nm ++ ⟨#[32, 60]⟩).size ≤ 102 := by rw [size_cat]; omega
    have s2 : (nm ++ ⟨#[32, 60]⟩ ++ em).size ≤ 202 := by rw [size_cat]; omega
    have s3 : (nm ++ ⟨#[32, 60]⟩ ++ em ++ ⟨#[62, 32]⟩).size ≤ 204 := by rw [size_cat]; omega
    have s4 : (nm ++ ⟨#[32, 60]⟩ ++ em ++ ⟨#[62, 32]⟩ ++ T).size ≤ 224 := by rw [size_cat]; omega
    have s5 : (nm ++ ⟨#[32, 60]⟩ ++ em ++ ⟨#[62, 32]⟩ ++ T ++ ⟨#[32]⟩).size ≤ 225 := by rw [size_cat]; omega
    have s6 : (nm ++ ⟨#[32, 60]⟩ ++ em ++ ⟨#[62, 32]⟩ ++ T ++ ⟨#[32]⟩ ++ ⟨#[43]⟩).size ≤ 226 := by rw [size_cat]; omega
    have s7 : (nm ++ ⟨#[32, 60]⟩ ++ em ++ ⟨#[62, 32]⟩ ++ T ++ ⟨#[32]⟩ ++ ⟨#[43]⟩ ++ Z1).size ≤ 228 := by rw [size_cat]; omega
    have KI2 : Kept (∀ w', CC w1 w' → Calls Tryz.prog 26 #[.int .i64 tm] w' fun e w'' => e = .returned (.string T) ∧ CC w1 w'') := ⟨fun w' hw => (KIt.out w' (KG.out.later hw)).mono fun e w'' hp2 => ⟨hp2.1, hw.on hp2.2⟩⟩
    have KA1 : Kept (∀ w', CC w1 w' → Calls Tryz.prog 109 #[.int .i64 ((a : Int) / 60)] w' fun e w'' => e = .returned (.string Z1) ∧ CC w1 w'') := ⟨fun w' hw => (KT1.out w').mono fun e w'' hp2 => ⟨hp2.1, hw.on hp2.2⟩⟩
    have KA2 : Kept (∀ w', CC w1 w' → Calls Tryz.prog 109 #[.int .i64 ((a : Int) % 60)] w' fun e w'' => e = .returned (.string Z2) ∧ CC w1 w'') := ⟨fun w' hw => (KT2.out w').mono fun e w'' hp2 => ⟨hp2.1, hw.on hp2.2⟩⟩
    clear KIt KT1 KT2 KG
    go_enter Tryz.func85, Tryz.ntmps85
    go_upto_region 1 with fail
    refine wp_region_quietC (C := CC w1) (by kernel_rfl) (by kernel_rfl) (Below.refl _ _).drew ?_
    go_big_quiet_step ((intro _; rfl))
    refine BigFrame.wpQuiet_want rfl (fun K hK => quiet_run (v := .int .i64 (a : Int)) (fun W hW => by have hcm := (KC.out W hW).2.2.2; go_simp) (hK _ ?_))
    clear hK K
    simp only [Act.put, List.setIfInBounds_toArray, List.set_cons_zero, List.set_cons_succ]
    go_big_quiet_step ((intro _; rfl))
    go_big_quiet_step ((intro _; rfl))
    refine wpQuiet_nil ?_
    intro w2 hw2
    have KB2 : Kept (CC w1 w2) := ⟨hw2⟩
    clear hw2 d0 d1 d2 d3
    go_wp2
    refine wp_region_quietC (C := CC w1) (by kernel_rfl) (by kernel_rfl) (Below.drew KB2.out) ?_
    go_big_quiet_step ((intro _; rfl))
    refine BigFrame.wpQuiet_want rfl (fun K hK => quiet_run (v := .string nm) (fun W hW => by have hcm := (KC.out W hW).1; go_simp) (hK _ ?_))
    clear hK K
    simp only [Act.put, List.setIfInBounds_toArray, List.set_cons_zero, List.set_cons_succ]
    refine BigFrame.wpQuiet_want rfl (fun K hK => quiet_cat _ _ rfl _ _ rfl rfl (by omega) (hK _ ?_))
    clear hK K
    simp only [Act.put, List.setIfInBounds_toArray, List.set_cons_zero, List.set_cons_succ]
    go_big_quiet_step ((intro _; rfl))
    refine BigFrame.wpQuiet_want rfl (fun K hK => quiet_run (v := .string em) (fun W hW => by have hcm := (KC.out W hW).2.1; go_simp) (hK _ ?_))
    clear hK K
    simp only [Act.put, List.setIfInBounds_toArray, List.set_cons_zero, List.set_cons_succ]
    refine BigFrame.wpQuiet_want rfl (fun K hK => quiet_cat _ _ rfl _ _ rfl rfl (by omega) (hK _ ?_))
    clear hK K
    simp only [Act.put, List.setIfInBounds_toArray, List.set_cons_zero, List.set_cons_succ]
    refine BigFrame.wpQuiet_want rfl (fun K hK => quiet_cat _ _ rfl _ _ rfl rfl (by omega) (hK _ ?_))
    clear hK K
    simp only [Act.put, List.setIfInBounds_toArray, List.set_cons_zero, List.set_cons_succ]
    go_big_quiet_step ((intro _; rfl))
    refine BigFrame.wpQuiet_want rfl (fun K hK => quiet_run (v := .int .i64 tm) (fun W hW => by have hcm := (KC.out W hW).2.2.1; go_simp) (hK _ ?_))
    clear hK K
    simp only [Act.put, List.setIfInBounds_toArray, List.set_cons_zero, List.set_cons_succ]
    go_big_quiet_step ((intro hCw; exact KI2.out _ hCw))
    refine BigFrame.wpQuiet_want rfl (fun K hK => quiet_cat _ _ rfl _ _ rfl rfl (by omega) (hK _ ?_))
    clear hK K
    simp only [Act.put, List.setIfInBounds_toArray, List.set_cons_zero, List.set_cons_succ]
    refine BigFrame.wpQuiet_want rfl (fun K hK => quiet_cat _ _ rfl _ _ rfl rfl (by omega) (hK _ ?_))
    clear hK K
    simp only [Act.put, List.setIfInBounds_toArray, List.set_cons_zero, List.set_cons_succ]
    go_big_quiet_step ((intro _; rfl))
    refine BigFrame.wpQuiet_want rfl (fun K hK => quiet_cat _ _ rfl _ _ rfl rfl (by omega) (hK _ ?_))
    clear hK K
    simp only [Act.put, List.setIfInBounds_toArray, List.set_cons_zero, List.set_cons_succ]
    go_big_quiet_step ((intro _; rfl))
    refine BigFrame.wpQuiet_want rfl (fun K hK => quiet_run (v := .int .i64 ((a : Int) / 60)) (fun W hW => by go_simp; rw [IntKind.wrap_i64]; omega) (hK _ ?_))
    clear hK K
    simp only [Act.put, List.setIfInBounds_toArray, List.set_cons_zero, List.set_cons_succ]
    go_big_quiet_step ((intro hCw; exact KA1.out _ hCw))
    refine BigFrame.wpQuiet_want rfl (fun K hK => quiet_cat _ _ rfl _ _ rfl rfl (by omega) (hK _ ?_))
    clear hK K
    simp only [Act.put, List.setIfInBounds_toArray, List.set_cons_zero, List.set_cons_succ]
    go_big_quiet_step ((intro _; rfl))
    refine BigFrame.wpQuiet_want rfl (fun K hK => quiet_run (v := .int .i64 ((a : Int) % 60)) (fun W hW => by go_simp; exact Int.tmod_eq_emod_of_nonneg (by omega)) (hK _ ?_))
    clear hK K
    simp only [Act.put, List.setIfInBounds_toArray, List.set_cons_zero, List.set_cons_succ]
    go_big_quiet_step ((intro hCw; exact KA2.out _ hCw))
    refine BigFrame.wpQuiet_want rfl (fun K hK => quiet_cat _ _ rfl _ _ rfl rfl (by omega) (hK _ ?_))
    clear hK K
    simp only [Act.put, List.setIfInBounds_toArray, List.set_cons_zero, List.set_cons_succ]
    go_big_quiet_step ((intro _; rfl))
    refine wpQuiet_nil ?_
    intro w3 hw3
    have KB3 := Kept.mk (KB1.out.trans (Below.mono hw3 KB1.out.size))
    clear hw3 KC KI2 KA1 KA2 KB2
    go_wp2
    go_ret
    rw [KPB.out]
    exact ⟨rfl, KB3.out⟩



def nmGo (s : ByteArray) (v : Int) (k : Nat) : Nat → Int
  | 0 => v
  | n + 1 => if 48 ≤ sN s k ∧ sN s k ≤ 57 then nmGo s (10 * v + (sN s k - 48)) (k + 1) n else -1
def nmF (s : ByteArray) : Int := if s.size = 0 ∨ 13 < s.size then -1 else nmGo s 0 0 s.size

theorem nmGo_step (s : ByteArray) (v : Int) (k : Nat) (n : Nat) (h : 48 ≤ sN s k ∧ sN s k ≤ 57) : nmGo s v k (n + 1) = nmGo s (10 * v + (sN s k - 48)) (k + 1) n := by
  rw [nmGo, if_pos h]
theorem nmGo_bad (s : ByteArray) (v : Int) (k : Nat) (n : Nat) (h : ¬ (48 ≤ sN s k ∧ sN s k ≤ 57)) : nmGo s v k (n + 1) = -1 := by
  rw [nmGo, if_neg h]

set_option maxHeartbeats 1000000 in
set_option maxRecDepth 100000 in
theorem rnumber_same (s : ByteArray) (w : World) : Calls Tryz.prog 83 #[.string s] w fun e w' => e = .returned (.int .i64 (nmF s)) ∧ w' = w := by
  by_cases h0 : s.size = 0
  · have e0 : s = ⟨#[]⟩ := by
      apply ByteArray.ext
      exact Array.eq_empty_of_size_eq_zero h0
    subst e0
    go_enter Tryz.func83, Tryz.ntmps83
    go_wp2
    go_ret
    exact ⟨rfl, rfl⟩
  · have hne : (s.toList == ([] : List UInt8)) = false := by
      rw [Lib.toList_data]
      cases e : s.data.toList with
      | nil => exact absurd (by rw [Lib.size_eq, e]; rfl) h0
      | cons a b => rfl
    by_cases h13 : 13 < s.size
    · have KE : Kept (nmF s = -1) := ⟨by unfold nmF; rw [if_pos (Or.inr h13)]⟩
      have hd : decide (13 < (s.size : Int)) = true := by simp; omega
      go_enter Tryz.func83, Tryz.ntmps83
      go_wp2
      go_ret
      exact ⟨by rw [KE.out]; rfl, rfl⟩
    · have KE : Kept (nmF s = nmGo s 0 0 s.size) := ⟨by unfold nmF; rw [if_neg (by omega)]⟩
      have hd : decide (13 < (s.size : Int)) = false := by simp; omega
      go_enter Tryz.func83, Tryz.ntmps83
      go_wp2
      go_loopw [3, 4] (fun vv iv wr => ∃ (k : Nat) (v : Int), k ≤ s.size ∧ vv = .int .i64 v ∧ iv = .int .i64 k ∧ wr = w ∧ 0 ≤ v ∧ v < ((10 ^ k : Nat) : Int) ∧ nmGo s 0 0 s.size = nmGo s v k (s.size - k)) (fun _ iv _ => s.size - (intOf iv).toNat)
      case atStart => exact ⟨0, 0, by omega, rfl, rfl, rfl, by omega, by simp, rfl⟩
      case round =>
        obtain ⟨k, v, hk, rfl, rfl, rfl, hv0, hv1, hgo⟩ := hrel
        have KGo := Kept.mk hgo
        clear hgo
        by_cases hlt : k < s.size
        · have hp : (10 ^ k : Nat) ≤ 10 ^ 12 := Nat.pow_le_pow_right (by omega) (by omega)
          have hp1 : (10 ^ (k + 1) : Nat) = 10 * 10 ^ k := by rw [Nat.pow_succ]; omega
          have hd2 : ((k : Int) < (s.size : Int)) := by omega
          have hi := run_index_text wr s .i64 k hlt
          have hr := sN_range s k
          have hs1 : s.size - k = (s.size - (k + 1)) + 1 := by omega
          by_cases hx : 48 ≤ sN s k ∧ sN s k ≤ 57
          · have KS := Kept.mk (nmGo_step s v k (s.size - (k + 1)) hx)
            obtain ⟨hx0, hx1⟩ := hx
            have KP := Kept.mk (And.intro hp hp1)
            have hv2 : v < 1000000000000 := by omega
            generalize sN s k = x at hi hr hx0 hx1 KS
            have hw1 : IntKind.u8.wrap (x - 48) = x - 48 := by rw [IntKind.wrap_u8]; omega
            have hw2 : IntKind.i64.wrap (x - 48) = x - 48 := by rw [IntKind.wrap_i64]; omega
            have hw3 : IntKind.i64.wrap (10 * v) = 10 * v := by rw [IntKind.wrap_i64]; omega
            have hw4 : IntKind.i64.wrap (10 * v + (x - 48)) = 10 * v + (x - 48) := by rw [IntKind.wrap_i64]; omega
            have hw5 : IntKind.i64.wrap ((k : Int) + 1) = (k : Int) + 1 := by rw [IntKind.wrap_i64]; omega
            have n1 : ¬ x < 48 := by omega
            have n2 : ¬ 57 < x := by omega
            clear hp hp1 hs1
            go_wp2
            refine ⟨⟨k + 1, 10 * v + (x - 48), by omega, rfl, by simp, trivial, by omega, ?_, ?_⟩, by simp [intOf]; omega⟩
            · rw [KP.out.2]
              generalize 10 ^ k = p at hv1 ⊢
              omega
            · rw [KGo.out, show s.size - k = (s.size - (k + 1)) + 1 by omega, KS.out]
          · have KS := Kept.mk (nmGo_bad s v k (s.size - (k + 1)) hx)
            clear hp hp1
            generalize sN s k = x at hi hr hx KS
            by_cases n1 : x < 48
            · go_wp2
              go_ret
              exact ⟨by rw [KE.out, KGo.out, hs1, KS.out]; rfl, rfl⟩
            · have n2 : 57 < x := by omega
              go_wp2
              go_ret
              exact ⟨by rw [KE.out, KGo.out, hs1, KS.out]; rfl, rfl⟩
        · have hd2 : ¬ ((k : Int) < (s.size : Int)) := by omega
          have KS : Kept (nmF s = v) := ⟨by rw [KE.out, KGo.out, show s.size - k = 0 by omega, nmGo]⟩
          go_wp2
          go_ret
          exact ⟨by rw [KS.out]; rfl, rfl⟩
theorem rnumber_any (s : ByteArray) (w : World) : Calls Tryz.prog 83 #[.string s] w fun e w' => e = .returned (.int .i64 (nmF s)) ∧ Below w.heap.size w w' :=
  (rnumber_same s w).mono fun e w' h => ⟨h.1, by rw [h.2]; exact Below.refl _ _⟩
end Go.Proofs.YtkbalngddlhlpaaGreatDoor
