/-
  The walk of NamesBack.
-/
import Derived.Test.YtpkoahdpghhhpaaDoorN10
import Derived.Test.YtpkoahdpghhhpaaDoorN15
namespace Go.Proofs.YtpkoahdpghhhpaaDoor
open Go.RowKit

theorem put_len {i : Idt} (h : idF i = true) : (putB i).size < 4294967281 := by
  have hb : 0 ≤ i.tm ∧ i.tm ≤ 1099511627776 ∧ -1439 ≤ i.zn ∧ i.zn ≤ 1439 ∧ i.nm.size ≤ 100 ∧ i.em.size ≤ 100 := by
    unfold idF whoF at h
    simp only [Bool.and_eq_true, decide_eq_true_eq] at h
    omega
  have hTl : (⟨(Lib.itoa i.tm).toArray⟩ : ByteArray).size ≤ 20 := by
    show (Lib.itoa i.tm).toArray.size ≤ 20
    rw [List.size_toArray]
    unfold Lib.itoa
    rw [if_neg (by omega), Lib.decDigits_length]
    exact ndig_le _ 20 (by omega) (by omega)
  have hZl : (zoneB i.zn).size ≤ 10 := by
    unfold zoneB
    rw [size_cat, ByteArray.size_extract, zdB_size (by omega)]
    split <;> (show 1 + _ ≤ 10; omega)
  unfold putB
  simp only [size_cat]
  have l2 : (⟨#[32, 60]⟩ : ByteArray).size = 2 := rfl
  have l2' : (⟨#[62, 32]⟩ : ByteArray).size = 2 := rfl
  have l1 : (⟨#[32]⟩ : ByteArray).size = 1 := rfl
  omega

set_option maxHeartbeats 1000000 in
set_option maxRecDepth 100000 in
theorem back_walk (i : Idt) (s : ByteArray) (w : World) (hg : Gl w) (hs : s.size < 4294967281) :
    Calls Tryd.prog 5 #[i.v, .string s] w fun e w' => e = .returned (.bool true) ∧ Below w.heap.size w w' := by
  obtain ⟨w1, hw1, hB1, hlt, hc⟩ := box_ident w i
  have KA := Kept.mk (awake_any w1 (hg.later hB1))
  have KC := Kept.mk hc
  have KB1 := Kept.mk hB1
  have KG := Kept.mk (hg.later hB1)
  have KP : Kept (∀ w', Gl w' → Calls Tryd.prog 18 #[i.v] w' fun e w2 => e = .returned (.tuple #[.string (putS i), .int .i64 (putE i)]) ∧ Below w'.heap.size w' w2) := ⟨fun w' h => putIdent_any i w' h⟩
  have KQ : Kept (∀ w', Gl w' → Calls Tryd.prog 20 #[.string s] w' fun e w2 => e = .returned (.tuple #[(prsF s).1.v, .int .i64 (prsF s).2]) ∧ Below w'.heap.size w' w2) := ⟨fun w' h => parseIdent_any s w' h hs⟩
  clear hc hB1 hg
  by_cases hq : idF (rfF s) = true ∧ putB (rfF s) = s
  · have e0 : prsF s = (rfF s, 0) := by unfold prsF; rw [if_pos hq]
    have KJ : Kept (∀ w', Gl w' → Calls Tryd.prog 18 #[(rfF s).v] w' fun e w2 => e = .returned (.tuple #[.string s, .int .i64 0]) ∧ Below w'.heap.size w' w2) := ⟨fun w' h => by
      have := putIdent_any (rfF s) w' h
      unfold putS putE at this
      rw [if_pos hq.1, if_pos hq.1, hq.2] at this
      exact this⟩
    have KI : Kept (∀ w', Calls Tryd.prog 22 #[(rfF s).v] w' fun e w2 => e = .returned (.bool true) ∧ Below w'.heap.size w' w2) := ⟨fun w' => by
      have := ident_any (rfF s) w'
      rw [hq.1] at this
      exact this⟩
    rw [e0] at KQ
    clear e0 hq
    generalize rfF s = jj at *
    obtain ⟨jn, je, jt, jz⟩ := jj
    unfold Idt.v at KQ KJ KI
    simp only at KQ KJ KI
    by_cases hid : idF i = true
    · have e1 : putS i = putB i ∧ putE i = 0 := by unfold putE putS; rw [if_pos hid, if_pos hid]; exact ⟨rfl, rfl⟩
      rw [e1.1, e1.2] at KP
      have KR : Kept (∀ w', Gl w' → Calls Tryd.prog 20 #[.string (putB i)] w' fun e w2 => e = .returned (.tuple #[i.v, .int .i64 0]) ∧ Below w'.heap.size w' w2) := ⟨fun w' h => by
        have := parseIdent_any (putB i) w' h (put_len hid)
        rw [prs_put hid] at this
        exact this⟩
      clear e1 hid
      generalize putB i = P at *
      obtain ⟨nm, em, tm, zn⟩ := i
      unfold Idt.v at KP KR
      unfold Idt.v
      simp only at *
      go_enter Tryd.func5, Tryd.ntmps5
      go_wp2_with fail
      refine Calls.mono KA.out (fun e w2 hp => ?_)
      obtain ⟨rfl, hb2⟩ := hp
      have KB2 := Kept.mk hb2
      have KG2 := Kept.mk (KG.out.later hb2)
      obtain ⟨d0, d1, d2, d3⟩ := KC.out w2 hb2
      clear hb2 KA
      go_wp2_with fail
      refine Calls.mono (KP.out w2 KG2.out) (fun e w3 hp => ?_)
      obtain ⟨rfl, hb3⟩ := hp
      have KB3 := Kept.mk (KB2.out.trans (hb3.mono KB2.out.size))
      have KG3 := Kept.mk (KG2.out.later hb3)
      clear d0 d1 d2 d3
      obtain ⟨d0, d1, d2, d3⟩ := KC.out w3 KB3.out
      clear hb3 KB2 KG2 KP
      go_wp2_with fail
      refine Calls.mono (KR.out w3 KG3.out) (fun e w4 hp => ?_)
      obtain ⟨rfl, hb4⟩ := hp
      have hB4 := KB3.out.trans (hb4.mono KB3.out.size)
      obtain ⟨w5, hw5, hB5, -, hc5⟩ := box_ident w4 ⟨nm, em, tm, zn⟩
      simp only at hw5 hc5
      have KB5 := Kept.mk (hB4.trans (hB5.mono hB4.size))
      have KG5 := Kept.mk ((KG3.out.later hb4).later hB5)
      clear d0 d1 d2 d3
      obtain ⟨d0, d1, d2, d3⟩ := KC.out w5 KB5.out
      obtain ⟨j0, j1, j2, j3⟩ := hc5 w5 (Below.refl _ _)
      clear hb4 hB4 hB5 hc5 KB3 KG3 KR
      go_wp2_with fail
      clear hw5 j0 j1 j2 j3 d0 d1 d2 d3
      refine Calls.mono (KQ.out w5 KG5.out) (fun e w6 hp => ?_)
      obtain ⟨rfl, hb6⟩ := hp
      have hB6 := KB5.out.trans (hb6.mono KB5.out.size)
      obtain ⟨w7, hw7, hB7, -, hc7⟩ := box_ident w6 ⟨jn, je, jt, jz⟩
      simp only at hw7 hc7
      have KB7 := Kept.mk (KB1.out.trans ((hB6.trans (hB7.mono hB6.size)).mono KB1.out.size))
      have KG7 := Kept.mk ((KG5.out.later hb6).later hB7)
      have KC7 := Kept.mk hc7
      obtain ⟨j0, j1, j2, j3⟩ := hc7 w7 (Below.refl _ _)
      clear hb6 hB6 hB7 hc7 KB5 KG5 KQ
      go_wp2_with fail
      refine Calls.mono (KJ.out w7 KG7.out) (fun e w8 hp => ?_)
      obtain ⟨rfl, hb8⟩ := hp
      have KB8 := Kept.mk (KB7.out.trans (hb8.mono KB7.out.size))
      clear j0 j1 j2 j3
      obtain ⟨j0, j1, j2, j3⟩ := KC7.out w8 hb8
      clear hb8 KB7 KG7 KJ
      go_wp2_with fail
      refine Calls.mono (KI.out w8) (fun e w9 hp => ?_)
      obtain ⟨rfl, hb9⟩ := hp
      have KB9 := Kept.mk (KB8.out.trans (hb9.mono KB8.out.size))
      clear hb9 KB8 KI
      go_wp2
      go_ret
      exact ⟨rfl, KB9.out⟩
    · have e1 : putS i = ⟨#[]⟩ ∧ putE i = 3 := by unfold putE putS; rw [if_neg hid, if_neg hid]; exact ⟨rfl, rfl⟩
      rw [e1.1, e1.2] at KP
      have KN : Kept (∀ w', Calls Tryd.prog 22 #[i.v] w' fun e w2 => e = .returned (.bool false) ∧ Below w'.heap.size w' w2) := ⟨fun w' => by
        have := ident_any i w'
        rw [show idF i = false by simpa using hid] at this
        exact this⟩
      clear e1 hid
      obtain ⟨nm, em, tm, zn⟩ := i
      unfold Idt.v at KP KN
      unfold Idt.v
      simp only at *
      go_enter Tryd.func5, Tryd.ntmps5
      go_wp2_with fail
      refine Calls.mono KA.out (fun e w2 hp => ?_)
      obtain ⟨rfl, hb2⟩ := hp
      have KB2 := Kept.mk hb2
      have KG2 := Kept.mk (KG.out.later hb2)
      obtain ⟨d0, d1, d2, d3⟩ := KC.out w2 hb2
      clear hb2 KA
      go_wp2_with fail
      refine Calls.mono (KP.out w2 KG2.out) (fun e w3 hp => ?_)
      obtain ⟨rfl, hb3⟩ := hp
      have KB3 := Kept.mk (KB2.out.trans (hb3.mono KB2.out.size))
      have KG3 := Kept.mk (KG2.out.later hb3)
      clear d0 d1 d2 d3
      obtain ⟨d0, d1, d2, d3⟩ := KC.out w3 KB3.out
      clear hb3 KB2 KG2 KP
      go_wp2_with fail
      refine Calls.mono (KN.out w3) (fun e w5 hp => ?_)
      obtain ⟨rfl, hb4⟩ := hp
      have KB5 := Kept.mk (KB3.out.trans (hb4.mono KB3.out.size))
      have KG5 := Kept.mk (KG3.out.later hb4)
      clear hb4 KB3 KG3 KN d0 d1 d2 d3
      go_wp2_with fail
      refine Calls.mono (KQ.out w5 KG5.out) (fun e w6 hp => ?_)
      obtain ⟨rfl, hb6⟩ := hp
      have hB6 := KB5.out.trans (hb6.mono KB5.out.size)
      obtain ⟨w7, hw7, hB7, -, hc7⟩ := box_ident w6 ⟨jn, je, jt, jz⟩
      simp only at hw7 hc7
      have KB7 := Kept.mk (KB1.out.trans ((hB6.trans (hB7.mono hB6.size)).mono KB1.out.size))
      have KG7 := Kept.mk ((KG5.out.later hb6).later hB7)
      have KC7 := Kept.mk hc7
      obtain ⟨j0, j1, j2, j3⟩ := hc7 w7 (Below.refl _ _)
      clear hb6 hB6 hB7 hc7 KB5 KG5 KQ
      go_wp2_with fail
      refine Calls.mono (KJ.out w7 KG7.out) (fun e w8 hp => ?_)
      obtain ⟨rfl, hb8⟩ := hp
      have KB8 := Kept.mk (KB7.out.trans (hb8.mono KB7.out.size))
      clear j0 j1 j2 j3
      obtain ⟨j0, j1, j2, j3⟩ := KC7.out w8 hb8
      clear hb8 KB7 KG7 KJ
      go_wp2_with fail
      refine Calls.mono (KI.out w8) (fun e w9 hp => ?_)
      obtain ⟨rfl, hb9⟩ := hp
      have KB9 := Kept.mk (KB8.out.trans (hb9.mono KB8.out.size))
      clear hb9 KB8 KI
      go_wp2
      go_ret
      exact ⟨rfl, KB9.out⟩
  · have e0 : prsF s = (idt0, 4) := by unfold prsF; rw [if_neg hq]
    rw [e0] at KQ
    clear e0 hq
    unfold Idt.v at KQ
    simp only [idt0] at KQ
    by_cases hid : idF i = true
    · have e1 : putS i = putB i ∧ putE i = 0 := by unfold putE putS; rw [if_pos hid, if_pos hid]; exact ⟨rfl, rfl⟩
      rw [e1.1, e1.2] at KP
      have KR : Kept (∀ w', Gl w' → Calls Tryd.prog 20 #[.string (putB i)] w' fun e w2 => e = .returned (.tuple #[i.v, .int .i64 0]) ∧ Below w'.heap.size w' w2) := ⟨fun w' h => by
        have := parseIdent_any (putB i) w' h (put_len hid)
        rw [prs_put hid] at this
        exact this⟩
      clear e1 hid
      generalize putB i = P at *
      obtain ⟨nm, em, tm, zn⟩ := i
      unfold Idt.v at KP KR
      unfold Idt.v
      simp only at *
      go_enter Tryd.func5, Tryd.ntmps5
      go_wp2_with fail
      refine Calls.mono KA.out (fun e w2 hp => ?_)
      obtain ⟨rfl, hb2⟩ := hp
      have KB2 := Kept.mk hb2
      have KG2 := Kept.mk (KG.out.later hb2)
      obtain ⟨d0, d1, d2, d3⟩ := KC.out w2 hb2
      clear hb2 KA
      go_wp2_with fail
      refine Calls.mono (KP.out w2 KG2.out) (fun e w3 hp => ?_)
      obtain ⟨rfl, hb3⟩ := hp
      have KB3 := Kept.mk (KB2.out.trans (hb3.mono KB2.out.size))
      have KG3 := Kept.mk (KG2.out.later hb3)
      clear d0 d1 d2 d3
      obtain ⟨d0, d1, d2, d3⟩ := KC.out w3 KB3.out
      clear hb3 KB2 KG2 KP
      go_wp2_with fail
      refine Calls.mono (KR.out w3 KG3.out) (fun e w4 hp => ?_)
      obtain ⟨rfl, hb4⟩ := hp
      have hB4 := KB3.out.trans (hb4.mono KB3.out.size)
      obtain ⟨w5, hw5, hB5, -, hc5⟩ := box_ident w4 ⟨nm, em, tm, zn⟩
      simp only at hw5 hc5
      have KB5 := Kept.mk (hB4.trans (hB5.mono hB4.size))
      have KG5 := Kept.mk ((KG3.out.later hb4).later hB5)
      clear d0 d1 d2 d3
      obtain ⟨d0, d1, d2, d3⟩ := KC.out w5 KB5.out
      obtain ⟨j0, j1, j2, j3⟩ := hc5 w5 (Below.refl _ _)
      clear hb4 hB4 hB5 hc5 KB3 KG3 KR
      go_wp2_with fail
      clear hw5 j0 j1 j2 j3 d0 d1 d2 d3
      refine Calls.mono (KQ.out w5 KG5.out) (fun e w6 hp => ?_)
      obtain ⟨rfl, hb6⟩ := hp
      have hB6 := KB5.out.trans (hb6.mono KB5.out.size)
      have KB7 := Kept.mk (KB1.out.trans (hB6.mono KB1.out.size))
      clear hb6 hB6 KB5 KG5 KQ
      go_wp2
      go_ret
      exact ⟨rfl, KB7.out.alloc KB7.out.size _⟩
    · have e1 : putS i = ⟨#[]⟩ ∧ putE i = 3 := by unfold putE putS; rw [if_neg hid, if_neg hid]; exact ⟨rfl, rfl⟩
      rw [e1.1, e1.2] at KP
      have KN : Kept (∀ w', Calls Tryd.prog 22 #[i.v] w' fun e w2 => e = .returned (.bool false) ∧ Below w'.heap.size w' w2) := ⟨fun w' => by
        have := ident_any i w'
        rw [show idF i = false by simpa using hid] at this
        exact this⟩
      clear e1 hid
      obtain ⟨nm, em, tm, zn⟩ := i
      unfold Idt.v at KP KN
      unfold Idt.v
      simp only at *
      go_enter Tryd.func5, Tryd.ntmps5
      go_wp2_with fail
      refine Calls.mono KA.out (fun e w2 hp => ?_)
      obtain ⟨rfl, hb2⟩ := hp
      have KB2 := Kept.mk hb2
      have KG2 := Kept.mk (KG.out.later hb2)
      obtain ⟨d0, d1, d2, d3⟩ := KC.out w2 hb2
      clear hb2 KA
      go_wp2_with fail
      refine Calls.mono (KP.out w2 KG2.out) (fun e w3 hp => ?_)
      obtain ⟨rfl, hb3⟩ := hp
      have KB3 := Kept.mk (KB2.out.trans (hb3.mono KB2.out.size))
      have KG3 := Kept.mk (KG2.out.later hb3)
      clear d0 d1 d2 d3
      obtain ⟨d0, d1, d2, d3⟩ := KC.out w3 KB3.out
      clear hb3 KB2 KG2 KP
      go_wp2_with fail
      refine Calls.mono (KN.out w3) (fun e w5 hp => ?_)
      obtain ⟨rfl, hb4⟩ := hp
      have KB5 := Kept.mk (KB3.out.trans (hb4.mono KB3.out.size))
      have KG5 := Kept.mk (KG3.out.later hb4)
      clear hb4 KB3 KG3 KN d0 d1 d2 d3
      go_wp2_with fail
      refine Calls.mono (KQ.out w5 KG5.out) (fun e w6 hp => ?_)
      obtain ⟨rfl, hb6⟩ := hp
      have hB6 := KB5.out.trans (hb6.mono KB5.out.size)
      have KB7 := Kept.mk (KB1.out.trans (hB6.mono KB1.out.size))
      clear hb6 hB6 KB5 KG5 KQ
      go_wp2
      go_ret
      exact ⟨rfl, KB7.out.alloc KB7.out.size _⟩
end Go.Proofs.YtpkoahdpghhhpaaDoor
