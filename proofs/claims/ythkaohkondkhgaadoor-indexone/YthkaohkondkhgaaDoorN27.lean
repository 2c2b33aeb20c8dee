/-
  Walks of the document: Has, plain, Ident.
-/
import Derived.Test.YthkaohkondkhgaaDoorN25
namespace Go.Proofs.YthkaohkondkhgaaDoor
open Go.RowKit

theorem any_mem (chars : List UInt8) : ∀ (l : List UInt8), Lib.containsAny l chars = false → ∀ b ∈ l, b ∉ chars
  | [], _, b, hb => by cases hb
  | x :: l, h, b, hb => by
    unfold Lib.containsAny at h
    have h := of_decide_eq_false h
    unfold Lib.indexAny at h
    by_cases hx : chars.contains x = true
    · rw [if_pos hx] at h; omega
    · rw [if_neg hx] at h
      rcases List.mem_cons.1 hb with rfl | hb
      · simpa using hx
      · refine any_mem chars l ?_ b hb
        unfold Lib.containsAny
        refine decide_eq_false ?_
        have hg := Lib.indexAny_ge chars l
        split at h
        · rename_i e; have : Lib.indexAny l chars = -1 := by simpa using e
          omega
        · omega
/-- Letter i of a text, as a number. -/
def sN (s : ByteArray) (i : Nat) : Int := ((s.data.getD i 0).toNat : Int)
theorem sN_range (s : ByteArray) (i : Nat) : 0 ≤ sN s i ∧ sN s i < 256 := by
  unfold sN
  have := (s.data.getD i 0).toNat_lt
  omega
theorem run_index_text (w : World) (s : ByteArray) (k : IntKind) (i : Nat) (hi : i < s.size) : (Instr.index 9 (.string s) (.int k i)).run Tryd.prog w = .ok (.int .u8 (sN s i)) w := by
  rw [run_index_string (P := Tryd.prog) (t := 9) (s := s) (k := k) (i := (i : Int)) (h := Tryd.underlying9)]
  rw [dif_pos ⟨by omega, by omega⟩]
  have e : s[((i : Int)).toNat]'(by omega) = s.data.getD i 0 := by
    simp only [Array.getD, Int.toNat_natCast]
    rw [dif_pos (show i < s.data.size from hi)]
    rfl
  rw [e]
  rfl
def hasF (s : ByteArray) (c : UInt8) : Bool := s.data.toList.contains c
theorem sN_eq (s : ByteArray) (c : UInt8) {i : Nat} (hi : i < s.size) : sN s i = (c.toNat : Int) ↔ s.data.toList[i]? = some c := by
  unfold sN
  have hi' : i < s.data.size := hi
  have e : s.data.toList[i]? = some (s.data.getD i 0) := by
    rw [Array.getElem?_toList, Array.getElem?_eq_getElem hi', Array.getD, dif_pos hi']; rfl
  rw [e]
  constructor
  · intro h
    congr 1
    exact UInt8.toNat_inj.1 (by omega)
  · intro h
    rw [Option.some.inj h]
theorem has_yes (s : ByteArray) (c : UInt8) {i : Nat} (hi : i < s.size) (h : sN s i = (c.toNat : Int)) : hasF s c = true := by
  have := (sN_eq s c hi).1 h
  unfold hasF
  rw [List.contains_iff_mem]
  exact List.mem_of_getElem? this
theorem has_no (s : ByteArray) (c : UInt8) (h : ∀ i, i < s.size → sN s i ≠ (c.toNat : Int)) : hasF s c = false := by
  unfold hasF
  cases e : s.data.toList.contains c with
  | false => rfl
  | true =>
    exfalso
    have hm := List.contains_iff_mem.1 e
    obtain ⟨i, hi, he⟩ := List.getElem_of_mem hm
    have hi' : i < s.size := by simpa using hi
    exact h i hi' ((sN_eq s c hi').2 (by rw [List.getElem?_eq_getElem hi, he]))

set_option maxHeartbeats 1000000 in
set_option maxRecDepth 100000 in
theorem has_any (s : ByteArray) (c : UInt8) (b : Int) (hb : b = (c.toNat : Int)) (w : World) (hs : s.size < 9223372036854775807) : Calls Tryd.prog 89 #[.string s, .int .u8 b] w fun e w' => e = .returned (.bool (hasF s c)) ∧ Below w.heap.size w w' := by
  have KY : Kept (∀ i, i < s.size → sN s i = b → hasF s c = true) := ⟨fun i hi h => has_yes s c hi (by rw [h, hb])⟩
  have KN : Kept ((∀ i, i < s.size → sN s i ≠ b) → hasF s c = false) := ⟨fun h => has_no s c (by rw [← hb]; exact h)⟩
  clear hb
  go_enter Tryd.func89, Tryd.ntmps89
  go_wp2
  go_loopw [5] (fun iv wr => ∃ k : Nat, k ≤ s.size ∧ iv = .int .i64 k ∧ wr = w ∧ ∀ j, j < k → sN s j ≠ b) (fun iv _ => s.size - (intOf iv).toNat)
  case atStart => exact ⟨0, by omega, rfl, rfl, fun j hj => by omega⟩
  case round =>
    obtain ⟨k, hk, rfl, rfl, hp⟩ := hrel
    have KP := Kept.mk hp
    clear hp
    by_cases hlt : k < s.size
    · have hd : ((k : Int) < (s.size : Int)) := by omega
      have hi := run_index_text wr s .i64 k hlt
      by_cases hx : sN s k = b
      · have KE := Kept.mk (KY.out k hlt hx)
        rw [hx] at hi
        clear hx
        go_wp2
        go_ret
        exact ⟨by rw [KE.out]; rfl, Below.refl _ _⟩
      · have KX := Kept.mk hx
        have hxb : (sN s k == b) = false := by simpa using hx
        generalize sN s k = x at hi hxb
        clear hx
        go_wp2
        refine ⟨⟨k + 1, by omega, by simp, trivial, fun j hj => ?_⟩, by simp [intOf]; omega⟩
        rcases Nat.lt_or_ge j k with h' | h'
        · exact KP.out j h'
        · rw [show j = k by omega]
          exact KX.out
    · have hd : ¬ ((k : Int) < (s.size : Int)) := by omega
      have KE := Kept.mk (KN.out (fun i hi => KP.out i (by omega)))
      go_wp2
      go_ret
      exact ⟨by rw [KE.out]; rfl, Below.refl _ _⟩

theorem any_no (chars : List UInt8) : ∀ (l : List UInt8), (∀ b ∈ l, b ∉ chars) → Lib.containsAny l chars = false
  | [], _ => by simp [Lib.containsAny, Lib.indexAny]
  | x :: l, h => by
    have ih := any_no chars l (fun b hb => h b (List.mem_cons_of_mem _ hb))
    unfold Lib.containsAny at ih ⊢
    have ih := of_decide_eq_false ih
    have hg := Lib.indexAny_ge chars l
    refine decide_eq_false ?_
    unfold Lib.indexAny
    rw [if_neg (by simpa using h x List.mem_cons_self), if_pos (by have : Lib.indexAny l chars = -1 := by omega
                                                                   simp [this])]
    omega
theorem who_has (s : ByteArray) : whoF s = (decide (s.size ≤ 100) && !hasF s 0 && !hasF s 10 && !hasF s 60 && !hasF s 62) := by
  unfold whoF hasF
  cases e : Lib.containsAny s.data.toList [0, 10, 60, 62] with
  | false =>
    have h := any_mem _ _ e
    have g : ∀ c ∈ ([0, 10, 60, 62] : List UInt8), s.data.toList.contains c = false := fun c hc => by
      cases e' : s.data.toList.contains c with
      | false => rfl
      | true => exact absurd hc (h c (List.contains_iff_mem.1 e'))
    rw [g 0 (by simp), g 10 (by simp), g 60 (by simp), g 62 (by simp)]
    simp
  | true =>
    cases e2 : (decide (s.size ≤ 100) && !s.data.toList.contains 0 && !s.data.toList.contains 10 && !s.data.toList.contains 60 && !s.data.toList.contains 62) with
    | false => simp
    | true =>
      exfalso
      simp only [Bool.and_eq_true, Bool.not_eq_true', decide_eq_true_eq] at e2
      obtain ⟨⟨⟨⟨_, a0⟩, a1⟩, a2⟩, a3⟩ := e2
      have := any_no [0, 10, 60, 62] s.data.toList (fun b hb hc => by
        have hb' := List.contains_iff_mem.2 hb
        simp only [List.mem_cons, List.not_mem_nil, or_false] at hc
        rcases hc with rfl | rfl | rfl | rfl
        · rw [a0] at hb'; cases hb'
        · rw [a1] at hb'; cases hb'
        · rw [a2] at hb'; cases hb'
        · rw [a3] at hb'; cases hb')
      rw [this] at e
      cases e

theorem lowN_dot (n : Nat) : lowN n = 46 ↔ n = 46 := by
  unfold lowN
  split <;> omega
theorem git_not4 {s : ByteArray} (h : ¬ s.size = 4) : gitF s = false := by
  unfold gitF
  refine decide_eq_false (fun e => h ?_)
  have := congrArg List.length e
  rw [List.length_map] at this
  rw [Lib.size_eq, this]
  rfl
set_option maxHeartbeats 1000000 in
set_option maxRecDepth 100000 in
theorem git_any (s : ByteArray) (w : World) : Calls Tryd.prog 90 #[.string s] w fun e w' => e = .returned (.bool (gitF s)) ∧ Below w.heap.size w w' := by
  by_cases h4 : s.size = 4
  · have KE : Kept (gitF s = decide ((s.data.getD 0 0).toNat = 46 ∧ lowN (s.data.getD 1 0).toNat = 103 ∧ lowN (s.data.getD 2 0).toNat = 105 ∧ lowN (s.data.getD 3 0).toNat = 116)) := ⟨by
      obtain ⟨x0, x1, x2, x3, rfl⟩ := four h4
      unfold gitF
      simp [lowN_dot]⟩
    have hi0 : (Instr.index 9 (.string s) (.int .i64 0)).run Tryd.prog w = .ok (.int .u8 (((s.data.getD 0 0).toNat : Nat) : Int)) w := run_index_text w s .i64 0 (by omega)
    have hi1 : (Instr.index 9 (.string s) (.int .i64 1)).run Tryd.prog w = .ok (.int .u8 (((s.data.getD 1 0).toNat : Nat) : Int)) w := run_index_text w s .i64 1 (by omega)
    have hi2 : (Instr.index 9 (.string s) (.int .i64 2)).run Tryd.prog w = .ok (.int .u8 (((s.data.getD 2 0).toNat : Nat) : Int)) w := run_index_text w s .i64 2 (by omega)
    have hi3 : (Instr.index 9 (.string s) (.int .i64 3)).run Tryd.prog w = .ok (.int .u8 (((s.data.getD 3 0).toNat : Nat) : Int)) w := run_index_text w s .i64 3 (by omega)
    have KL1 := Kept.mk (rlower_any (s.data.getD 1 0).toNat w (s.data.getD 1 0).toNat_lt)
    have KL2 := Kept.mk (rlower_any (s.data.getD 2 0).toNat w (s.data.getD 2 0).toNat_lt)
    have KL3 := Kept.mk (rlower_any (s.data.getD 3 0).toNat w (s.data.getD 3 0).toNat_lt)
    have hsz : ((s.size : Int) == 4) = true := by simp; omega
    generalize (s.data.getD 0 0).toNat = y0 at *
    generalize (s.data.getD 1 0).toNat = y1 at *
    generalize (s.data.getD 2 0).toNat = y2 at *
    generalize (s.data.getD 3 0).toNat = y3 at *
    generalize lowN y1 = l1 at *
    generalize lowN y2 = l2 at *
    generalize lowN y3 = l3 at *
    by_cases g0 : y0 = 46
    · have f0 : ((y0 : Int) == 46) = true := by simp; omega
      go_enter Tryd.func90, Tryd.ntmps90
      go_wp2_with fail
      refine Calls.mono KL1.out (fun e w1 hp => ?_)
      obtain ⟨rfl, rfl⟩ := hp
      by_cases g1 : l1 = 103
      · have f1 : ((l1 : Int) == 103) = true := by simp; omega
        go_wp2_with fail
        refine Calls.mono KL2.out (fun e w2 hp => ?_)
        obtain ⟨rfl, rfl⟩ := hp
        by_cases g2 : l2 = 105
        · have f2 : ((l2 : Int) == 105) = true := by simp; omega
          go_wp2_with fail
          refine Calls.mono KL3.out (fun e w3 hp => ?_)
          obtain ⟨rfl, rfl⟩ := hp
          by_cases g3 : l3 = 116
          · have f3 : ((l3 : Int) == 116) = true := by simp; omega
            have KF : Kept (gitF s = true) := ⟨by rw [KE.out]; exact decide_eq_true ⟨g0, g1, g2, g3⟩⟩
            go_wp2
            go_ret
            exact ⟨by rw [KF.out]; rfl, Below.refl _ _⟩
          · have f3 : ((l3 : Int) == 116) = false := by simp; omega
            have KF : Kept (gitF s = false) := ⟨by rw [KE.out]; exact decide_eq_false (fun h => g3 h.2.2.2)⟩
            go_wp2
            go_ret
            exact ⟨by rw [KF.out]; rfl, Below.refl _ _⟩
        · have f2 : ((l2 : Int) == 105) = false := by simp; omega
          have KF : Kept (gitF s = false) := ⟨by rw [KE.out]; exact decide_eq_false (fun h => g2 h.2.2.1)⟩
          go_wp2
          go_ret
          exact ⟨by rw [KF.out]; rfl, Below.refl _ _⟩
      · have f1 : ((l1 : Int) == 103) = false := by simp; omega
        have KF : Kept (gitF s = false) := ⟨by rw [KE.out]; exact decide_eq_false (fun h => g1 h.2.1)⟩
        go_wp2
        go_ret
        exact ⟨by rw [KF.out]; rfl, Below.refl _ _⟩
    · have f0 : ((y0 : Int) == 46) = false := by simp; omega
      have KF : Kept (gitF s = false) := ⟨by rw [KE.out]; exact decide_eq_false (fun h => g0 h.1)⟩
      go_enter Tryd.func90, Tryd.ntmps90
      go_wp2
      go_ret
      exact ⟨by rw [KF.out]; rfl, Below.refl _ _⟩
  · have KF := Kept.mk (git_not4 h4)
    have hd : ((s.size : Int) == 4) = false := by simp; omega
    go_enter Tryd.func90, Tryd.ntmps90
    go_wp2
    go_ret
    exact ⟨by rw [KF.out]; rfl, Below.refl _ _⟩


theorem str_eq (s t : ByteArray) : (s.toList == t.toList) = decide (s = t) := by
  rw [Lib.toList_data, Lib.toList_data]
  by_cases h : s = t
  · subst h
    simp
  · have hd : ¬ s.data = t.data := fun e => h (by cases s; cases t; simp only at e; subst e; rfl)
    simp [h, hd]

theorem any_two (s : ByteArray) : Lib.containsAny s.data.toList [47, 0] = (hasF s 47 || hasF s 0) := by
  unfold hasF
  cases e : Lib.containsAny s.data.toList [47, 0] with
  | false =>
    have h := any_mem _ _ e
    have g : ∀ c ∈ ([47, 0] : List UInt8), s.data.toList.contains c = false := fun c hc => by
      cases e' : s.data.toList.contains c with
      | false => rfl
      | true => exact absurd hc (h c (List.contains_iff_mem.1 e'))
    rw [g 47 (by simp), g 0 (by simp)]
    rfl
  | true =>
    cases e2 : (s.data.toList.contains 47 || s.data.toList.contains 0) with
    | true => rfl
    | false =>
      exfalso
      simp only [Bool.or_eq_false_iff] at e2
      have := any_no [47, 0] s.data.toList (fun b hb hc => by
        have hb' := List.contains_iff_mem.2 hb
        simp only [List.mem_cons, List.not_mem_nil, or_false] at hc
        rcases hc with rfl | rfl
        · rw [e2.1] at hb'; cases hb'
        · rw [e2.2] at hb'; cases hb')
      rw [this] at e
      cases e
theorem name_has (s : ByteArray) : nameF s = (decide (1 ≤ s.size) && decide (s.size ≤ 100) && !hasF s 47 && !hasF s 0 && !(s.toList == [46]) && !(s.toList == [46, 46]) && !gitF s) := by
  unfold nameF
  rw [any_two]
  have e1 : (s.toList == [46]) = decide (s = ⟨#[46]⟩) := by
    have := str_eq s ⟨#[46]⟩
    rw [Lib.toList_data ⟨#[46]⟩] at this
    exact this
  have e2 : (s.toList == [46, 46]) = decide (s = ⟨#[46, 46]⟩) := by
    have := str_eq s ⟨#[46, 46]⟩
    rw [Lib.toList_data ⟨#[46, 46]⟩] at this
    exact this
  rw [e1, e2]
  cases decide (1 ≤ s.size) <;> cases decide (s.size ≤ 100) <;> cases hasF s 47 <;> cases hasF s 0 <;> rfl
set_option maxHeartbeats 1000000 in
set_option maxRecDepth 100000 in
theorem rname_any (s : ByteArray) (w : World) : Calls Tryd.prog 67 #[.string s] w fun e w' => e = .returned (.bool (nameF s)) ∧ Below w.heap.size w w' := by
  rw [name_has]
  by_cases h1 : 1 ≤ s.size
  · have i1 : decide (1 ≤ (s.size : Int)) = true := by simp; omega
    rw [decide_eq_true h1]
    by_cases h2 : s.size ≤ 100
    · have i2 : decide ((s.size : Int) ≤ 100) = true := by simp; omega
      rw [decide_eq_true h2]
      have K0 : Kept (∀ w, Calls Tryd.prog 89 #[.string s, .int .u8 47] w fun e w' => e = .returned (.bool (hasF s 47)) ∧ Below w.heap.size w w') := ⟨fun w => has_any s 47 47 rfl w (by omega)⟩
      have K1 : Kept (∀ w, Calls Tryd.prog 89 #[.string s, .int .u8 0] w fun e w' => e = .returned (.bool (hasF s 0)) ∧ Below w.heap.size w w') := ⟨fun w => has_any s 0 0 rfl w (by omega)⟩
      have K2 : Kept (∀ w, Calls Tryd.prog 90 #[.string s] w fun e w' => e = .returned (.bool (gitF s)) ∧ Below w.heap.size w w') := ⟨fun w => git_any s w⟩
      generalize hasF s 47 = q0 at *
      generalize hasF s 0 = q1 at *
      generalize gitF s = g at *
      obtain ⟨b1, hb1⟩ : ∃ b, (s.toList == [46]) = b := ⟨_, rfl⟩
      obtain ⟨b2, hb2⟩ : ∃ b, (s.toList == [46, 46]) = b := ⟨_, rfl⟩
      rw [hb1, hb2]
      clear h1 h2
      cases q0
      · cases q1
        · cases b1
          · cases b2
            · go_enter Tryd.func67, Tryd.ntmps67
              go_wp2_with fail
              refine Calls.mono (K0.out w) (fun e w1 hp => ?_)
              obtain ⟨rfl, hb⟩ := hp
              have KB1 := Kept.mk hb
              clear hb K0
              go_wp2_with fail
              refine Calls.mono (K1.out w1) (fun e w2 hp => ?_)
              obtain ⟨rfl, hb⟩ := hp
              have KB2 := Kept.mk (KB1.out.trans (hb.mono KB1.out.size))
              clear hb K1 KB1
              go_wp2_with fail
              refine Calls.mono (K2.out w2) (fun e w3 hp => ?_)
              obtain ⟨rfl, hb⟩ := hp
              have KB3 := Kept.mk (KB2.out.trans (hb.mono KB2.out.size))
              clear hb K2 KB2
              go_wp2
              go_ret
              exact ⟨by cases g <;> rfl, KB3.out⟩
            · go_enter Tryd.func67, Tryd.ntmps67
              go_wp2_with fail
              refine Calls.mono (K0.out w) (fun e w1 hp => ?_)
              obtain ⟨rfl, hb⟩ := hp
              have KB1 := Kept.mk hb
              clear hb K0
              go_wp2_with fail
              refine Calls.mono (K1.out w1) (fun e w2 hp => ?_)
              obtain ⟨rfl, hb⟩ := hp
              have KB2 := Kept.mk (KB1.out.trans (hb.mono KB1.out.size))
              clear hb K1 KB1
              go_wp2
              go_ret
              exact ⟨rfl, KB2.out⟩
          · go_enter Tryd.func67, Tryd.ntmps67
            go_wp2_with fail
            refine Calls.mono (K0.out w) (fun e w1 hp => ?_)
            obtain ⟨rfl, hb⟩ := hp
            have KB1 := Kept.mk hb
            clear hb K0
            go_wp2_with fail
            refine Calls.mono (K1.out w1) (fun e w2 hp => ?_)
            obtain ⟨rfl, hb⟩ := hp
            have KB2 := Kept.mk (KB1.out.trans (hb.mono KB1.out.size))
            clear hb K1 KB1
            go_wp2
            go_ret
            exact ⟨rfl, KB2.out⟩
        · go_enter Tryd.func67, Tryd.ntmps67
          go_wp2_with fail
          refine Calls.mono (K0.out w) (fun e w1 hp => ?_)
          obtain ⟨rfl, hb⟩ := hp
          have KB1 := Kept.mk hb
          clear hb K0
          go_wp2_with fail
          refine Calls.mono (K1.out w1) (fun e w2 hp => ?_)
          obtain ⟨rfl, hb⟩ := hp
          have KB2 := Kept.mk (KB1.out.trans (hb.mono KB1.out.size))
          clear hb K1 KB1
          go_wp2
          go_ret
          exact ⟨rfl, KB2.out⟩
      · go_enter Tryd.func67, Tryd.ntmps67
        go_wp2_with fail
        refine Calls.mono (K0.out w) (fun e w1 hp => ?_)
        obtain ⟨rfl, hb⟩ := hp
        have KB1 := Kept.mk hb
        clear hb K0
        go_wp2
        go_ret
        exact ⟨rfl, KB1.out⟩
    · have i2 : decide ((s.size : Int) ≤ 100) = false := by simp; omega
      rw [decide_eq_false h2]
      clear h1 h2
      go_enter Tryd.func67, Tryd.ntmps67
      go_wp2
      go_ret
      exact ⟨rfl, Below.refl _ _⟩
  · have i1 : decide (1 ≤ (s.size : Int)) = false := by simp; omega
    rw [decide_eq_false h1]
    clear h1
    go_enter Tryd.func67, Tryd.ntmps67
    go_wp2
    go_ret
    exact ⟨rfl, Below.refl _ _⟩
end Go.Proofs.YthkaohkondkhgaaDoor
