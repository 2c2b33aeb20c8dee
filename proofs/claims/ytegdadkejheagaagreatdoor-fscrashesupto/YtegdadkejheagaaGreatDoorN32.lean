/-
  Walks: the document's lower; Mode, the program's and the document's.
-/
import Derived.Test.YtegdadkejheagaaGreatDoorN9
import Derived.Maps.AppendAt
namespace Go.Proofs.YtegdadkejheagaaGreatDoor
open Go.RowKit

set_option maxHeartbeats 400000 in
set_option maxRecDepth 100000 in
theorem rlower_any (n : Nat) (w : World) (hn : n < 256) : Calls Tryz.prog 92 #[.int .u8 n] w fun e w' => e = .returned (.int .u8 (lowN n)) ∧ w' = w := by
  unfold lowN
  by_cases h1 : 65 ≤ n
  · have h1i : (65 : Int) ≤ (n : Int) := by omega
    by_cases h2 : n ≤ 90
    · have h2i : (n : Int) ≤ 90 := by omega
      go_enter Tryz.func92, Tryz.ntmps92
      go_wp2
      go_ret
      have e : (n : Int) - 65 + 97 = (n : Int) + 32 := by omega
      rw [← e]
      exact ⟨rfl, rfl⟩
    · have h2i : ¬ (n : Int) ≤ 90 := by omega
      go_enter Tryz.func92, Tryz.ntmps92
      go_wp2
      go_ret
      exact ⟨rfl, rfl⟩
  · have h1i : ¬ (65 : Int) ≤ (n : Int) := by omega
    go_enter Tryz.func92, Tryz.ntmps92
    go_wp2
    go_ret
    exact ⟨rfl, rfl⟩

/-- Is it .git, in whatever letters? -/

def modF (m : Int) : Bool := decide (m = 16384) || decide (m = 33188) || decide (m = 33261) || decide (m = 40960)
theorem any_mem (chars : List UInt8) : ∀ (l : List UInt8), Lib.containsAny l chars = false → ∀ b ∈ l, b ∉ chars
  | [], _, b, hb => by cases hb
  | x :: l, h, b, hb => by
    unfold Lib.containsAny at h
    have h := of_decide_eq_false h
    unfold Lib.indexAny at h
    by_cases hx : chars.contains x = true
    · rw [if_pos hx] at h; omega
    · rw [if_neg hx] at h
      rcases List.mem_cons.1 hb with rfl | hb
      · simpa using hx
      · refine any_mem chars l ?_ b hb
        unfold Lib.containsAny
        refine decide_eq_false ?_
        have hg := Lib.indexAny_ge chars l
        split at h
        · rename_i e; have : Lib.indexAny l chars = -1 := by simpa using e
          omega
        · omega
/-- Letter i of a text, as a number. -/
def sN (s : ByteArray) (i : Nat) : Int := ((s.data.getD i 0).toNat : Int)
theorem sN_range (s : ByteArray) (i : Nat) : 0 ≤ sN s i ∧ sN s i < 256 := by
  unfold sN
  have := (s.data.getD i 0).toNat_lt
  omega
theorem run_index_text (w : World) (s : ByteArray) (k : IntKind) (i : Nat) (hi : i < s.size) : (Instr.index 9 (.string s) (.int k i)).run Tryz.prog w = .ok (.int .u8 (sN s i)) w := by
  rw [run_index_string (P := Tryz.prog) (t := 9) (s := s) (k := k) (i := (i : Int)) (h := Tryz.underlying9)]
  rw [dif_pos ⟨by omega, by omega⟩]
  have e : s[((i : Int)).toNat]'(by omega) = s.data.getD i 0 := by
    simp only [Array.getD, Int.toNat_natCast]
    rw [dif_pos (show i < s.data.size from hi)]
    rfl
  rw [e]
  rfl
def hasF (s : ByteArray) (c : UInt8) : Bool := s.data.toList.contains c
theorem sN_eq (s : ByteArray) (c : UInt8) {i : Nat} (hi : i < s.size) : sN s i = (c.toNat : Int) ↔ s.data.toList[i]? = some c := by
  unfold sN
  have hi' : i < s.data.size := hi
  have e : s.data.toList[i]? = some (s.data.getD i 0) := by
    rw [Array.getElem?_toList, Array.getElem?_eq_getElem hi', Array.getD, dif_pos hi']; rfl
  rw [e]
  constructor
  · intro h
    congr 1
    exact UInt8.toNat_inj.1 (by omega)
  · intro h
    rw [Option.some.inj h]
theorem has_yes (s : ByteArray) (c : UInt8) {i : Nat} (hi : i < s.size) (h : sN s i = (c.toNat : Int)) : hasF s c = true := by
  have := (sN_eq s c hi).1 h
  unfold hasF
  rw [List.contains_iff_mem]
  exact List.mem_of_getElem? this
theorem has_no (s : ByteArray) (c : UInt8) (h : ∀ i, i < s.size → sN s i ≠ (c.toNat : Int)) : hasF s c = false := by
  unfold hasF
  cases e : s.data.toList.contains c with
  | false => rfl
  | true =>
    exfalso
    have hm := List.contains_iff_mem.1 e
    obtain ⟨i, hi, he⟩ := List.getElem_of_mem hm
    have hi' : i < s.size := by simpa using hi
    exact h i hi' ((sN_eq s c hi').2 (by rw [List.getElem?_eq_getElem hi, he]))

set_option maxHeartbeats 1000000 in
set_option maxRecDepth 100000 in
theorem has_any (s : ByteArray) (c : UInt8) (b : Int) (hb : b = (c.toNat : Int)) (w : World) (hs : s.size < 9223372036854775807) : Calls Tryz.prog 76 #[.string s, .int .u8 b] w fun e w' => e = .returned (.bool (hasF s c)) ∧ Below w.heap.size w w' := by
  have KY : Kept (∀ i, i < s.size → sN s i = b → hasF s c = true) := ⟨fun i hi h => has_yes s c hi (by rw [h, hb])⟩
  have KN : Kept ((∀ i, i < s.size → sN s i ≠ b) → hasF s c = false) := ⟨fun h => has_no s c (by rw [← hb]; exact h)⟩
  clear hb
  go_enter Tryz.func76, Tryz.ntmps76
  go_wp2
  go_loopw [5] (fun iv wr => ∃ k : Nat, k ≤ s.size ∧ iv = .int .i64 k ∧ wr = w ∧ ∀ j, j < k → sN s j ≠ b) (fun iv _ => s.size - (intOf iv).toNat)
  case atStart => exact ⟨0, by omega, rfl, rfl, fun j hj => by omega⟩
  case round =>
    obtain ⟨k, hk, rfl, rfl, hp⟩ := hrel
    have KP := Kept.mk hp
    clear hp
    by_cases hlt : k < s.size
    · have hd : ((k : Int) < (s.size : Int)) := by omega
      have hi := run_index_text wr s .i64 k hlt
      by_cases hx : sN s k = b
      · have KE := Kept.mk (KY.out k hlt hx)
        rw [hx] at hi
        clear hx
        go_wp2
        go_ret
        exact ⟨by rw [KE.out]; rfl, Below.refl _ _⟩
      · have KX := Kept.mk hx
        have hxb : (sN s k == b) = false := by simpa using hx
        generalize sN s k = x at hi hxb
        clear hx
        go_wp2
        refine ⟨⟨k + 1, by omega, by simp, trivial, fun j hj => ?_⟩, by simp [intOf]; omega⟩
        rcases Nat.lt_or_ge j k with h' | h'
        · exact KP.out j h'
        · rw [show j = k by omega]
          exact KX.out
    · have hd : ¬ ((k : Int) < (s.size : Int)) := by omega
      have KE := Kept.mk (KN.out (fun i hi => KP.out i (by omega)))
      go_wp2
      go_ret
      exact ⟨by rw [KE.out]; rfl, Below.refl _ _⟩

theorem any_no (chars : List UInt8) : ∀ (l : List UInt8), (∀ b ∈ l, b ∉ chars) → Lib.containsAny l chars = false
  | [], _ => by simp [Lib.containsAny, Lib.indexAny]
  | x :: l, h => by
    have ih := any_no chars l (fun b hb => h b (List.mem_cons_of_mem _ hb))
    unfold Lib.containsAny at ih ⊢
    have ih := of_decide_eq_false ih
    have hg := Lib.indexAny_ge chars l
    refine decide_eq_false ?_
    unfold Lib.indexAny
    rw [if_neg (by simpa using h x List.mem_cons_self), if_pos (by have : Lib.indexAny l chars = -1 := by omega
                                                                   simp [this])]
    omega
theorem who_has (s : ByteArray) : whoF s = (decide (s.size ≤ 100) && !hasF s 0 && !hasF s 10 && !hasF s 60 && !hasF s 62) := by
  unfold whoF hasF
  cases e : Lib.containsAny s.data.toList [0, 10, 60, 62] with
  | false =>
    have h := any_mem _ _ e
    have g : ∀ c ∈ ([0, 10, 60, 62] : List UInt8), s.data.toList.contains c = false := fun c hc => by
      cases e' : s.data.toList.contains c with
      | false => rfl
      | true => exact absurd hc (h c (List.contains_iff_mem.1 e'))
    rw [g 0 (by simp), g 10 (by simp), g 60 (by simp), g 62 (by simp)]
    simp
  | true =>
    cases e2 : (decide (s.size ≤ 100) && !s.data.toList.contains 0 && !s.data.toList.contains 10 && !s.data.toList.contains 60 && !s.data.toList.contains 62) with
    | false => simp
    | true =>
      exfalso
      simp only [Bool.and_eq_true, Bool.not_eq_true', decide_eq_true_eq] at e2
      obtain ⟨⟨⟨⟨_, a0⟩, a1⟩, a2⟩, a3⟩ := e2
      have := any_no [0, 10, 60, 62] s.data.toList (fun b hb hc => by
        have hb' := List.contains_iff_mem.2 hb
        simp only [List.mem_cons, List.not_mem_nil, or_false] at hc
        rcases hc with rfl | rfl | rfl | rfl
        · rw [a0] at hb'; cases hb'
        · rw [a1] at hb'; cases hb'
        · rw [a2] at hb'; cases hb'
        · rw [a3] at hb'; cases hb')
      rw [this] at e
      cases e

theorem lowN_dot (n : Nat) : lowN n = 46 ↔ n = 46 := by
  unfold lowN
  split <;> omega
theorem git_not4 {s : ByteArray} (h : ¬ s.size = 4) : gitF s = false := by
  unfold gitF
  refine decide_eq_false (fun e => h ?_)
  have := congrArg List.length e
  rw [List.length_map] at this
  rw [Lib.size_eq, this]
  rfl
set_option maxHeartbeats 1000000 in
set_option maxRecDepth 100000 in
theorem git_any (s : ByteArray) (w : World) : Calls Tryz.prog 77 #[.string s] w fun e w' => e = .returned (.bool (gitF s)) ∧ Below w.heap.size w w' := by
  by_cases h4 : s.size = 4
  · have KE : Kept (gitF s = decide ((s.data.getD 0 0).toNat = 46 ∧ lowN (s.data.getD 1 0).toNat = 103 ∧ lowN (s.data.getD 2 0).toNat = 105 ∧ lowN (s.data.getD 3 0).toNat = 116)) := ⟨by
      obtain ⟨x0, x1, x2, x3, rfl⟩ := four h4
      unfold gitF
      simp [lowN_dot]⟩
    have hi0 : (Instr.index 9 (.string s) (.int .i64 0)).run Tryz.prog w = .ok (.int .u8 (((s.data.getD 0 0).toNat : Nat) : Int)) w := run_index_text w s .i64 0 (by omega)
    have hi1 : (Instr.index 9 (.string s) (.int .i64 1)).run Tryz.prog w = .ok (.int .u8 (((s.data.getD 1 0).toNat : Nat) : Int)) w := run_index_text w s .i64 1 (by omega)
    have hi2 : (Instr.index 9 (.string s) (.int .i64 2)).run Tryz.prog w = .ok (.int .u8 (((s.data.getD 2 0).toNat : Nat) : Int)) w := run_index_text w s .i64 2 (by omega)
    have hi3 : (Instr.index 9 (.string s) (.int .i64 3)).run Tryz.prog w = .ok (.int .u8 (((s.data.getD 3 0).toNat : Nat) : Int)) w := run_index_text w s .i64 3 (by omega)
    have KL1 := Kept.mk (rlower_any (s.data.getD 1 0).toNat w (s.data.getD 1 0).toNat_lt)
    have KL2 := Kept.mk (rlower_any (s.data.getD 2 0).toNat w (s.data.getD 2 0).toNat_lt)
    have KL3 := Kept.mk (rlower_any (s.data.getD 3 0).toNat w (s.data.getD 3 0).toNat_lt)
    have hsz : ((s.size : Int) == 4) = true := by simp; omega
    generalize (s.data.getD 0 0).toNat = y0 at *
    generalize (s.data.getD 1 0).toNat = y1 at *
    generalize (s.data.getD 2 0).toNat = y2 at *
    generalize (s.data.getD 3 0).toNat = y3 at *
    generalize lowN y1 = l1 at *
    generalize lowN y2 = l2 at *
    generalize lowN y3 = l3 at *
    by_cases g0 : y0 = 46
    · have f0 : ((y0 : Int) == 46) = true := by simp; omega
      go_enter Tryz.func77, Tryz.ntmps77
      go_wp2_with fail
      refine Calls.mono KL1.out (fun e w1 hp => ?_)
      obtain ⟨rfl, rfl⟩ := hp
      by_cases g1 : l1 = 103
      · have f1 : ((l1 : Int) == 103) = true := by simp; omega
        go_wp2_with fail
        refine Calls.mono KL2.out (fun e w2 hp => ?_)
        obtain ⟨rfl, rfl⟩ := hp
        by_cases g2 : l2 = 105
        · have f2 : ((l2 : Int) == 105) = true := by simp; omega
          go_wp2_with fail
          refine Calls.mono KL3.out (fun e w3 hp => ?_)
          obtain ⟨rfl, rfl⟩ := hp
          by_cases g3 : l3 = 116
          · have f3 : ((l3 : Int) == 116) = true := by simp; omega
            have KF : Kept (gitF s = true) := ⟨by rw [KE.out]; exact decide_eq_true ⟨g0, g1, g2, g3⟩⟩
            go_wp2
            go_ret
            exact ⟨by rw [KF.out]; rfl, Below.refl _ _⟩
          · have f3 : ((l3 : Int) == 116) = false := by simp; omega
            have KF : Kept (gitF s = false) := ⟨by rw [KE.out]; exact decide_eq_false (fun h => g3 h.2.2.2)⟩
            go_wp2
            go_ret
            exact ⟨by rw [KF.out]; rfl, Below.refl _ _⟩
        · have f2 : ((l2 : Int) == 105) = false := by simp; omega
          have KF : Kept (gitF s = false) := ⟨by rw [KE.out]; exact decide_eq_false (fun h => g2 h.2.2.1)⟩
          go_wp2
          go_ret
          exact ⟨by rw [KF.out]; rfl, Below.refl _ _⟩
      · have f1 : ((l1 : Int) == 103) = false := by simp; omega
        have KF : Kept (gitF s = false) := ⟨by rw [KE.out]; exact decide_eq_false (fun h => g1 h.2.1)⟩
        go_wp2
        go_ret
        exact ⟨by rw [KF.out]; rfl, Below.refl _ _⟩
    · have f0 : ((y0 : Int) == 46) = false := by simp; omega
      have KF : Kept (gitF s = false) := ⟨by rw [KE.out]; exact decide_eq_false (fun h => g0 h.1)⟩
      go_enter Tryz.func77, Tryz.ntmps77
      go_wp2
      go_ret
      exact ⟨by rw [KF.out]; rfl, Below.refl _ _⟩
  · have KF := Kept.mk (git_not4 h4)
    have hd : ((s.size : Int) == 4) = false := by simp; omega
    go_enter Tryz.func77, Tryz.ntmps77
    go_wp2
    go_ret
    exact ⟨by rw [KF.out]; rfl, Below.refl _ _⟩


theorem str_eq (s t : ByteArray) : (s.toList == t.toList) = decide (s = t) := by
  rw [Lib.toList_data, Lib.toList_data]
  by_cases h : s = t
  · subst h
    simp
  · have hd : ¬ s.data = t.data := fun e => h (by cases s; cases t; simp only at e; subst e; rfl)
    simp [h, hd]

theorem any_two (s : ByteArray) : Lib.containsAny s.data.toList [47, 0] = (hasF s 47 || hasF s 0) := by
  unfold hasF
  cases e : Lib.containsAny s.data.toList [47, 0] with
  | false =>
    have h := any_mem _ _ e
    have g : ∀ c ∈ ([47, 0] : List UInt8), s.data.toList.contains c = false := fun c hc => by
      cases e' : s.data.toList.contains c with
      | false => rfl
      | true => exact absurd hc (h c (List.contains_iff_mem.1 e'))
    rw [g 47 (by simp), g 0 (by simp)]
    rfl
  | true =>
    cases e2 : (s.data.toList.contains 47 || s.data.toList.contains 0) with
    | true => rfl
    | false =>
      exfalso
      simp only [Bool.or_eq_false_iff] at e2
      have := any_no [47, 0] s.data.toList (fun b hb hc => by
        have hb' := List.contains_iff_mem.2 hb
        simp only [List.mem_cons, List.not_mem_nil, or_false] at hc
        rcases hc with rfl | rfl
        · rw [e2.1] at hb'; cases hb'
        · rw [e2.2] at hb'; cases hb')
      rw [this] at e
      cases e
theorem name_has (s : ByteArray) : nameF s = (decide (1 ≤ s.size) && decide (s.size ≤ 100) && !hasF s 47 && !hasF s 0 && !(s.toList == [46]) && !(s.toList == [46, 46]) && !gitF s) := by
  unfold nameF
  rw [any_two]
  have e1 : (s.toList == [46]) = decide (s = ⟨#[46]⟩) := by
    have := str_eq s ⟨#[46]⟩
    rw [Lib.toList_data ⟨#[46]⟩] at this
    exact this
  have e2 : (s.toList == [46, 46]) = decide (s = ⟨#[46, 46]⟩) := by
    have := str_eq s ⟨#[46, 46]⟩
    rw [Lib.toList_data ⟨#[46, 46]⟩] at this
    exact this
  rw [e1, e2]
  cases decide (1 ≤ s.size) <;> cases decide (s.size ≤ 100) <;> cases hasF s 47 <;> cases hasF s 0 <;> rfl
set_option maxHeartbeats 1000000 in
set_option maxRecDepth 100000 in
theorem rname_any (s : ByteArray) (w : World) : Calls Tryz.prog 68 #[.string s] w fun e w' => e = .returned (.bool (nameF s)) ∧ Below w.heap.size w w' := by
  rw [name_has]
  by_cases h1 : 1 ≤ s.size
  · have i1 : decide (1 ≤ (s.size : Int)) = true := by simp; omega
    rw [decide_eq_true h1]
    by_cases h2 : s.size ≤ 100
    · have i2 : decide ((s.size : Int) ≤ 100) = true := by simp; omega
      rw [decide_eq_true h2]
      have K0 : Kept (∀ w, Calls Tryz.prog 76 #[.string s, .int .u8 47] w fun e w' => e = .returned (.bool (hasF s 47)) ∧ Below w.heap.size w w') := ⟨fun w => has_any s 47 47 rfl w (by omega)⟩
      have K1 : Kept (∀ w, Calls Tryz.prog 76 #[.string s, .int .u8 0] w fun e w' => e = .returned (.bool (hasF s 0)) ∧ Below w.heap.size w w') := ⟨fun w => has_any s 0 0 rfl w (by omega)⟩
      have K2 : Kept (∀ w, Calls Tryz.prog 77 #[.string s] w fun e w' => e = .returned (.bool (gitF s)) ∧ Below w.heap.size w w') := ⟨fun w => git_any s w⟩
      generalize hasF s 47 = q0 at *
      generalize hasF s 0 = q1 at *
      generalize gitF s = g at *
      obtain ⟨b1, hb1⟩ : ∃ b, (s.toList == [46]) = b := ⟨_, rfl⟩
      obtain ⟨b2, hb2⟩ : ∃ b, (s.toList == [46, 46]) = b := ⟨_, rfl⟩
      rw [hb1, hb2]
      clear h1 h2
      cases q0
      · cases q1
        · cases b1
          · cases b2
            · go_enter Tryz.func68, Tryz.ntmps68
              go_wp2_with fail
              refine Calls.mono (K0.out w) (fun e w1 hp => ?_)
              obtain ⟨rfl, hb⟩ := hp
              have KB1 := Kept.mk hb
              clear hb K0
              go_wp2_with fail
              refine Calls.mono (K1.out w1) (fun e w2 hp => ?_)
              obtain ⟨rfl, hb⟩ := hp
              have KB2 := Kept.mk (KB1.out.trans (hb.mono KB1.out.size))
              clear hb K1 KB1
              go_wp2_with fail
              refine Calls.mono (K2.out w2) (fun e w3 hp => ?_)
              obtain ⟨rfl, hb⟩ := hp
              have KB3 := Kept.mk (KB2.out.trans (hb.mono KB2.out.size))
              clear hb K2 KB2
              go_wp2
              go_ret
              exact ⟨by cases g <;> rfl, KB3.out⟩
            · go_enter Tryz.func68, Tryz.ntmps68
              go_wp2_with fail
              refine Calls.mono (K0.out w) (fun e w1 hp => ?_)
              obtain ⟨rfl, hb⟩ := hp
              have KB1 := Kept.mk hb
              clear hb K0
              go_wp2_with fail
              refine Calls.mono (K1.out w1) (fun e w2 hp => ?_)
              obtain ⟨rfl, hb⟩ := hp
              have KB2 := Kept.mk (KB1.out.trans (hb.mono KB1.out.size))
              clear hb K1 KB1
              go_wp2
              go_ret
              exact ⟨rfl, KB2.out⟩
          · go_enter Tryz.func68, Tryz.ntmps68
            go_wp2_with fail
            refine Calls.mono (K0.out w) (fun e w1 hp => ?_)
            obtain ⟨rfl, hb⟩ := hp
            have KB1 := Kept.mk hb
            clear hb K0
            go_wp2_with fail
            refine Calls.mono (K1.out w1) (fun e w2 hp => ?_)
            obtain ⟨rfl, hb⟩ := hp
            have KB2 := Kept.mk (KB1.out.trans (hb.mono KB1.out.size))
            clear hb K1 KB1
            go_wp2
            go_ret
            exact ⟨rfl, KB2.out⟩
        · go_enter Tryz.func68, Tryz.ntmps68
          go_wp2_with fail
          refine Calls.mono (K0.out w) (fun e w1 hp => ?_)
          obtain ⟨rfl, hb⟩ := hp
          have KB1 := Kept.mk hb
          clear hb K0
          go_wp2_with fail
          refine Calls.mono (K1.out w1) (fun e w2 hp => ?_)
          obtain ⟨rfl, hb⟩ := hp
          have KB2 := Kept.mk (KB1.out.trans (hb.mono KB1.out.size))
          clear hb K1 KB1
          go_wp2
          go_ret
          exact ⟨rfl, KB2.out⟩
      · go_enter Tryz.func68, Tryz.ntmps68
        go_wp2_with fail
        refine Calls.mono (K0.out w) (fun e w1 hp => ?_)
        obtain ⟨rfl, hb⟩ := hp
        have KB1 := Kept.mk hb
        clear hb K0
        go_wp2
        go_ret
        exact ⟨rfl, KB1.out⟩
    · have i2 : decide ((s.size : Int) ≤ 100) = false := by simp; omega
      rw [decide_eq_false h2]
      clear h1 h2
      go_enter Tryz.func68, Tryz.ntmps68
      go_wp2
      go_ret
      exact ⟨rfl, Below.refl _ _⟩
  · have i1 : decide (1 ≤ (s.size : Int)) = false := by simp; omega
    rw [decide_eq_false h1]
    clear h1
    go_enter Tryz.func68, Tryz.ntmps68
    go_wp2
    go_ret
    exact ⟨rfl, Below.refl _ _⟩


/-- A text cut at each slash. -/
def cutL : List UInt8 → List (List UInt8)
  | [] => [[]]
  | c :: l => if c = 47 then [] :: cutL l else match cutL l with
    | p :: ps => (c :: p) :: ps
    | [] => [[c]]
theorem cutL_app (b : List UInt8) : ∀ a : List UInt8, cutL (a ++ 47 :: b) = cutL a ++ cutL b
  | [] => by simp [cutL]
  | c :: l => by
    have ih := cutL_app b l
    rw [List.cons_append, cutL, cutL]
    by_cases h : c = 47
    · rw [if_pos h, if_pos h, ih]; rfl
    · rw [if_neg h, if_neg h, ih]
      cases e : cutL l with
      | nil =>
        exfalso
        cases l with
        | nil => simp [cutL] at e
        | cons x l =>
          unfold cutL at e
          split at e
          · cases e
          · split at e <;> cases e
      | cons p ps => rfl
theorem cutL_none : ∀ a : List UInt8, (∀ c ∈ a, c ≠ 47) → cutL a = [a]
  | [], _ => rfl
  | c :: l, h => by
    rw [cutL, if_neg (h c List.mem_cons_self), cutL_none l (fun x hx => h x (List.mem_cons_of_mem _ hx))]
theorem cutL_at (a b : List UInt8) (h : ∀ c ∈ a, c ≠ 47) : cutL (a ++ 47 :: b) = a :: cutL b := by
  rw [cutL_app, cutL_none a h]; rfl
theorem occ_one (s : List UInt8) (c : UInt8) (j : Nat) : Lib.occAt s [c] j = true ↔ s[j]? = some c := by
  constructor
  · exact fun h => Lib.occAt_head rfl h
  · intro h
    unfold Lib.occAt
    rw [List.isPrefixOf_iff_prefix]
    have hj : j < s.length := (List.getElem?_eq_some_iff.1 h).1
    rw [List.drop_eq_getElem_cons hj]
    have e : s[j] = c := (List.getElem?_eq_some_iff.1 h).2
    rw [e]
    exact ⟨s.drop (j + 1), rfl⟩
theorem split_at {s : List UInt8} {i : Nat} {c : UInt8} (h : s[i]? = some c) : s = s.take i ++ c :: s.drop (i + 1) := by
  have hj : i < s.length := (List.getElem?_eq_some_iff.1 h).1
  have e : s[i] = c := (List.getElem?_eq_some_iff.1 h).2
  conv => lhs; rw [← List.take_append_drop i s]
  rw [List.drop_eq_getElem_cons hj, e]
theorem splitK_cut : ∀ (n : Nat) (s : List UInt8), s.length ≤ n → Lib.splitK [47] 0 (Lib.count s [47]) s = cutL s
  | n, s, hn => by
    rcases Lib.index_spec s [47] with ⟨hi, ho⟩ | ⟨i, hi, hle, ho, hno⟩
    · rw [Lib.count_miss hi, Lib.splitK, cutL_none]
      intro c hc hc47
      subst hc47
      obtain ⟨j, hj, e⟩ := List.getElem_of_mem hc
      have := ho j (by omega)
      rw [(occ_one s 47 j).2 (by rw [List.getElem?_eq_getElem hj, e])] at this
      cases this
    · have h47 := (occ_one s 47 i).1 ho
      have hlt : i < s.length := (List.getElem?_eq_some_iff.1 h47).1
      have e := split_at h47
      have hm : ¬ (Lib.index s [47] == -1) = true := fun e => by have := beq_iff_eq.1 e; omega
      rw [Lib.count_hit (by simp) hi, Nat.add_comm, Lib.splitK, if_neg hm, hi]
      simp only [Int.toNat_natCast, Nat.add_zero, List.length_cons, List.length_nil, Nat.zero_add]
      cases n with
      | zero => omega
      | succ n =>
        rw [splitK_cut n (s.drop (i + 1)) (by rw [List.length_drop]; omega)]
        conv => rhs; rw [e]
        rw [cutL_at]
        intro c hc hc47
        subst hc47
        obtain ⟨j, hj, e2⟩ := List.getElem_of_mem hc
        have hji : j < i := by rw [List.length_take] at hj; omega
        have := hno j hji
        rw [(occ_one s 47 j).2 (by rw [List.getElem?_eq_getElem (by omega), ← e2, List.getElem_take])] at this
        cases this
theorem parts_cut (s : ByteArray) : (partsB s).map (·.data.toList) = cutL s.data.toList := by
  unfold partsB
  rw [Lib.splitB_data]
  exact splitK_cut _ s.data.toList (Nat.le_refl _)
theorem parts_of (s : ByteArray) : partsB s = (cutL s.data.toList).map fun l => (⟨l.toArray⟩ : ByteArray) := by
  rw [← parts_cut, List.map_map]
  conv => lhs; rw [← List.map_id (partsB s)]
  refine List.map_congr_left fun x _ => ?_
  exact (Lib.mk_data x).symm
theorem parts_ne (s : ByteArray) : 0 < (partsB s).length := by rw [partsB_length]; omega

/-- May it be a part of a reference? -/
def rpF (s : ByteArray) : Bool := !(s.toList == []) && !Lib.hasPrefix s.data.toList [46] && !Lib.hasSuffix s.data.toList [46] && !Lib.hasSuffix s.data.toList [46, 108, 111, 99, 107]
/-- Letters that no reference has. -/
def badC : List UInt8 := [126, 94, 58, 63, 42, 91, 92]
def okN (n : Nat) : Bool := decide (32 < n) && decide (n < 127)
def rbF (s : ByteArray) : Bool := s.data.toList.all (fun c => okN c.toNat) && !Lib.containsAny s.data.toList badC
def headL : List UInt8 := [72, 69, 65, 68]
def refsL : List UInt8 := [114, 101, 102, 115]
def firstF (s : ByteArray) : Bool := match partsB s with
  | p :: _ => p.toList == refsL
  | [] => false
/-- May it be a reference? -/
def refF (s : ByteArray) : Bool := (s.toList == headL) || (decide (s.size ≤ 200) && rbF s && !Lib.contains s.data.toList [46, 46] && !Lib.contains s.data.toList [64, 123] && decide (3 ≤ (partsB s).length) && firstF s && (partsB s).all rpF)

/-- Two letters, one behind the other. -/
def twoAt (s : List UInt8) (a b : UInt8) (i : Nat) : Prop := s[i]? = some a ∧ s[i + 1]? = some b
theorem occ_two (s : List UInt8) (a b : UInt8) (j : Nat) : Lib.occAt s [a, b] j = true ↔ twoAt s a b j := by
  unfold Lib.occAt twoAt
  rw [List.isPrefixOf_iff_prefix]
  constructor
  · rintro ⟨r, hr⟩
    have h0 : (s.drop j)[0]? = some a := by rw [← hr]; rfl
    have h1 : (s.drop j)[1]? = some b := by rw [← hr]; rfl
    rw [List.getElem?_drop] at h0 h1
    exact ⟨h0, h1⟩
  · rintro ⟨h0, h1⟩
    have hj0 : j < s.length := (List.getElem?_eq_some_iff.1 h0).1
    have hj1 : j + 1 < s.length := (List.getElem?_eq_some_iff.1 h1).1
    have e0 : s[j] = a := (List.getElem?_eq_some_iff.1 h0).2
    have e1 : s[j + 1] = b := (List.getElem?_eq_some_iff.1 h1).2
    rw [List.drop_eq_getElem_cons hj0, List.drop_eq_getElem_cons hj1, e0, e1]
    exact ⟨_, rfl⟩
theorem contains_two (s : List UInt8) (a b : UInt8) : Lib.contains s [a, b] = true ↔ ∃ i, twoAt s a b i := by
  unfold Lib.contains
  rw [decide_eq_true_iff]
  rcases Lib.index_spec s [a, b] with ⟨hi, ho⟩ | ⟨i, hi, hle, ho, hno⟩
  · constructor
    · intro h; omega
    · rintro ⟨j, hj⟩
      have hlt : j < s.length := (List.getElem?_eq_some_iff.1 hj.1).1
      have := ho j (by omega)
      rw [(occ_two s a b j).2 hj] at this
      cases this
  · exact ⟨fun _ => ⟨i, (occ_two s a b i).1 ho⟩, fun _ => by omega⟩

/-- Is the letter at place i as it may be in a reference? -/
def goodAt (s : List UInt8) (i : Nat) : Prop := (∀ c, s[i]? = some c → okN c.toNat = true ∧ badC.contains c = false) ∧ (1 ≤ i → ¬ twoAt s 46 46 (i - 1) ∧ ¬ twoAt s 64 123 (i - 1))
theorem any_iff (chars l : List UInt8) : Lib.containsAny l chars = false ↔ ∀ c ∈ l, chars.contains c = false := by
  constructor
  · intro h c hc
    have := any_mem _ _ h c hc
    cases e : chars.contains c with
    | false => rfl
    | true => exact absurd (List.contains_iff_mem.1 e) this
  · intro h
    refine any_no chars l fun b hb hm => ?_
    have := h b hb
    rw [List.contains_iff_mem.2 hm] at this
    cases this
theorem good_all (s : ByteArray) : (rbF s && !Lib.contains s.data.toList [46, 46] && !Lib.contains s.data.toList [64, 123]) = true ↔ ∀ i, i < s.size → goodAt s.data.toList i := by
  have hsz := Lib.size_eq s
  unfold rbF
  simp only [Bool.and_eq_true, Bool.not_eq_true', List.all_eq_true, any_iff]
  have c1 := contains_two s.data.toList 46 46
  have c2 := contains_two s.data.toList 64 123
  constructor
  · rintro ⟨⟨⟨h1, h2⟩, h3⟩, h4⟩ i hi
    refine ⟨fun c hc => ⟨h1 c (List.mem_of_getElem? hc), h2 c (List.mem_of_getElem? hc)⟩, fun _ => ⟨fun ht => ?_, fun ht => ?_⟩⟩
    · rw [c1.2 ⟨_, ht⟩] at h3; cases h3
    · rw [c2.2 ⟨_, ht⟩] at h4; cases h4
  · intro h
    have two : ∀ a b i, twoAt s.data.toList a b i → i + 1 < s.size := fun a b i ht => by
      have := (List.getElem?_eq_some_iff.1 ht.2).1
      omega
    refine ⟨⟨⟨fun c hc => ?_, fun c hc => ?_⟩, ?_⟩, ?_⟩
    · obtain ⟨j, hj, e⟩ := List.getElem_of_mem hc
      exact ((h j (by omega)).1 c (by rw [List.getElem?_eq_getElem hj, e])).1
    · obtain ⟨j, hj, e⟩ := List.getElem_of_mem hc
      exact ((h j (by omega)).1 c (by rw [List.getElem?_eq_getElem hj, e])).2
    · cases e : Lib.contains s.data.toList [46, 46] with
      | false => rfl
      | true =>
        obtain ⟨i, hi⟩ := c1.1 e
        exact absurd hi ((h (i + 1) (two _ _ _ hi)).2 (by omega)).1
    · cases e : Lib.contains s.data.toList [64, 123] with
      | false => rfl
      | true =>
        obtain ⟨i, hi⟩ := c2.1 e
        exact absurd hi ((h (i + 1) (two _ _ _ hi)).2 (by omega)).2
theorem ref_doc (s : ByteArray) (hh : (s.toList == headL) = false) : refF s = true ↔ (3 ≤ (partsB s).length ∧ firstF s = true ∧ s.size ≤ 200 ∧ (partsB s).all rpF = true ∧ ∀ i, i < s.size → goodAt s.data.toList i) := by
  unfold refF
  rw [hh, ← good_all]
  simp only [Bool.false_or, Bool.and_eq_true, decide_eq_true_eq]
  constructor
  · rintro ⟨⟨⟨⟨⟨⟨h1, h2⟩, h3⟩, h4⟩, h5⟩, h6⟩, h7⟩
    exact ⟨h5, h6, h1, h7, ⟨h2, h3⟩, h4⟩
  · rintro ⟨h5, h6, h1, h7, ⟨h2, h3⟩, h4⟩
    exact ⟨⟨⟨⟨⟨⟨h1, h2⟩, h3⟩, h4⟩, h5⟩, h6⟩, h7⟩


theorem ascii7 : AsciiB ⟨#[126, 94, 58, 63, 42, 91, 92]⟩ := by
  intro j b h
  have hm : b ∈ ([126, 94, 58, 63, 42, 91, 92] : List UInt8) := List.mem_of_getElem? h
  have key : ∀ b ∈ ([126, 94, 58, 63, 42, 91, 92] : List UInt8), b.toNat < 128 := by decide
  exact key b hm
theorem sN_some (s : ByteArray) {i : Nat} (hi : i < s.size) : ∃ c : UInt8, s.data.toList[i]? = some c ∧ sN s i = (c.toNat : Int) := by
  have hi' : i < s.data.size := hi
  refine ⟨s.data.getD i 0, ?_, rfl⟩
  rw [Array.getElem?_toList, Array.getElem?_eq_getElem hi', Array.getD, dif_pos hi']; rfl
theorem rb_no (s : ByteArray) {i : Nat} (hi : i < s.size) (h : sN s i ≤ 32 ∨ 127 ≤ sN s i) : rbF s = false := by
  obtain ⟨c, hc, he⟩ := sN_some s hi
  unfold rbF
  have : s.data.toList.all (fun c => okN c.toNat) = false := by
    rw [List.all_eq_false]
    refine ⟨c, List.mem_of_getElem? hc, ?_⟩
    unfold okN
    simp only [Bool.and_eq_true, decide_eq_true_eq]
    omega
  rw [this]
  rfl
theorem rb_yes (s : ByteArray) (h : ∀ i, i < s.size → 32 < sN s i ∧ sN s i < 127) : rbF s = !Lib.containsAny s.data.toList badC := by
  unfold rbF
  have : s.data.toList.all (fun c => okN c.toNat) = true := by
    rw [List.all_eq_true]
    intro c hc
    obtain ⟨i, hi, he⟩ := List.getElem_of_mem hc
    have hi' : i < s.size := by rw [Lib.size_eq]; exact hi
    have := h i hi'
    have e2 := (sN_eq s c hi').2 (by rw [List.getElem?_eq_getElem hi, he])
    unfold okN
    simp only [Bool.and_eq_true, decide_eq_true_eq]
    omega
  rw [this]
  rfl

theorem prefix_dot (s : ByteArray) (h : 0 < s.size) : Lib.hasPrefix s.data.toList [46] = decide (sN s 0 = 46) := by
  obtain ⟨c, hc, he⟩ := sN_some s h
  rw [he]
  unfold Lib.hasPrefix
  cases e : s.data.toList with
  | nil => rw [e] at hc; cases hc
  | cons x l =>
    rw [e] at hc
    have hx : x = c := by simpa using hc
    subst hx
    rw [Bool.eq_iff_iff, decide_eq_true_iff]
    simp only [List.isPrefixOf, Bool.and_true, beq_iff_eq]
    constructor
    · intro h; rw [← h]; rfl
    · intro h
      exact UInt8.toNat_inj.1 (by have : (46 : UInt8).toNat = 46 := rfl
                                  omega)

/-- A slice of texts in memory of the call's own. -/
def OwnS (w : World) (base : Nat) (v : Value) (L : List ByteArray) : Prop := w.ownsRow base 9 1 v L.length (L.map Value.string)
set_option maxRecDepth 100000 in
theorem infoS : ∃ i z, Tryz.prog.info? 9 = some i ∧ i.zero = some z ∧ i.size = 1 ∧ i.bytes = 16 ∧ z.cells.size = 1 := by
  refine ⟨_, _, rfl, rfl, rfl, rfl, rfl⟩
theorem OwnS.lt {w : World} {base : Nat} {v : Value} {L : List ByteArray} (h : OwnS w base v L) : ∀ g, v.ownBlock = some g → base ≤ g ∧ g < w.heap.size := by
  intro g hg
  rcases h.2 with ⟨rfl, hn⟩ | ⟨g', cap, cur, rfl, hbg, hg', hnc, hcm, hcs, htake⟩
  · cases hg
  · have : g' = g := by simpa [Value.ownBlock] using hg
    subst this
    exact ⟨hbg, (Array.getElem?_eq_some_iff.1 hg').1⟩
theorem cut_end {S : List UInt8} {a : Nat} (h : ∀ j, a ≤ j → j < S.length → S[j]? ≠ some 47) : cutL (S.drop a) = [S.drop a] := by
  refine cutL_none _ fun c hc hc47 => ?_
  subst hc47
  obtain ⟨j, hj, e⟩ := List.getElem_of_mem hc
  rw [List.getElem_drop] at e
  rw [List.length_drop] at hj
  exact h (a + j) (by omega) (by omega) (by rw [List.getElem?_eq_getElem (by omega), e])
theorem cut_next {S : List UInt8} {a k : Nat} (ha : a ≤ k) (hk : S[k]? = some 47) (h : ∀ j, a ≤ j → j < k → S[j]? ≠ some 47) : cutL (S.drop a) = (S.drop a).take (k - a) :: cutL (S.drop (k + 1)) := by
  have e : (S.drop a)[k - a]? = some 47 := by rw [List.getElem?_drop, show a + (k - a) = k by omega]; exact hk
  have := split_at e
  conv => lhs; rw [this]
  rw [List.drop_drop, show a + (k - a + 1) = k + 1 by omega, cutL_at]
  intro c hc hc47
  subst hc47
  obtain ⟨j, hj, e2⟩ := List.getElem_of_mem hc
  rw [List.length_take, List.length_drop] at hj
  rw [List.getElem_take, List.getElem_drop] at e2
  exact h (a + j) (by omega) (by omega) (by rw [List.getElem?_eq_getElem (by omega), e2])
theorem cut_list (s : ByteArray) (L : List ByteArray) (h : cutL s.data.toList = L.map (·.data.toList)) : partsB s = L := by
  rw [parts_of, h, List.map_map]
  conv => rhs; rw [← List.map_id L]
  refine List.map_congr_left fun x _ => ?_
  exact Lib.mk_data x
set_option maxHeartbeats 1000000 in
set_option maxRecDepth 100000 in
theorem parts_any (s : ByteArray) (w : World) (hs : s.size < 4294967281) : Calls Tryz.prog 67 #[.string s] w fun e w' => ∃ v, e = .returned v ∧ OwnS w' w.heap.size v (partsB s) ∧ Below w.heap.size w w' := by
  obtain ⟨i0, z0, hi, hz, hsz, hb, hc⟩ := infoS
  go_enter Tryz.func67, Tryz.ntmps67
  go_wp2
  go_loopw [3, 4, 5] (fun lv av iv wr => ∃ (k a : Nat) (L : List ByteArray), iv = .int .i64 k ∧ av = .int .i64 a ∧ OwnS wr w.heap.size lv L ∧ Below w.heap.size w wr ∧ L.length ≤ k ∧ ((k ≤ s.size ∧ a ≤ k ∧ cutL s.data.toList = L.map (·.data.toList) ++ cutL (s.data.toList.drop a) ∧ ∀ j, a ≤ j → j < k → s.data.toList[j]? ≠ some 47) ∨ (k = s.size + 1 ∧ partsB s = L))) (fun _ _ iv _ => s.size + 1 - (intOf iv).toNat)
  case atStart => exact ⟨0, 0, [], rfl, rfl, World.ownsRow_nil w w.heap.size 9 1, Below.refl _ _, Nat.le_refl _, Or.inl ⟨by omega, by omega, by simp, fun j _ h => by omega⟩⟩
  case round =>
    obtain ⟨k, a, L, rfl, rfl, hown, hbel, hLk, hor⟩ := hrel
    have KO := Kept.mk hown
    have KB := Kept.mk hbel
    rcases hor with ⟨hk, hak, hcut, hno⟩ | ⟨rfl, hL⟩
    · have KN := Kept.mk hno
      have KC := Kept.mk hcut
      obtain ⟨X, hX⟩ : ∃ X, s.extract a k = X := ⟨_, rfl⟩
      have KX : Kept (X.data.toList = (s.data.toList.drop a).take (k - a)) := ⟨by rw [← hX, Lib.extract_data]⟩
      have KOa := Kept.mk (World.ownsRow.alloc hown (.cells #[.string X] 9))
      have KBa := Kept.mk (hbel.alloc hbel.size (.cells #[.string X] 9))
      have i0' : (0 : Int) ≤ (a : Int) := by omega
      have i1 : (a : Int) ≤ (k : Int) := by omega
      have i2 : (k : Int) ≤ (s.size : Int) := by omega
      have hLs : L.length ≤ s.size := by omega
      clear hown hcut hno
      by_cases hlt : k < s.size
      · have hne : ((k : Int) == (s.size : Int)) = false := by simp; omega
        have hidx := run_index_text wr s .i64 k hlt
        have h47 := sN_eq s 47 hlt
        by_cases hx : sN s k = 47
        · have KH : Kept (s.data.toList[k]? = some 47) := ⟨h47.1 hx⟩
          rw [hx] at hidx
          clear h47 hx hbel
          go_wp2_with (at_builtin; refine wpList_append_own_at _ rfl _ _ 68 rfl w.heap.size 9 i0 z0 1 16 Tryz.underlying68 hi hz hsz hb hc (by decide) u3 L.length (L.map Value.string) rfl KOa.out ⟨wr.heap.size, 0, none⟩ 1 1 [.string X] (by first | rfl | (rw [← hX]; rfl)) rfl (by first | exact cell_one_new _ _ _ | (rw [← hX]; exact cell_one_new _ _ _)) (by simp [Value.oneCell']) (by unfold maxLen; omega) (by omega) (by have := KB.out.size; simp; omega) ?_; intro v2 w2 hown2 hgrow _ hat; have KB2 := Kept.mk (KBa.out.grown hgrow (by have := KB.out.size; simp; omega) (fun k hk => (KO.out.lt k hk).1)); have KO2 := Kept.mk hown2; clear hown2 hgrow hat)
          go_roundw
          case rel =>
            refine ⟨k + 1, k + 1, L ++ [X], by simp, by simp, ?_, KB2.out, by simp; omega, Or.inl ⟨by omega, Nat.le_refl _, ?_, fun j h1 h2 => by omega⟩⟩
            · unfold OwnS
              rw [List.length_append, List.map_append]
              exact KO2.out
            · rw [KC.out, cut_next hak KH.out KN.out, List.map_append, ← KX.out]
              simp
          case measure => simp [intOf]; omega
        · have KH : Kept (¬ s.data.toList[k]? = some 47) := ⟨fun h => hx (h47.2 h)⟩
          have hxb : (sN s k == 47) = false := by simpa using hx
          generalize sN s k = x at *
          clear h47 hx hbel
          go_wp2
          go_roundw
          case rel =>
            refine ⟨k + 1, a, L, by simp, rfl, KO.out, KB.out, by omega, Or.inl ⟨by omega, by omega, KC.out, fun j h1 h2 => ?_⟩⟩
            rcases Nat.lt_or_ge j k with h' | h'
            · exact KN.out j h1 h'
            · rw [show j = k by omega]
              exact KH.out
          case measure => simp [intOf]; omega
      · have hke : k = s.size := by omega
        have KN2 : Kept (∀ j, a ≤ j → j < s.data.toList.length → s.data.toList[j]? ≠ some 47) := ⟨by rw [← Lib.size_eq, ← hke]; exact KN.out⟩
        have KX2 : Kept (X.data.toList = s.data.toList.drop a) := ⟨by rw [KX.out, hke, Lib.size_eq]; exact List.take_of_length_le (by rw [List.length_drop]; omega)⟩
        subst hke
        clear hlt hbel
        go_wp2_with (at_builtin; refine wpList_append_own_at _ rfl _ _ 68 rfl w.heap.size 9 i0 z0 1 16 Tryz.underlying68 hi hz hsz hb hc (by decide) u3 L.length (L.map Value.string) rfl KOa.out ⟨wr.heap.size, 0, none⟩ 1 1 [.string X] (by first | rfl | (rw [← hX]; rfl)) rfl (by first | exact cell_one_new _ _ _ | (rw [← hX]; exact cell_one_new _ _ _)) (by simp [Value.oneCell']) (by unfold maxLen; omega) (by omega) (by have := KB.out.size; simp; omega) ?_; intro v2 w2 hown2 hgrow _ hat; have KB2 := Kept.mk (KBa.out.grown hgrow (by have := KB.out.size; simp; omega) (fun k hk => (KO.out.lt k hk).1)); have KO2 := Kept.mk hown2; clear hown2 hgrow hat)
        go_roundw
        case rel =>
          refine ⟨s.size + 1, s.size + 1, L ++ [X], by simp, by simp, ?_, KB2.out, by simp; omega, Or.inr ⟨rfl, ?_⟩⟩
          · unfold OwnS
            rw [List.length_append, List.map_append]
            exact KO2.out
          · refine cut_list s _ ?_
            rw [KC.out, cut_end KN2.out, List.map_append, ← KX2.out]
            rfl
        case measure => simp [intOf]
    · have hgt : ¬ ((s.size : Int) + 1 ≤ (s.size : Int)) := by omega
      have KL := Kept.mk hL
      clear hown hbel hL
      go_wp2
      go_ret
      refine ⟨_, rfl, ?_, KB.out⟩
      rw [KL.out]
      exact KO.out


/-- What a slice of texts that isn't empty is. -/
theorem OwnS.open {w : World} {base : Nat} {v : Value} {L : List ByteArray} (h : OwnS w base v L) (h0 : 0 < L.length) : ∃ g cap, v = .slice (some ⟨g, 0, none⟩) L.length cap ∧ base ≤ g ∧ g < w.heap.size ∧ ∀ k (hk : k < L.length), w.cell? ⟨g, k, none⟩ = some (.string (L[k]'hk)) := by
  have h' := h
  unfold OwnS at h'
  rcases h'.2 with ⟨rfl, hn⟩ | ⟨g, cap, cur, rfl, hbg, hg, hnc, hcm, hcs, htake⟩
  · omega
  · refine ⟨g, cap, rfl, hbg, (Array.getElem?_eq_some_iff.1 hg).1, fun k hk => ?_⟩
    have hc := World.ownsRow.cells (g := g) h' rfl k (.string (L[k]'hk)) (by simp [hk])
    rw [add_plain, Nat.zero_add] at hc
    exact hc

set_option maxHeartbeats 1000000 in
set_option maxRecDepth 100000 in
theorem rpath_any (s : ByteArray) (w : World) (hs : s.size < 4294967281) : Calls Tryz.prog 59 #[.string s] w fun e w' => e = .returned (.bool (pathF s)) ∧ Below w.heap.size w w' := by
  have KS := Kept.mk (parts_any s w hs)
  have hl0 := parts_ne s
  have hle := partsB_le s
  have KE : Kept (pathF s = (decide (s.size ≤ 200) && (partsB s).all nameF)) := ⟨rfl⟩
  have KD : Kept (decide ((s.size : Int) ≤ 200) = decide (s.size ≤ 200)) := ⟨by rw [decide_eq_decide]; omega⟩
  generalize partsB s = L at *
  have KN := Kept.mk rname_any
  go_enter Tryz.func59, Tryz.ntmps59
  go_wp2_with fail
  refine Calls.mono KS.out (fun e w1 hp => ?_)
  obtain ⟨v, rfl, hown, hb⟩ := hp
  obtain ⟨g, cap, rfl, hbg, hg, hcells⟩ := hown.open hl0
  have KC := Kept.mk hcells
  have KB0 := Kept.mk hb
  have hLl : (L.length : Int) ≤ 4294967281 := by omega
  clear hown hb hcells KS
  go_wp2

  go_loopw [2, 8] (fun _ kv wr => ∃ k : Nat, k ≤ L.length ∧ kv = .int .i64 k ∧ Below w1.heap.size w1 wr ∧ (L.take k).all nameF = true) (fun _ kv _ => L.length - (intOf kv).toNat)
  case atStart => exact ⟨0, Nat.zero_le _, rfl, Below.refl _ _, rfl⟩
  case round =>
    obtain ⟨k, hk, rfl, hbel, hall⟩ := hrel
    have KBr := Kept.mk hbel
    have KA := Kept.mk hall
    clear hall
    by_cases hlt : k < L.length
    · have hki : (k : Int) < (L.length : Int) := by omega
      have hc : wr.cell? ⟨g, k, none⟩ = some (.string (L[k]'hlt)) := by
        rw [hbel.cell (p := ⟨g, k, none⟩) hg]
        exact KC.out k hlt
      obtain ⟨P, hP⟩ : ∃ P, L[k]'hlt = P := ⟨_, rfl⟩
      rw [hP] at hc
      have KP := Kept.mk hP
      have KN1 := Kept.mk (KN.out P wr)
      clear hP hbel
      by_cases hq : nameF P = true
      · rw [hq] at KN1
        have KQ := Kept.mk hq
        clear hq
        go_wp2_with fail
        refine Calls.mono KN1.out (fun e w3 hp => ?_)
        obtain ⟨rfl, hb3⟩ := hp
        have KB3 := Kept.mk hb3
        clear hb3
        go_wp2
        go_roundw
        case rel => exact ⟨k + 1, by omega, rfl, KBr.out.trans (KB3.out.mono KBr.out.size), by
          rw [List.take_add_one, List.all_append, KA.out, List.getElem?_eq_getElem hlt, KP.out]
          simp [KQ.out]⟩
        case measure => simp [intOf]; omega
      · have hqf : nameF P = false := by simpa using hq
        rw [hqf] at KN1
        have KF : Kept (L.all nameF = false) := ⟨by
          rw [List.all_eq_false]
          exact ⟨P, by rw [← KP.out]; exact List.getElem_mem hlt, by simp [hqf]⟩⟩
        clear hq hqf
        go_wp2_with fail
        refine Calls.mono KN1.out (fun e w3 hp => ?_)
        obtain ⟨rfl, hb3⟩ := hp
        have KB3 := Kept.mk hb3
        clear hb3
        go_wp2
        go_ret
        exact ⟨by rw [KE.out, KF.out, Bool.and_false]; rfl, KB0.out.trans ((KBr.out.trans (KB3.out.mono KBr.out.size)).mono KB0.out.size)⟩
    · have hki : ¬ (k : Int) < (L.length : Int) := by omega
      have KT : Kept (L.all nameF = true) := ⟨by
        have := KA.out
        rwa [List.take_of_length_le (by omega)] at this⟩
      clear hbel
      go_wp2
      go_ret
      exact ⟨by rw [KE.out, KT.out, Bool.and_true, ← KD.out]; rfl, KB0.out.trans (KBr.out.mono KB0.out.size)⟩
end Go.Proofs.YtegdadkejheagaaGreatDoor
