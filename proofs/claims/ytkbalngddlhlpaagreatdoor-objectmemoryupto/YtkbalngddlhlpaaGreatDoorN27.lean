/-
  Walks: the document's git, Name.
-/
import Derived.Test.YtkbalngddlhlpaaGreatDoorN25
import Derived.Test.YtkbalngddlhlpaaGreatDoorN21
namespace Go.Proofs.YtkbalngddlhlpaaGreatDoor
open Go.RowKit

theorem lowN_dot (n : Nat) : lowN n = 46 ↔ n = 46 := by
  unfold lowN
  split <;> omega
theorem git_not4 {s : ByteArray} (h : ¬ s.size = 4) : gitF s = false := by
  unfold gitF
  refine decide_eq_false (fun e => h ?_)
  have := congrArg List.length e
  rw [List.length_map] at this
  rw [Lib.size_eq, this]
  rfl
set_option maxHeartbeats 1000000 in
set_option maxRecDepth 100000 in
theorem git_any (s : ByteArray) (w : World) : Calls Tryz.prog 106 #[.string s] w fun e w' => e = .returned (.bool (gitF s)) ∧ Below w.heap.size w w' := by
  by_cases h4 : s.size = 4
  · have KE : Kept (gitF s = decide ((s.data.getD 0 0).toNat = 46 ∧ lowN (s.data.getD 1 0).toNat = 103 ∧ lowN (s.data.getD 2 0).toNat = 105 ∧ lowN (s.data.getD 3 0).toNat = 116)) := ⟨by
      obtain ⟨x0, x1, x2, x3, rfl⟩ := four h4
      unfold gitF
      simp [lowN_dot]⟩
    have hi0 : (Instr.index 9 (.string s) (.int .i64 0)).run Tryz.prog w = .ok (.int .u8 (((s.data.getD 0 0).toNat : Nat) : Int)) w := run_index_text w s .i64 0 (by omega)
    have hi1 : (Instr.index 9 (.string s) (.int .i64 1)).run Tryz.prog w = .ok (.int .u8 (((s.data.getD 1 0).toNat : Nat) : Int)) w := run_index_text w s .i64 1 (by omega)
    have hi2 : (Instr.index 9 (.string s) (.int .i64 2)).run Tryz.prog w = .ok (.int .u8 (((s.data.getD 2 0).toNat : Nat) : Int)) w := run_index_text w s .i64 2 (by omega)
    have hi3 : (Instr.index 9 (.string s) (.int .i64 3)).run Tryz.prog w = .ok (.int .u8 (((s.data.getD 3 0).toNat : Nat) : Int)) w := run_index_text w s .i64 3 (by omega)
    have KL1 := Kept.mk (rlower_any (s.data.getD 1 0).toNat w (s.data.getD 1 0).toNat_lt)
    have KL2 := Kept.mk (rlower_any (s.data.getD 2 0).toNat w (s.data.getD 2 0).toNat_lt)
    have KL3 := Kept.mk (rlower_any (s.data.getD 3 0).toNat w (s.data.getD 3 0).toNat_lt)
    have hsz : ((s.size : Int) == 4) = true := by simp; omega
    generalize (s.data.getD 0 0).toNat = y0 at *
    generalize (s.data.getD 1 0).toNat = y1 at *
    generalize (s.data.getD 2 0).toNat = y2 at *
    generalize (s.data.getD 3 0).toNat = y3 at *
    generalize lowN y1 = l1 at *
    generalize lowN y2 = l2 at *
    generalize lowN y3 = l3 at *
    by_cases g0 : y0 = 46
    · have f0 : ((y0 : Int) == 46) = true := by simp; omega
      go_enter Tryz.func106, Tryz.ntmps106
      go_wp2_with fail
      refine Calls.mono KL1.out (fun e w1 hp => ?_)
      obtain ⟨rfl, rfl⟩ := hp
      by_cases g1 : l1 = 103
      · have f1 : ((l1 : Int) == 103) = true := by simp; omega
        go_wp2_with fail
        refine Calls.mono KL2.out (fun e w2 hp => ?_)
        obtain ⟨rfl, rfl⟩ := hp
        by_cases g2 : l2 = 105
        · have f2 : ((l2 : Int) == 105) = true := by simp; omega
          go_wp2_with fail
          refine Calls.mono KL3.out (fun e w3 hp => ?_)
          obtain ⟨rfl, rfl⟩ := hp
          by_cases g3 : l3 = 116
          · have f3 : ((l3 : Int) == 116) = true := by simp; omega
            have KF : Kept (gitF s = true) := ⟨by rw [KE.out]; exact decide_eq_true ⟨g0, g1, g2, g3⟩⟩
            go_wp2
            go_ret
            exact ⟨by rw [KF.out]; rfl, Below.refl _ _⟩
          · have f3 : ((l3 : Int) == 116) = false := by simp; omega
            have KF : Kept (gitF s = false) := ⟨by rw [KE.out]; exact decide_eq_false (fun h => g3 h.2.2.2)⟩
            go_wp2
            go_ret
            exact ⟨by rw [KF.out]; rfl, Below.refl _ _⟩
        · have f2 : ((l2 : Int) == 105) = false := by simp; omega
          have KF : Kept (gitF s = false) := ⟨by rw [KE.out]; exact decide_eq_false (fun h => g2 h.2.2.1)⟩
          go_wp2
          go_ret
          exact ⟨by rw [KF.out]; rfl, Below.refl _ _⟩
      · have f1 : ((l1 : Int) == 103) = false := by simp; omega
        have KF : Kept (gitF s = false) := ⟨by rw [KE.out]; exact decide_eq_false (fun h => g1 h.2.1)⟩
        go_wp2
        go_ret
        exact ⟨by rw [KF.out]; rfl, Below.refl _ _⟩
    · have f0 : ((y0 : Int) == 46) = false := by simp; omega
      have KF : Kept (gitF s = false) := ⟨by rw [KE.out]; exact decide_eq_false (fun h => g0 h.1)⟩
      go_enter Tryz.func106, Tryz.ntmps106
      go_wp2
      go_ret
      exact ⟨by rw [KF.out]; rfl, Below.refl _ _⟩
  · have KF := Kept.mk (git_not4 h4)
    have hd : ((s.size : Int) == 4) = false := by simp; omega
    go_enter Tryz.func106, Tryz.ntmps106
    go_wp2
    go_ret
    exact ⟨by rw [KF.out]; rfl, Below.refl _ _⟩


theorem any_two (s : ByteArray) : Lib.containsAny s.data.toList [47, 0] = (hasF s 47 || hasF s 0) := by
  unfold hasF
  cases e : Lib.containsAny s.data.toList [47, 0] with
  | false =>
    have h := any_mem _ _ e
    have g : ∀ c ∈ ([47, 0] : List UInt8), s.data.toList.contains c = false := fun c hc => by
      cases e' : s.data.toList.contains c with
      | false => rfl
      | true => exact absurd hc (h c (List.contains_iff_mem.1 e'))
    rw [g 47 (by simp), g 0 (by simp)]
    rfl
  | true =>
    cases e2 : (s.data.toList.contains 47 || s.data.toList.contains 0) with
    | true => rfl
    | false =>
      exfalso
      simp only [Bool.or_eq_false_iff] at e2
      have := any_no [47, 0] s.data.toList (fun b hb hc => by
        have hb' := List.contains_iff_mem.2 hb
        simp only [List.mem_cons, List.not_mem_nil, or_false] at hc
        rcases hc with rfl | rfl
        · rw [e2.1] at hb'; cases hb'
        · rw [e2.2] at hb'; cases hb')
      rw [this] at e
      cases e
theorem name_has (s : ByteArray) : nameF s = (decide (1 ≤ s.size) && decide (s.size ≤ 100) && !hasF s 47 && !hasF s 0 && !(s.toList == [46]) && !(s.toList == [46, 46]) && !gitF s) := by
  unfold nameF
  rw [any_two]
  have e1 : (s.toList == [46]) = decide (s = ⟨#[46]⟩) := by
    have := str_eq s ⟨#[46]⟩
    rw [Lib.toList_data ⟨#[46]⟩] at this
    exact this
  have e2 : (s.toList == [46, 46]) = decide (s = ⟨#[46, 46]⟩) := by
    have := str_eq s ⟨#[46, 46]⟩
    rw [Lib.toList_data ⟨#[46, 46]⟩] at this
    exact this
  rw [e1, e2]
  cases decide (1 ≤ s.size) <;> cases decide (s.size ≤ 100) <;> cases hasF s 47 <;> cases hasF s 0 <;> rfl
set_option maxHeartbeats 1000000 in
set_option maxRecDepth 100000 in
theorem rname_any (s : ByteArray) (w : World) : Calls Tryz.prog 76 #[.string s] w fun e w' => e = .returned (.bool (nameF s)) ∧ Below w.heap.size w w' := by
  rw [name_has]
  by_cases h1 : 1 ≤ s.size
  · have i1 : decide (1 ≤ (s.size : Int)) = true := by simp; omega
    rw [decide_eq_true h1]
    by_cases h2 : s.size ≤ 100
    · have i2 : decide ((s.size : Int) ≤ 100) = true := by simp; omega
      rw [decide_eq_true h2]
      have K0 : Kept (∀ w, Calls Tryz.prog 105 #[.string s, .int .u8 47] w fun e w' => e = .returned (.bool (hasF s 47)) ∧ Below w.heap.size w w') := ⟨fun w => has_any s 47 47 rfl w (by omega)⟩
      have K1 : Kept (∀ w, Calls Tryz.prog 105 #[.string s, .int .u8 0] w fun e w' => e = .returned (.bool (hasF s 0)) ∧ Below w.heap.size w w') := ⟨fun w => has_any s 0 0 rfl w (by omega)⟩
      have K2 : Kept (∀ w, Calls Tryz.prog 106 #[.string s] w fun e w' => e = .returned (.bool (gitF s)) ∧ Below w.heap.size w w') := ⟨fun w => git_any s w⟩
      generalize hasF s 47 = q0 at *
      generalize hasF s 0 = q1 at *
      generalize gitF s = g at *
      obtain ⟨b1, hb1⟩ : ∃ b, (s.toList == [46]) = b := ⟨_, rfl⟩
      obtain ⟨b2, hb2⟩ : ∃ b, (s.toList == [46, 46]) = b := ⟨_, rfl⟩
      rw [hb1, hb2]
      clear h1 h2
      cases q0
      · cases q1
        · cases b1
          · cases b2
            · go_enter Tryz.func76, Tryz.ntmps76
              go_wp2_with fail
              refine Calls.mono (K0.out w) (fun e w1 hp => ?_)
              obtain ⟨rfl, hb⟩ := hp
              have KB1 := Kept.mk hb
              clear hb K0
              go_wp2_with fail
              refine Calls.mono (K1.out w1) (fun e w2 hp => ?_)
              obtain ⟨rfl, hb⟩ := hp
              have KB2 := Kept.mk (KB1.out.trans (hb.mono KB1.out.size))
              clear hb K1 KB1
              go_wp2_with fail
              refine Calls.mono (K2.out w2) (fun e w3 hp => ?_)
              obtain ⟨rfl, hb⟩ := hp
              have KB3 := Kept.mk (KB2.out.trans (hb.mono KB2.out.size))
              clear hb K2 KB2
              go_wp2
              go_ret
              exact ⟨by cases g <;> rfl, KB3.out⟩
            · go_enter Tryz.func76, Tryz.ntmps76
              go_wp2_with fail
              refine Calls.mono (K0.out w) (fun e w1 hp => ?_)
              obtain ⟨rfl, hb⟩ := hp
              have KB1 := Kept.mk hb
              clear hb K0
              go_wp2_with fail
              refine Calls.mono (K1.out w1) (fun e w2 hp => ?_)
              obtain ⟨rfl, hb⟩ := hp
              have KB2 := Kept.mk (KB1.out.trans (hb.mono KB1.out.size))
              clear hb K1 KB1
              go_wp2
              go_ret
              exact ⟨rfl, KB2.out⟩
          · go_enter Tryz.func76, Tryz.ntmps76
            go_wp2_with fail
            refine Calls.mono (K0.out w) (fun e w1 hp => ?_)
            obtain ⟨rfl, hb⟩ := hp
            have KB1 := Kept.mk hb
            clear hb K0
            go_wp2_with fail
            refine Calls.mono (K1.out w1) (fun e w2 hp => ?_)
            obtain ⟨rfl, hb⟩ := hp
            have KB2 := Kept.mk (KB1.out.trans (hb.mono KB1.out.size))
            clear hb K1 KB1
            go_wp2
            go_ret
            exact ⟨rfl, KB2.out⟩
        · go_enter Tryz.func76, Tryz.ntmps76
          go_wp2_with fail
          refine Calls.mono (K0.out w) (fun e w1 hp => ?_)
          obtain ⟨rfl, hb⟩ := hp
          have KB1 := Kept.mk hb
          clear hb K0
          go_wp2_with fail
          refine Calls.mono (K1.out w1) (fun e w2 hp => ?_)
          obtain ⟨rfl, hb⟩ := hp
          have KB2 := Kept.mk (KB1.out.trans (hb.mono KB1.out.size))
          clear hb K1 KB1
          go_wp2
          go_ret
          exact ⟨rfl, KB2.out⟩
      · go_enter Tryz.func76, Tryz.ntmps76
        go_wp2_with fail
        refine Calls.mono (K0.out w) (fun e w1 hp => ?_)
        obtain ⟨rfl, hb⟩ := hp
        have KB1 := Kept.mk hb
        clear hb K0
        go_wp2
        go_ret
        exact ⟨rfl, KB1.out⟩
    · have i2 : decide ((s.size : Int) ≤ 100) = false := by simp; omega
      rw [decide_eq_false h2]
      clear h1 h2
      go_enter Tryz.func76, Tryz.ntmps76
      go_wp2
      go_ret
      exact ⟨rfl, Below.refl _ _⟩
  · have i1 : decide (1 ≤ (s.size : Int)) = false := by simp; omega
    rw [decide_eq_false h1]
    clear h1
    go_enter Tryz.func76, Tryz.ntmps76
    go_wp2
    go_ret
    exact ⟨rfl, Below.refl _ _⟩
end Go.Proofs.YtkbalngddlhlpaaGreatDoor
