/-
  Walks: the document's Name.
-/
import Derived.Test.YthkaohkondkhgaaDoorN26
namespace Go.Proofs.YthkaohkondkhgaaDoor
open Go.RowKit

theorem str_eq (s t : ByteArray) : (s.toList == t.toList) = decide (s = t) := by
  rw [Lib.toList_data, Lib.toList_data]
  by_cases h : s = t
  · subst h
    simp
  · have hd : ¬ s.data = t.data := fun e => h (by cases s; cases t; simp only at e; subst e; rfl)
    simp [h, hd]

theorem any_two (s : ByteArray) : Lib.containsAny s.data.toList [47, 0] = (hasF s 47 || hasF s 0) := by
  unfold hasF
  cases e : Lib.containsAny s.data.toList [47, 0] with
  | false =>
    have h := any_mem _ _ e
    have g : ∀ c ∈ ([47, 0] : List UInt8), s.data.toList.contains c = false := fun c hc => by
      cases e' : s.data.toList.contains c with
      | false => rfl
      | true => exact absurd hc (h c (List.contains_iff_mem.1 e'))
    rw [g 47 (by simp), g 0 (by simp)]
    rfl
  | true =>
    cases e2 : (s.data.toList.contains 47 || s.data.toList.contains 0) with
    | true => rfl
    | false =>
      exfalso
      simp only [Bool.or_eq_false_iff] at e2
      have := any_no [47, 0] s.data.toList (fun b hb hc => by
        have hb' := List.contains_iff_mem.2 hb
        simp only [List.mem_cons, List.not_mem_nil, or_false] at hc
        rcases hc with rfl | rfl
        · rw [e2.1] at hb'; cases hb'
        · rw [e2.2] at hb'; cases hb')
      rw [this] at e
      cases e
theorem name_has (s : ByteArray) : nameF s = (decide (1 ≤ s.size) && decide (s.size ≤ 100) && !hasF s 47 && !hasF s 0 && !(s.toList == [46]) && !(s.toList == [46, 46]) && !gitF s) := by
  unfold nameF
  rw [any_two]
  have e1 : (s.toList == [46]) = decide (s = ⟨#[46]⟩) := by
    have := str_eq s ⟨#[46]⟩
    rw [Lib.toList_data ⟨#[46]⟩] at this
    exact this
  have e2 : (s.toList == [46, 46]) = decide (s = ⟨#[46, 46]⟩) := by
    have := str_eq s ⟨#[46, 46]⟩
    rw [Lib.toList_data ⟨#[46, 46]⟩] at this
    exact this
  rw [e1, e2]
  cases decide (1 ≤ s.size) <;> cases decide (s.size ≤ 100) <;> cases hasF s 47 <;> cases hasF s 0 <;> rfl
set_option maxHeartbeats 1000000 in
set_option maxRecDepth 100000 in
theorem rname_any (s : ByteArray) (w : World) : Calls Tryd.prog 67 #[.string s] w fun e w' => e = .returned (.bool (nameF s)) ∧ Below w.heap.size w w' := by
  rw [name_has]
  by_cases h1 : 1 ≤ s.size
  · have i1 : decide (1 ≤ (s.size : Int)) = true := by simp; omega
    rw [decide_eq_true h1]
    by_cases h2 : s.size ≤ 100
    · have i2 : decide ((s.size : Int) ≤ 100) = true := by simp; omega
      rw [decide_eq_true h2]
      have K0 : Kept (∀ w, Calls Tryd.prog 89 #[.string s, .int .u8 47] w fun e w' => e = .returned (.bool (hasF s 47)) ∧ Below w.heap.size w w') := ⟨fun w => has_any s 47 47 rfl w (by omega)⟩
      have K1 : Kept (∀ w, Calls Tryd.prog 89 #[.string s, .int .u8 0] w fun e w' => e = .returned (.bool (hasF s 0)) ∧ Below w.heap.size w w') := ⟨fun w => has_any s 0 0 rfl w (by omega)⟩
      have K2 : Kept (∀ w, Calls Tryd.prog 90 #[.string s] w fun e w' => e = .returned (.bool (gitF s)) ∧ Below w.heap.size w w') := ⟨fun w => git_any s w⟩
      generalize hasF s 47 = q0 at *
      generalize hasF s 0 = q1 at *
      generalize gitF s = g at *
      obtain ⟨b1, hb1⟩ : ∃ b, (s.toList == [46]) = b := ⟨_, rfl⟩
      obtain ⟨b2, hb2⟩ : ∃ b, (s.toList == [46, 46]) = b := ⟨_, rfl⟩
      rw [hb1, hb2]
      clear h1 h2
      cases q0
      · cases q1
        · cases b1
          · cases b2
            · go_enter Tryd.func67, Tryd.ntmps67
              go_wp2_with fail
              refine Calls.mono (K0.out w) (fun e w1 hp => ?_)
              obtain ⟨rfl, hb⟩ := hp
              have KB1 := Kept.mk hb
              clear hb K0
              go_wp2_with fail
              refine Calls.mono (K1.out w1) (fun e w2 hp => ?_)
              obtain ⟨rfl, hb⟩ := hp
              have KB2 := Kept.mk (KB1.out.trans (hb.mono KB1.out.size))
              clear hb K1 KB1
              go_wp2_with fail
              refine Calls.mono (K2.out w2) (fun e w3 hp => ?_)
              obtain ⟨rfl, hb⟩ := hp
              have KB3 := Kept.mk (KB2.out.trans (hb.mono KB2.out.size))
              clear hb K2 KB2
              go_wp2
              go_ret
              exact ⟨by cases g <;> rfl, KB3.out⟩
            · go_enter Tryd.func67, Tryd.ntmps67
              go_wp2_with fail
              refine Calls.mono (K0.out w) (fun e w1 hp => ?_)
              obtain ⟨rfl, hb⟩ := hp
              have KB1 := Kept.mk hb
              clear hb K0
              go_wp2_with fail
              refine Calls.mono (K1.out w1) (fun e w2 hp => ?_)
              obtain ⟨rfl, hb⟩ := hp
              have KB2 := Kept.mk (KB1.out.trans (hb.mono KB1.out.size))
              clear hb K1 KB1
              go_wp2
              go_ret
              exact ⟨rfl, KB2.out⟩
          · go_enter Tryd.func67, Tryd.ntmps67
            go_wp2_with fail
            refine Calls.mono (K0.out w) (fun e w1 hp => ?_)
            obtain ⟨rfl, hb⟩ := hp
            have KB1 := Kept.mk hb
            clear hb K0
            go_wp2_with fail
            refine Calls.mono (K1.out w1) (fun e w2 hp => ?_)
            obtain ⟨rfl, hb⟩ := hp
            have KB2 := Kept.mk (KB1.out.trans (hb.mono KB1.out.size))
            clear hb K1 KB1
            go_wp2
            go_ret
            exact ⟨rfl, KB2.out⟩
        · go_enter Tryd.func67, Tryd.ntmps67
          go_wp2_with fail
          refine Calls.mono (K0.out w) (fun e w1 hp => ?_)
          obtain ⟨rfl, hb⟩ := hp
          have KB1 := Kept.mk hb
          clear hb K0
          go_wp2_with fail
          refine Calls.mono (K1.out w1) (fun e w2 hp => ?_)
          obtain ⟨rfl, hb⟩ := hp
          have KB2 := Kept.mk (KB1.out.trans (hb.mono KB1.out.size))
          clear hb K1 KB1
          go_wp2
          go_ret
          exact ⟨rfl, KB2.out⟩
      · go_enter Tryd.func67, Tryd.ntmps67
        go_wp2_with fail
        refine Calls.mono (K0.out w) (fun e w1 hp => ?_)
        obtain ⟨rfl, hb⟩ := hp
        have KB1 := Kept.mk hb
        clear hb K0
        go_wp2
        go_ret
        exact ⟨rfl, KB1.out⟩
    · have i2 : decide ((s.size : Int) ≤ 100) = false := by simp; omega
      rw [decide_eq_false h2]
      clear h1 h2
      go_enter Tryd.func67, Tryd.ntmps67
      go_wp2
      go_ret
      exact ⟨rfl, Below.refl _ _⟩
  · have i1 : decide (1 ≤ (s.size : Int)) = false := by simp; omega
    rw [decide_eq_false h1]
    clear h1
    go_enter Tryd.func67, Tryd.ntmps67
    go_wp2
    go_ret
    exact ⟨rfl, Below.refl _ _⟩
end Go.Proofs.YthkaohkondkhgaaDoor
