/-
  Walks: Name, Path.
-/
import Derived.Test.YtmnadnhabfflkaaDoorN8
namespace Go.Proofs.YtmnadnhabfflkaaDoor
open Go.RowKit

/-- May it be a name? -/
def nameF (s : ByteArray) : Bool := decide (1 ≤ s.size) && decide (s.size ≤ 100) && !Lib.containsAny s.data.toList [47, 0] && !decide (s = ⟨#[46]⟩) && !decide (s = ⟨#[46, 46]⟩) && !gitF s
theorem ascii2 : AsciiB ⟨#[47, 0]⟩ := by
  intro j b h
  have hm : b ∈ ([47, 0] : List UInt8) := List.mem_of_getElem? h
  have key : ∀ b ∈ ([47, 0] : List UInt8), b.toNat < 128 := by decide
  exact key b hm
theorem toList_lit (s : ByteArray) (l : List UInt8) : s.toList = l ↔ s = ⟨l.toArray⟩ := by
  rw [Lib.toList_data]
  constructor
  · intro h
    obtain ⟨⟨a⟩⟩ := s
    have h' : a = l := h
    rw [h']
  · intro h
    rw [h]
set_option maxHeartbeats 1000000 in
set_option maxRecDepth 100000 in
theorem name_any (s : ByteArray) (w : World) : Calls Tryd.prog 31 #[.string s] w fun e w' => e = .returned (.bool (nameF s)) ∧ Below w.heap.size w w' := by
  by_cases h1 : 1 ≤ s.size
  · have h1i : ¬ (s.size : Int) < 1 := by omega
    by_cases h2 : s.size ≤ 100
    · have h2i : ¬ (100 : Int) < (s.size : Int) := by omega
      have KC : Kept (Calls Tryd.prog 43 #[.string s, .string ⟨#[47, 0]⟩] w fun e w' => e = .returned (.bool (Lib.containsAny s.data.toList [47, 0])) ∧ Below w.heap.size w w') := ⟨containsAny_any s ⟨#[47, 0]⟩ w (by omega) (by decide) (by decide) ascii2⟩
      have KG := Kept.mk (isDotGit_any s)
      have KE : Kept (nameF s = (!Lib.containsAny s.data.toList [47, 0] && !decide (s = ⟨#[46]⟩) && !decide (s = ⟨#[46, 46]⟩) && !gitF s)) := ⟨by unfold nameF; rw [decide_eq_true h1, decide_eq_true h2]; simp⟩
      have t1 := toList_lit s [46]
      have t2 := toList_lit s [46, 46]
      generalize Lib.containsAny s.data.toList [47, 0] = q at *
      generalize gitF s = g at *
      cases q
      · by_cases e1 : s = ⟨#[46]⟩
        · have KE2 : Kept (nameF s = false) := ⟨by rw [KE.out, decide_eq_true e1]; simp⟩
          have u1 : s.toList = [46] := t1.2 e1
          clear e1 KE t2 t1
          go_enter Tryd.func31, Tryd.ntmps31
          go_wp2_with fail
          refine Calls.mono KC.out (fun e w1 hp => ?_)
          obtain ⟨rfl, hb⟩ := hp
          have KB := Kept.mk hb
          clear hb
          go_wp2
          go_ret
          exact ⟨by rw [KE2.out]; rfl, KB.out⟩
        · have u1 : ¬ s.toList = [46] := fun h => e1 (t1.1 h)
          clear t1
          by_cases e2 : s = ⟨#[46, 46]⟩
          · have u2 : s.toList = [46, 46] := t2.2 e2
            have KE2 : Kept (nameF s = false) := ⟨by rw [KE.out, decide_eq_true e2]; simp⟩
            clear e1 e2 KE t2
            go_enter Tryd.func31, Tryd.ntmps31
            go_wp2_with fail
            refine Calls.mono KC.out (fun e w1 hp => ?_)
            obtain ⟨rfl, hb⟩ := hp
            have KB := Kept.mk hb
            clear hb
            go_wp2
            go_ret
            exact ⟨by rw [KE2.out]; rfl, KB.out⟩
          · have u2 : ¬ s.toList = [46, 46] := fun h => e2 (t2.1 h)
            clear t2
            have KE2 : Kept (nameF s = !g) := ⟨by rw [KE.out, decide_eq_false e1, decide_eq_false e2]; simp⟩
            clear e1 e2 KE
            go_enter Tryd.func31, Tryd.ntmps31
            go_wp2_with fail
            refine Calls.mono KC.out (fun e w1 hp => ?_)
            obtain ⟨rfl, hb⟩ := hp
            have KB := Kept.mk hb
            have KG1 := Kept.mk (KG.out w1)
            clear hb
            go_wp2_with fail
            refine Calls.mono KG1.out (fun e w2 hp => ?_)
            obtain ⟨rfl, hb⟩ := hp
            have KB2 := Kept.mk (KB.out.trans (hb.mono KB.out.size))
            clear hb
            go_wp2
            go_ret
            exact ⟨by rw [KE2.out]; simp [u1, u2], KB2.out⟩
      · have KE2 : Kept (nameF s = false) := ⟨by rw [KE.out]; simp⟩
        clear KE t1 t2
        go_enter Tryd.func31, Tryd.ntmps31
        go_wp2_with fail
        refine Calls.mono KC.out (fun e w1 hp => ?_)
        obtain ⟨rfl, hb⟩ := hp
        have KB := Kept.mk hb
        clear hb
        go_wp2
        go_ret
        exact ⟨by rw [KE2.out]; rfl, KB.out⟩
    · have h2i : (100 : Int) < (s.size : Int) := by omega
      have KE2 : Kept (nameF s = false) := ⟨by unfold nameF; rw [decide_eq_false h2]; simp⟩
      go_enter Tryd.func31, Tryd.ntmps31
      go_wp2
      go_ret
      exact ⟨by rw [KE2.out]; rfl, Below.refl _ _⟩
  · have h1i : (s.size : Int) < 1 := by omega
    have KE2 : Kept (nameF s = false) := ⟨by unfold nameF; rw [decide_eq_false h1]; simp⟩
    go_enter Tryd.func31, Tryd.ntmps31
    go_wp2
    go_ret
    exact ⟨by rw [KE2.out]; rfl, Below.refl _ _⟩

end Go.Proofs.YtmnadnhabfflkaaDoor
