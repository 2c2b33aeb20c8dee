/-
  Walks: Name, Path.
-/
import Derived.Test.YtegdadkejheagaaDoorN8
namespace Go.Proofs.YtegdadkejheagaaDoor
open Go.RowKit

/-- May it be a name? -/
def nameF (s : ByteArray) : Bool := decide (1 ≤ s.size) && decide (s.size ≤ 100) && !Lib.containsAny s.data.toList [47, 0] && !decide (s = ⟨#[46]⟩) && !decide (s = ⟨#[46, 46]⟩) && !gitF s
theorem ascii2 : AsciiB ⟨#[47, 0]⟩ := by
  intro j b h
  have hm : b ∈ ([47, 0] : List UInt8) := List.mem_of_getElem? h
  have key : ∀ b ∈ ([47, 0] : List UInt8), b.toNat < 128 := by decide
  exact key b hm
theorem toList_lit (s : ByteArray) (l : List UInt8) : s.toList = l ↔ s = ⟨l.toArray⟩ := by
  rw [Lib.toList_data]
  constructor
  · intro h
    obtain ⟨⟨a⟩⟩ := s
    have h' : a = l := h
    rw [h']
  · intro h
    rw [h]
set_option maxHeartbeats 1000000 in
set_option maxRecDepth 100000 in
theorem name_any (s : ByteArray) (w : World) : Calls Tryd.prog 41 #[.string s] w fun e w' => e = .returned (.bool (nameF s)) ∧ Below w.heap.size w w' := by
  by_cases h1 : 1 ≤ s.size
  · have h1i : ¬ (s.size : Int) < 1 := by omega
    by_cases h2 : s.size ≤ 100
    · have h2i : ¬ (100 : Int) < (s.size : Int) := by omega
      have KC : Kept (Calls Tryd.prog 51 #[.string s, .string ⟨#[47, 0]⟩] w fun e w' => e = .returned (.bool (Lib.containsAny s.data.toList [47, 0])) ∧ Below w.heap.size w w') := ⟨containsAny_any s ⟨#[47, 0]⟩ w (by omega) (by decide) (by decide) ascii2⟩
      have KG := Kept.mk (isDotGit_any s)
      have KE : Kept (nameF s = (!Lib.containsAny s.data.toList [47, 0] && !decide (s = ⟨#[46]⟩) && !decide (s = ⟨#[46, 46]⟩) && !gitF s)) := ⟨by unfold nameF; rw [decide_eq_true h1, decide_eq_true h2]; simp⟩
      have t1 := toList_lit s [46]
      have t2 := toList_lit s [46, 46]
      generalize Lib.containsAny s.data.toList [47, 0] = q at *
      generalize gitF s = g at *
      cases q
      · by_cases e1 : s = ⟨#[46]⟩
        · have KE2 : Kept (nameF s = false) := ⟨by rw [KE.out, decide_eq_true e1]; simp⟩
          have u1 : s.toList = [46] := t1.2 e1
          clear e1 KE t2 t1
          go_enter Tryd.func41, Tryd.ntmps41
          go_wp2_with fail
          refine Calls.mono KC.out (fun e w1 hp => ?_)
          obtain ⟨rfl, hb⟩ := hp
          have KB := Kept.mk hb
          clear hb
          go_wp2
          go_ret
          exact ⟨by rw [KE2.out]; rfl, KB.out⟩
        · have u1 : ¬ s.toList = [46] := fun h => e1 (t1.1 h)
          clear t1
          by_cases e2 : s = ⟨#[46, 46]⟩
          · have u2 : s.toList = [46, 46] := t2.2 e2
            have KE2 : Kept (nameF s = false) := ⟨by rw [KE.out, decide_eq_true e2]; simp⟩
            clear e1 e2 KE t2
            go_enter Tryd.func41, Tryd.ntmps41
            go_wp2_with fail
            refine Calls.mono KC.out (fun e w1 hp => ?_)
            obtain ⟨rfl, hb⟩ := hp
            have KB := Kept.mk hb
            clear hb
            go_wp2
            go_ret
            exact ⟨by rw [KE2.out]; rfl, KB.out⟩
          · have u2 : ¬ s.toList = [46, 46] := fun h => e2 (t2.1 h)
            clear t2
            have KE2 : Kept (nameF s = !g) := ⟨by rw [KE.out, decide_eq_false e1, decide_eq_false e2]; simp⟩
            clear e1 e2 KE
            go_enter Tryd.func41, Tryd.ntmps41
            go_wp2_with fail
            refine Calls.mono KC.out (fun e w1 hp => ?_)
            obtain ⟨rfl, hb⟩ := hp
            have KB := Kept.mk hb
            have KG1 := Kept.mk (KG.out w1)
            clear hb
            go_wp2_with fail
            refine Calls.mono KG1.out (fun e w2 hp => ?_)
            obtain ⟨rfl, hb⟩ := hp
            have KB2 := Kept.mk (KB.out.trans (hb.mono KB.out.size))
            clear hb
            go_wp2
            go_ret
            exact ⟨by rw [KE2.out]; simp [u1, u2], KB2.out⟩
      · have KE2 : Kept (nameF s = false) := ⟨by rw [KE.out]; simp⟩
        clear KE t1 t2
        go_enter Tryd.func41, Tryd.ntmps41
        go_wp2_with fail
        refine Calls.mono KC.out (fun e w1 hp => ?_)
        obtain ⟨rfl, hb⟩ := hp
        have KB := Kept.mk hb
        clear hb
        go_wp2
        go_ret
        exact ⟨by rw [KE2.out]; rfl, KB.out⟩
    · have h2i : (100 : Int) < (s.size : Int) := by omega
      have KE2 : Kept (nameF s = false) := ⟨by unfold nameF; rw [decide_eq_false h2]; simp⟩
      go_enter Tryd.func41, Tryd.ntmps41
      go_wp2
      go_ret
      exact ⟨by rw [KE2.out]; rfl, Below.refl _ _⟩
  · have h1i : (s.size : Int) < 1 := by omega
    have KE2 : Kept (nameF s = false) := ⟨by unfold nameF; rw [decide_eq_false h1]; simp⟩
    go_enter Tryd.func41, Tryd.ntmps41
    go_wp2
    go_ret
    exact ⟨by rw [KE2.out]; rfl, Below.refl _ _⟩

/-- The parts of a path. -/
def partsB (s : ByteArray) : List ByteArray := Lib.splitB ⟨#[47]⟩ 0 (Lib.countB s ⟨#[47]⟩) s
def pathF (s : ByteArray) : Bool := decide (s.size ≤ 200) && (partsB s).all nameF
theorem partsB_length (s : ByteArray) : (partsB s).length = Lib.countB s ⟨#[47]⟩ + 1 := Lib.splitB_all ⟨#[47]⟩ (by decide) 0 _ s rfl
theorem partsB_le (s : ByteArray) : (partsB s).length ≤ s.size + 1 := by
  rw [partsB_length]
  have := Lib.countB_le ⟨#[47]⟩ (by decide) s.size s (Nat.le_refl _)
  omega

set_option maxHeartbeats 1000000 in
set_option maxRecDepth 100000 in
theorem path_any (s : ByteArray) (w : World) (hg : Gl w) : Calls Tryd.prog 29 #[.string s] w fun e w' => e = .returned (.bool (pathF s)) ∧ Below w.heap.size w w' := by
  by_cases h2 : s.size ≤ 200
  · have h2i : ¬ (200 : Int) < (s.size : Int) := by omega
    obtain ⟨m, hm⟩ := hg.mx
    have KS := Tryd.strings_Split s ⟨#[47]⟩ m w (by omega) hm (by decide)
    have hl := partsB_length s
    have hle := partsB_le s
    have KE : Kept (pathF s = (partsB s).all nameF) := ⟨by unfold pathF; rw [decide_eq_true h2]; simp⟩
    have KS : Kept (Calls Tryd.prog 40 #[.string s, .string ⟨#[47]⟩] w fun e w' => e = .returned (.slice (some ⟨w.heap.size, 0, none⟩) (partsB s).length (partsB s).length) ∧ w' = w.alloc (.cells ((partsB s).map Value.string).toArray 9)) := ⟨by rw [hl]; exact KS⟩
    generalize partsB s = L at *
    clear hl hg
    have KH := Kept.mk (heap_alloc_new w (.cells (L.map Value.string).toArray 9))
    have KB0 := Kept.mk ((Below.refl w.heap.size w).alloc (Nat.le_refl _) (.cells (L.map Value.string).toArray 9))
    have KN := Kept.mk name_any
    go_enter Tryd.func29, Tryd.ntmps29
    go_wp2_with fail
    refine Calls.mono KS.out (fun e w1 hp => ?_)
    obtain ⟨rfl, rfl⟩ := hp
    obtain ⟨w1, hw1⟩ : ∃ w1, w.alloc (.cells (L.map Value.string).toArray 9) = w1 := ⟨_, rfl⟩
    rw [hw1] at KH KB0 ⊢
    clear hw1
    have hLl : (L.length : Int) ≤ 201 := by omega
    go_wp2
    go_loopw [4, 11] (fun _ kv wr => ∃ k : Nat, k ≤ L.length ∧ kv = .int .i64 k ∧ wr.heap[w.heap.size]? = some (.cells (L.map Value.string).toArray 9) ∧ Below w.heap.size w wr ∧ (L.take k).all nameF = true) (fun _ kv _ => L.length - (intOf kv).toNat)
    case atStart => exact ⟨0, Nat.zero_le _, rfl, KH.out, KB0.out, rfl⟩
    case round =>
      obtain ⟨k, hk, rfl, hh, hbel, hall⟩ := hrel
      have KHr := Kept.mk hh
      have KBr := Kept.mk hbel
      have KA := Kept.mk hall
      have hsz : w.heap.size < wr.heap.size := (Array.getElem?_eq_some_iff.1 hh).1
      clear hbel hall
      by_cases hlt : k < L.length
      · have hki : (k : Int) < (L.length : Int) := by omega
        have hc : wr.cell? ⟨w.heap.size, k, none⟩ = some (.string (L[k]'hlt)) := by
          unfold World.cell?
          simp only [hh]
          simp [hlt]
        obtain ⟨P, hP⟩ : ∃ P, L[k]'hlt = P := ⟨_, rfl⟩
        rw [hP] at hc
        have KP := Kept.mk hP
        have KN1 := Kept.mk (KN.out P wr)
        clear hh hP
        by_cases hq : nameF P = true
        · rw [hq] at KN1
          have KQ := Kept.mk hq
          clear hq
          go_wp2_with fail
          refine Calls.mono KN1.out (fun e w3 hp => ?_)
          obtain ⟨rfl, hb3⟩ := hp
          have KB3 := Kept.mk hb3
          clear hb3
          go_wp2
          go_roundw
          case rel => exact ⟨k + 1, by omega, rfl, by rw [KB3.out.block _ hsz]; exact KHr.out, KBr.out.trans (KB3.out.mono KBr.out.size), by
            rw [List.take_add_one, List.all_append, KA.out, List.getElem?_eq_getElem hlt, KP.out]
            simp [KQ.out]⟩
          case measure => simp [intOf]; omega
        · have hqf : nameF P = false := by simpa using hq
          rw [hqf] at KN1
          have KF : Kept (L.all nameF = false) := ⟨by
            rw [List.all_eq_false]
            exact ⟨P, by rw [← KP.out]; exact List.getElem_mem hlt, by simp [hqf]⟩⟩
          clear hq hqf
          go_wp2_with fail
          refine Calls.mono KN1.out (fun e w3 hp => ?_)
          obtain ⟨rfl, hb3⟩ := hp
          have KB3 := Kept.mk hb3
          clear hb3
          go_wp2
          go_ret
          exact ⟨by rw [KE.out, KF.out]; rfl, KBr.out.trans (KB3.out.mono KBr.out.size)⟩
      · have hki : ¬ (k : Int) < (L.length : Int) := by omega
        have KT : Kept (L.all nameF = true) := ⟨by
          have := KA.out
          rwa [List.take_of_length_le (by omega)] at this⟩
        clear hh
        go_wp2
        go_ret
        exact ⟨by rw [KE.out, KT.out]; rfl, KBr.out⟩
  · have h2i : (200 : Int) < (s.size : Int) := by omega
    have KE2 : Kept (pathF s = false) := ⟨by unfold pathF; rw [decide_eq_false h2]; simp⟩
    go_enter Tryd.func29, Tryd.ntmps29
    go_wp2
    go_ret
    exact ⟨by rw [KE2.out]; rfl, Below.refl _ _⟩
end Go.Proofs.YtegdadkejheagaaDoor
