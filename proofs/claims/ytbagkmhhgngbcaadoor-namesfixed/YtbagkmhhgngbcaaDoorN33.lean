/-
  Walks: Ref.
-/
import Derived.Test.YtbagkmhhgngbcaaDoorN32
namespace Go.Proofs.YtbagkmhhgngbcaaDoor
open Go.RowKit

theorem firstF_eq {s : ByteArray} (h : 0 < (partsB s).length) : firstF s = (((partsB s)[0]'h).toList == refsL) := by
  unfold firstF
  generalize partsB s = L at h
  cases L with
  | nil => simp at h
  | cons p l => rfl
theorem parts_size (s p : ByteArray) (h : p ∈ partsB s) : p.size ≤ s.size := by
  have : ∀ (l : List UInt8), ∀ x ∈ cutL l, x.length ≤ l.length := by
    intro l
    induction l with
    | nil => intro x hx; simp [cutL] at hx; subst hx; simp
    | cons c l ih =>
      intro x hx
      unfold cutL at hx
      split at hx
      · rcases List.mem_cons.1 hx with rfl | hx
        · simp
        · have := ih x hx; simp; omega
      · split at hx
        · rename_i p ps e
          rcases List.mem_cons.1 hx with rfl | hx
          · have := ih p (by rw [e]; exact List.mem_cons_self); simp; omega
          · have := ih x (by rw [e]; exact List.mem_cons_of_mem _ hx); simp; omega
        · simp at hx; subst hx; simp
  have hm : p.data.toList ∈ cutL s.data.toList := by
    rw [← parts_cut]
    exact List.mem_map.2 ⟨p, h, rfl⟩
  have := this _ _ hm
  rw [← Lib.size_eq, ← Lib.size_eq] at this
  exact this
set_option maxHeartbeats 2000000 in
set_option maxRecDepth 100000 in
theorem ref_any (s : ByteArray) (w : World) (hg : Gl w) : Calls Tryd.prog 14 #[.string s] w fun e w' => e = .returned (.bool (refF s)) ∧ Below w.heap.size w w' := by
  have KE : Kept (refF s = ((s.toList == headL) || (decide (s.size ≤ 200) && rbF s && !Lib.contains s.data.toList [46, 46] && !Lib.contains s.data.toList [64, 123] && decide (3 ≤ (partsB s).length) && firstF s && (partsB s).all rpF))) := ⟨rfl⟩
  obtain ⟨b0, hb0⟩ : ∃ b, (s.toList == headL) = b := ⟨_, rfl⟩
  rw [hb0] at KE
  unfold headL at hb0
  cases b0
  rotate_left
  · have KE2 : Kept (refF s = true) := ⟨by rw [KE.out]; rfl⟩
    clear KE
    go_enter Tryd.func14, Tryd.ntmps14
    go_wp2
    go_ret
    exact ⟨by rw [KE2.out]; rfl, Below.refl _ _⟩
  rw [Bool.false_or] at KE
  by_cases h2 : s.size ≤ 200
  rotate_left
  · have h2i : (200 : Int) < (s.size : Int) := by omega
    have KE2 : Kept (refF s = false) := ⟨by rw [KE.out, decide_eq_false h2]; simp⟩
    clear KE
    go_enter Tryd.func14, Tryd.ntmps14
    go_wp2
    go_ret
    exact ⟨by rw [KE2.out]; rfl, Below.refl _ _⟩
  have h2i : ¬ (200 : Int) < (s.size : Int) := by omega
  rw [decide_eq_true h2, Bool.true_and] at KE
  have K0 := Kept.mk (refBytes_any s w (by omega))
  have KG := Kept.mk hg
  have hsz : s.size < 4294967281 := by omega
  have KC1 : Kept (∀ w, Gl w → Calls Tryd.prog 33 #[.string s, .string ⟨#[46, 46]⟩] w fun e w' => e = .returned (.bool (Lib.contains s.data.toList [46, 46])) ∧ w' = w) := ⟨fun w hg => by
    obtain ⟨m, hm⟩ := hg.mx
    exact Tryd.strings_Contains s ⟨#[46, 46]⟩ m w hsz hm⟩
  have KC2 : Kept (∀ w, Gl w → Calls Tryd.prog 33 #[.string s, .string ⟨#[64, 123]⟩] w fun e w' => e = .returned (.bool (Lib.contains s.data.toList [64, 123])) ∧ w' = w) := ⟨fun w hg => by
    obtain ⟨m, hm⟩ := hg.mx
    exact Tryd.strings_Contains s ⟨#[64, 123]⟩ m w hsz hm⟩
  have KS : Kept (∀ w, Gl w → Calls Tryd.prog 31 #[.string s, .string ⟨#[47]⟩] w fun e w' => e = .returned (.slice (some ⟨w.heap.size, 0, none⟩) (partsB s).length (partsB s).length) ∧ w' = w.alloc (.cells ((partsB s).map Value.string).toArray 9)) := ⟨fun w hg => by
    obtain ⟨m, hm⟩ := hg.mx
    rw [partsB_length]
    exact Tryd.strings_Split s ⟨#[47]⟩ m w hsz hm (by decide)⟩
  have KF1 : Kept (∀ h : 0 < (partsB s).length, firstF s = (((partsB s)[0]'h).toList == refsL)) := ⟨fun h => firstF_eq h⟩
  have hle := partsB_le s
  have hl0 := parts_ne s
  have KPs : Kept (∀ p ∈ partsB s, p.size ≤ 200) := ⟨fun p hp => Nat.le_trans (parts_size s p hp) h2⟩
  generalize rbF s = q0 at *
  generalize Lib.contains s.data.toList [46, 46] = q1 at *
  generalize Lib.contains s.data.toList [64, 123] = q2 at *
  generalize partsB s = L at *
  have hLl : (L.length : Int) ≤ 201 := by omega
  clear hg h2 hsz
  go_enter Tryd.func14, Tryd.ntmps14
  go_wp2_with fail
  refine Calls.mono K0.out (fun e w1 hp => ?_)
  obtain ⟨rfl, hb⟩ := hp
  have KG1 := Kept.mk (KG.out.later hb)
  have KB1 := Kept.mk hb
  clear hb KG K0
  cases q0
  · go_wp2
    go_ret
    exact ⟨by rw [KE.out]; rfl, KB1.out⟩
  have KC1 := Kept.mk (KC1.out w1 KG1.out)
  go_wp2_with fail
  refine Calls.mono KC1.out (fun e w1 hp => ?_)
  obtain ⟨rfl, rfl⟩ := hp
  clear KC1
  cases q1
  rotate_left
  · go_wp2
    go_ret
    exact ⟨by rw [KE.out]; rfl, KB1.out⟩
  have KC2 := Kept.mk (KC2.out w1 KG1.out)
  go_wp2_with fail
  refine Calls.mono KC2.out (fun e w1 hp => ?_)
  obtain ⟨rfl, rfl⟩ := hp
  clear KC2
  cases q2
  rotate_left
  · go_wp2
    go_ret
    exact ⟨by rw [KE.out]; rfl, KB1.out⟩
  have KS := Kept.mk (KS.out w1 KG1.out)
  go_wp2_with fail
  refine Calls.mono KS.out (fun e w2 hp => ?_)
  obtain ⟨rfl, rfl⟩ := hp
  have KH := Kept.mk (heap_alloc_new w1 (.cells (L.map Value.string).toArray 9))
  have KB0 := Kept.mk ((Below.refl w1.heap.size w1).alloc (Nat.le_refl _) (.cells (L.map Value.string).toArray 9))
  obtain ⟨w2, hw2⟩ : ∃ w2, w1.alloc (.cells (L.map Value.string).toArray 9) = w2 := ⟨_, rfl⟩
  rw [hw2] at KH KB0 ⊢
  clear hw2 KG1 KS
  have KB2 := Kept.mk (KB1.out.trans (KB0.out.mono KB1.out.size))
  clear KB0
  have hc0 : w2.cell? ⟨w1.heap.size, 0, none⟩ = some (.string (L[0]'hl0)) := by
    unfold World.cell?
    simp only [KH.out]
    simp [hl0]
  have KF1 := KF1.out hl0
  by_cases h3 : 3 ≤ L.length
  rotate_left
  · have h3i : (L.length : Int) < 3 := by omega
    have KE2 : Kept (refF s = false) := ⟨by rw [KE.out, decide_eq_false h3]; simp⟩
    clear hc0 KF1
    go_wp2
    go_ret
    exact ⟨by rw [KE2.out]; rfl, KB2.out⟩
  have h3i : ¬ (L.length : Int) < 3 := by omega
  have h0i : (0 : Int) < (L.length : Int) := by omega
  rw [decide_eq_true h3] at KE
  obtain ⟨p0, hp0⟩ : ∃ p, L[0]'hl0 = p := ⟨_, rfl⟩
  rw [hp0] at hc0 KF1
  obtain ⟨b1, hb1⟩ : ∃ b, (p0.toList == refsL) = b := ⟨_, rfl⟩
  rw [hb1] at KF1
  unfold refsL at hb1
  rw [KF1] at KE
  clear KF1 hp0
  cases b1
  · have KE2 : Kept (refF s = false) := ⟨by rw [KE.out]; simp⟩
    go_wp2
    go_ret
    exact ⟨by rw [KE2.out]; rfl, KB2.out⟩
  have KE2 : Kept (refF s = L.all rpF) := ⟨by rw [KE.out]; simp⟩
  have KN : Kept (∀ p ∈ L, ∀ w, Calls Tryd.prog 34 #[.string p] w fun e w' => e = .returned (.bool (rpF p)) ∧ Below w.heap.size w w') := ⟨fun p hp w => refPart_any p w (by have := KPs.out p hp; omega)⟩
  clear KPs KE
  go_wp2
  go_loopw [5, 37] (fun _ kv wr => ∃ k : Nat, k ≤ L.length ∧ kv = .int .i64 k ∧ wr.heap[w1.heap.size]? = some (.cells (L.map Value.string).toArray 9) ∧ Below w.heap.size w wr ∧ (L.take k).all rpF = true) (fun _ kv _ => L.length - (intOf kv).toNat)
  case atStart => exact ⟨0, Nat.zero_le _, rfl, KH.out, KB2.out, rfl⟩
  case round =>
    obtain ⟨k, hk, rfl, hh, hbel, hall⟩ := hrel
    have KHr := Kept.mk hh
    have KBr := Kept.mk hbel
    have KA := Kept.mk hall
    have hsz : w1.heap.size < wr.heap.size := (Array.getElem?_eq_some_iff.1 hh).1
    clear hbel hall
    by_cases hlt : k < L.length
    · have hki : (k : Int) < (L.length : Int) := by omega
      have hc : wr.cell? ⟨w1.heap.size, k, none⟩ = some (.string (L[k]'hlt)) := by
        unfold World.cell?
        simp only [hh]
        simp [hlt]
      have hmem := List.getElem_mem hlt
      obtain ⟨P, hP⟩ : ∃ P, L[k]'hlt = P := ⟨_, rfl⟩
      rw [hP] at hc hmem
      have KP := Kept.mk hP
      have KN1 := Kept.mk (KN.out P hmem wr)
      clear hh hP hmem
      by_cases hq : rpF P = true
      · rw [hq] at KN1
        have KQ := Kept.mk hq
        clear hq
        go_wp2_with fail
        refine Calls.mono KN1.out (fun e w3 hp => ?_)
        obtain ⟨rfl, hb3⟩ := hp
        have KB3 := Kept.mk hb3
        clear hb3
        go_wp2
        go_roundw
        case rel => exact ⟨k + 1, by omega, rfl, by rw [KB3.out.block _ hsz]; exact KHr.out, KBr.out.trans (KB3.out.mono KBr.out.size), by
          rw [List.take_add_one, List.all_append, KA.out, List.getElem?_eq_getElem hlt, KP.out]
          simp [KQ.out]⟩
        case measure => simp [intOf]; omega
      · have hqf : rpF P = false := by simpa using hq
        rw [hqf] at KN1
        have KF : Kept (L.all rpF = false) := ⟨by
          rw [List.all_eq_false]
          exact ⟨P, by rw [← KP.out]; exact List.getElem_mem hlt, by simp [hqf]⟩⟩
        clear hq hqf
        go_wp2_with fail
        refine Calls.mono KN1.out (fun e w3 hp => ?_)
        obtain ⟨rfl, hb3⟩ := hp
        have KB3 := Kept.mk hb3
        clear hb3
        go_wp2
        go_ret
        exact ⟨by rw [KE2.out, KF.out]; rfl, KBr.out.trans (KB3.out.mono KBr.out.size)⟩
    · have hki : ¬ (k : Int) < (L.length : Int) := by omega
      have KT : Kept (L.all rpF = true) := ⟨by
        have := KA.out
        rwa [List.take_of_length_le (by omega)] at this⟩
      clear hh
      go_wp2
      go_ret
      exact ⟨by rw [KE2.out, KT.out]; rfl, KBr.out⟩
end Go.Proofs.YtbagkmhhgngbcaaDoor
