/-
  Walks of the document: Path.
-/
import Derived.Test.YtbagkmhhgngbcaaDoorN31
namespace Go.Proofs.YtbagkmhhgngbcaaDoor
open Go.RowKit

/-- What a slice of texts that isn't empty is. -/
theorem OwnS.open {w : World} {base : Nat} {v : Value} {L : List ByteArray} (h : OwnS w base v L) (h0 : 0 < L.length) : ∃ g cap, v = .slice (some ⟨g, 0, none⟩) L.length cap ∧ base ≤ g ∧ g < w.heap.size ∧ ∀ k (hk : k < L.length), w.cell? ⟨g, k, none⟩ = some (.string (L[k]'hk)) := by
  have h' := h
  unfold OwnS at h'
  rcases h'.2 with ⟨rfl, hn⟩ | ⟨g, cap, cur, rfl, hbg, hg, hnc, hcm, hcs, htake⟩
  · omega
  · refine ⟨g, cap, rfl, hbg, (Array.getElem?_eq_some_iff.1 hg).1, fun k hk => ?_⟩
    have hc := World.ownsRow.cells (g := g) h' rfl k (.string (L[k]'hk)) (by simp [hk])
    rw [add_plain, Nat.zero_add] at hc
    exact hc

set_option maxHeartbeats 1000000 in
set_option maxRecDepth 100000 in
theorem rpath_any (s : ByteArray) (w : World) (hs : s.size < 4294967281) : Calls Tryd.prog 13 #[.string s] w fun e w' => e = .returned (.bool (pathF s)) ∧ Below w.heap.size w w' := by
  have KS := Kept.mk (parts_any s w hs)
  have hl0 := parts_ne s
  have hle := partsB_le s
  have KE : Kept (pathF s = (decide (s.size ≤ 200) && (partsB s).all nameF)) := ⟨rfl⟩
  have KD : Kept (decide ((s.size : Int) ≤ 200) = decide (s.size ≤ 200)) := ⟨by rw [decide_eq_decide]; omega⟩
  generalize partsB s = L at *
  have KN := Kept.mk rname_any
  go_enter Tryd.func13, Tryd.ntmps13
  go_wp2_with fail
  refine Calls.mono KS.out (fun e w1 hp => ?_)
  obtain ⟨v, rfl, hown, hb⟩ := hp
  obtain ⟨g, cap, rfl, hbg, hg, hcells⟩ := hown.open hl0
  have KC := Kept.mk hcells
  have KB0 := Kept.mk hb
  have hLl : (L.length : Int) ≤ 4294967281 := by omega
  clear hown hb hcells KS
  go_wp2

  go_loopw [2, 8] (fun _ kv wr => ∃ k : Nat, k ≤ L.length ∧ kv = .int .i64 k ∧ Below w1.heap.size w1 wr ∧ (L.take k).all nameF = true) (fun _ kv _ => L.length - (intOf kv).toNat)
  case atStart => exact ⟨0, Nat.zero_le _, rfl, Below.refl _ _, rfl⟩
  case round =>
    obtain ⟨k, hk, rfl, hbel, hall⟩ := hrel
    have KBr := Kept.mk hbel
    have KA := Kept.mk hall
    clear hall
    by_cases hlt : k < L.length
    · have hki : (k : Int) < (L.length : Int) := by omega
      have hc : wr.cell? ⟨g, k, none⟩ = some (.string (L[k]'hlt)) := by
        rw [hbel.cell (p := ⟨g, k, none⟩) hg]
        exact KC.out k hlt
      obtain ⟨P, hP⟩ : ∃ P, L[k]'hlt = P := ⟨_, rfl⟩
      rw [hP] at hc
      have KP := Kept.mk hP
      have KN1 := Kept.mk (KN.out P wr)
      clear hP hbel
      by_cases hq : nameF P = true
      · rw [hq] at KN1
        have KQ := Kept.mk hq
        clear hq
        go_wp2_with fail
        refine Calls.mono KN1.out (fun e w3 hp => ?_)
        obtain ⟨rfl, hb3⟩ := hp
        have KB3 := Kept.mk hb3
        clear hb3
        go_wp2
        go_roundw
        case rel => exact ⟨k + 1, by omega, rfl, KBr.out.trans (KB3.out.mono KBr.out.size), by
          rw [List.take_add_one, List.all_append, KA.out, List.getElem?_eq_getElem hlt, KP.out]
          simp [KQ.out]⟩
        case measure => simp [intOf]; omega
      · have hqf : nameF P = false := by simpa using hq
        rw [hqf] at KN1
        have KF : Kept (L.all nameF = false) := ⟨by
          rw [List.all_eq_false]
          exact ⟨P, by rw [← KP.out]; exact List.getElem_mem hlt, by simp [hqf]⟩⟩
        clear hq hqf
        go_wp2_with fail
        refine Calls.mono KN1.out (fun e w3 hp => ?_)
        obtain ⟨rfl, hb3⟩ := hp
        have KB3 := Kept.mk hb3
        clear hb3
        go_wp2
        go_ret
        exact ⟨by rw [KE.out, KF.out, Bool.and_false]; rfl, KB0.out.trans ((KBr.out.trans (KB3.out.mono KBr.out.size)).mono KB0.out.size)⟩
    · have hki : ¬ (k : Int) < (L.length : Int) := by omega
      have KT : Kept (L.all nameF = true) := ⟨by
        have := KA.out
        rwa [List.take_of_length_le (by omega)] at this⟩
      clear hbel
      go_wp2
      go_ret
      exact ⟨by rw [KE.out, KT.out, Bool.and_true, ← KD.out]; rfl, KB0.out.trans (KBr.out.mono KB0.out.size)⟩
end Go.Proofs.YtbagkmhhgngbcaaDoor
