/-
  Walks of the document: Ref.
-/
import Derived.Test.YtbagkmhhgngbcaaDoorN33
namespace Go.Proofs.YtbagkmhhgngbcaaDoor
open Go.RowKit

theorem two_eq (s : ByteArray) (a b : UInt8) {j : Nat} (hj : j + 2 ≤ s.size) : ((s.extract j (j + 2)).toList == [a, b]) = true ↔ twoAt s.data.toList a b j := by
  rw [beq_iff_eq, Lib.extract_toList, show j + 2 - j = 2 by omega]
  unfold twoAt
  have h0 : j < s.data.toList.length := by rw [← Lib.size_eq]; omega
  have h1 : j + 1 < s.data.toList.length := by rw [← Lib.size_eq]; omega
  rw [List.drop_eq_getElem_cons h0, List.drop_eq_getElem_cons h1, List.getElem?_eq_getElem h0, List.getElem?_eq_getElem h1]
  simp
theorem good_mk (s : ByteArray) {k : Nat} (hk : k < s.size) (h1 : 32 < sN s k) (h2 : sN s k < 127) (h3 : badC.contains (s.data.getD k 0) = false) (h4 : ∀ j, k = j + 1 → ((s.extract j (j + 2)).toList == [46, 46]) = false ∧ ((s.extract j (j + 2)).toList == [64, 123]) = false) : goodAt s.data.toList k := by
  obtain ⟨c, hc, he⟩ := sN_some s hk
  have hd : s.data.getD k 0 = c := by
    have hi' : k < s.data.size := hk
    have e : s.data.toList[k]? = some (s.data.getD k 0) := by
      rw [Array.getElem?_toList, Array.getElem?_eq_getElem hi', Array.getD, dif_pos hi']; rfl
    rw [e] at hc
    exact Option.some.inj hc
  refine ⟨fun c' hc' => ?_, fun h => ?_⟩
  · rw [hc] at hc'
    have := Option.some.inj hc'
    subst this
    refine ⟨?_, by rw [← hd]; exact h3⟩
    unfold okN
    simp only [Bool.and_eq_true, decide_eq_true_eq]
    omega
  · obtain ⟨j, rfl⟩ : ∃ j, k = j + 1 := ⟨k - 1, by omega⟩
    have ⟨g1, g2⟩ := h4 j rfl
    rw [Nat.add_sub_cancel]
    refine ⟨fun ht => ?_, fun ht => ?_⟩
    · rw [(two_eq s 46 46 (by omega)).2 ht] at g1; cases g1
    · rw [(two_eq s 64 123 (by omega)).2 ht] at g2; cases g2
theorem good_b1 (s : ByteArray) {k : Nat} (hk : k < s.size) (h : sN s k ≤ 32 ∨ 127 ≤ sN s k) : ¬ goodAt s.data.toList k := by
  obtain ⟨c, hc, he⟩ := sN_some s hk
  intro hg
  have := (hg.1 c hc).1
  unfold okN at this
  simp only [Bool.and_eq_true, decide_eq_true_eq] at this
  omega
theorem good_b2 (s : ByteArray) {k : Nat} (hk : k < s.size) (h : badC.contains (s.data.getD k 0) = true) : ¬ goodAt s.data.toList k := by
  have hi' : k < s.data.size := hk
  have e : s.data.toList[k]? = some (s.data.getD k 0) := by
    rw [Array.getElem?_toList, Array.getElem?_eq_getElem hi', Array.getD, dif_pos hi']; rfl
  intro hg
  have := (hg.1 _ e).2
  rw [h] at this
  cases this
theorem good_b3 (s : ByteArray) {j : Nat} (hk : j + 1 < s.size) (h : ((s.extract j (j + 2)).toList == [46, 46]) = true) : ¬ goodAt s.data.toList (j + 1) := fun hg => (hg.2 (by omega)).1 ((two_eq s 46 46 (by omega)).1 h)
theorem good_b4 (s : ByteArray) {j : Nat} (hk : j + 1 < s.size) (h : ((s.extract j (j + 2)).toList == [64, 123]) = true) : ¬ goodAt s.data.toList (j + 1) := fun hg => (hg.2 (by omega)).2 ((two_eq s 64 123 (by omega)).1 h)
set_option maxHeartbeats 2000000 in
set_option maxRecDepth 100000 in
theorem rref_any (s : ByteArray) (w : World) (hs : s.size < 4294967281) : Calls Tryd.prog 15 #[.string s] w fun e w' => e = .returned (.bool (refF s)) ∧ Below w.heap.size w w' := by
  obtain ⟨b0, hb0⟩ : ∃ b, (s.toList == headL) = b := ⟨_, rfl⟩
  cases b0
  rotate_left
  · have KE2 : Kept (refF s = true) := ⟨by unfold refF; rw [hb0]; rfl⟩
    unfold headL at hb0
    go_enter Tryd.func15, Tryd.ntmps15
    go_wp2
    go_ret
    exact ⟨by rw [KE2.out]; rfl, Below.refl _ _⟩
  have KE := Kept.mk (ref_doc s hb0)
  unfold headL at hb0
  have KS := Kept.mk (parts_any s w hs)
  have KF1 : Kept (∀ h : 0 < (partsB s).length, firstF s = (((partsB s)[0]'h).toList == refsL)) := ⟨fun h => firstF_eq h⟩
  have hle := partsB_le s
  have hl0 := parts_ne s
  have KPs : Kept (∀ p ∈ partsB s, p.size ≤ s.size) := ⟨fun p hp => parts_size s p hp⟩
  generalize partsB s = L at *
  have hLl : (L.length : Int) ≤ 4294967282 := by omega
  go_enter Tryd.func15, Tryd.ntmps15
  go_wp2_with fail
  refine Calls.mono KS.out (fun e w1 hp => ?_)
  obtain ⟨v, rfl, hown, hb⟩ := hp
  obtain ⟨g, cap, rfl, hbg, hg, hcells⟩ := hown.open hl0
  have KC := Kept.mk hcells
  have KB0 := Kept.mk hb
  have hc0 : w1.cell? ⟨g, 0, none⟩ = some (.string (L[0]'hl0)) := hcells 0 hl0
  clear hown hb hcells KS
  have KF1 := KF1.out hl0
  by_cases h3 : 3 ≤ L.length
  rotate_left
  · have h3i : (L.length : Int) < 3 := by omega
    have KE2 : Kept (refF s = false) := ⟨by rw [Bool.eq_false_iff]; exact fun h => h3 (KE.out.1 h).1⟩
    clear hc0 KF1
    go_wp2
    go_ret
    exact ⟨by rw [KE2.out]; rfl, KB0.out⟩
  have h3i : ¬ (L.length : Int) < 3 := by omega
  have h0i : (0 : Int) < (L.length : Int) := by omega
  obtain ⟨p0, hp0⟩ : ∃ p, L[0]'hl0 = p := ⟨_, rfl⟩
  rw [hp0] at hc0 KF1
  obtain ⟨b1, hb1⟩ : ∃ b, (p0.toList == refsL) = b := ⟨_, rfl⟩
  rw [hb1] at KF1
  unfold refsL at hb1
  rw [KF1] at KE
  clear KF1 hp0
  cases b1
  · have KE2 : Kept (refF s = false) := ⟨by rw [Bool.eq_false_iff]; exact fun h => by have := (KE.out.1 h).2.1; cases this⟩
    go_wp2
    go_ret
    exact ⟨by rw [KE2.out]; rfl, KB0.out⟩
  by_cases h2 : s.size ≤ 200
  rotate_left
  · have h2i : (200 : Int) < (s.size : Int) := by omega
    have KE2 : Kept (refF s = false) := ⟨by rw [Bool.eq_false_iff]; exact fun h => h2 (KE.out.1 h).2.2.1⟩
    go_wp2
    go_ret
    exact ⟨by rw [KE2.out]; rfl, KB0.out⟩
  have h2i : ¬ (200 : Int) < (s.size : Int) := by omega
  have KN : Kept (∀ p ∈ L, ∀ w, Calls Tryd.prog 35 #[.string p] w fun e w' => e = .returned (.bool (rpF p)) ∧ Below w.heap.size w w') := ⟨fun p hp w => part_any p w (by have := KPs.out p hp; omega)⟩
  have KH : Kept (∀ (c : UInt8) (x : Int), x = (c.toNat : Int) → ∀ w, Calls Tryd.prog 26 #[.string ⟨#[126, 94, 58, 63, 42, 91, 92]⟩, .int .u8 x] w fun e w' => e = .returned (.bool (badC.contains c)) ∧ Below w.heap.size w w') := ⟨fun c x hx w => has_any ⟨#[126, 94, 58, 63, 42, 91, 92]⟩ c x hx w (by decide)⟩
  have KBad : Kept (∀ i, i < s.size → ¬ goodAt s.data.toList i → refF s = false) := ⟨fun i hi hn => by rw [Bool.eq_false_iff]; exact fun h => hn ((KE.out.1 h).2.2.2.2 i hi)⟩
  have KPt : Kept (L.all rpF = false → refF s = false) := ⟨fun hn => by rw [Bool.eq_false_iff]; exact fun h => by have := (KE.out.1 h).2.2.2.1; rw [hn] at this; cases this⟩
  have KOk : Kept (L.all rpF = true → (∀ i, i < s.size → goodAt s.data.toList i) → refF s = true) := ⟨fun ha hg => KE.out.2 ⟨h3, rfl, h2, ha, hg⟩⟩
  clear KPs KE
  go_wp2
  go_loopw [5, 27] (fun _ kv wr => ∃ k : Nat, k ≤ L.length ∧ kv = .int .i64 k ∧ Below w1.heap.size w1 wr ∧ (L.take k).all rpF = true) (fun _ kv _ => L.length - (intOf kv).toNat)
  case atStart => exact ⟨0, Nat.zero_le _, rfl, Below.refl _ _, rfl⟩
  case round =>
    obtain ⟨k, hk, rfl, hbel, hall⟩ := hrel
    have KBr := Kept.mk hbel
    have KA := Kept.mk hall
    clear hall
    by_cases hlt : k < L.length
    · have hki : (k : Int) < (L.length : Int) := by omega
      have hc : wr.cell? ⟨g, k, none⟩ = some (.string (L[k]'hlt)) := by
        rw [hbel.cell (p := ⟨g, k, none⟩) hg]
        exact KC.out k hlt
      have hmem := List.getElem_mem hlt
      obtain ⟨P, hP⟩ : ∃ P, L[k]'hlt = P := ⟨_, rfl⟩
      rw [hP] at hc hmem
      have KP := Kept.mk hP
      have KN1 := Kept.mk (KN.out P hmem wr)
      clear hP hbel hmem
      by_cases hq : rpF P = true
      · rw [hq] at KN1
        have KQ := Kept.mk hq
        clear hq
        go_wp2_with fail
        refine Calls.mono KN1.out (fun e w3 hp => ?_)
        obtain ⟨rfl, hb3⟩ := hp
        have KB3 := Kept.mk hb3
        clear hb3
        go_wp2
        go_roundw
        case rel => exact ⟨k + 1, by omega, rfl, KBr.out.trans (KB3.out.mono KBr.out.size), by
          rw [List.take_add_one, List.all_append, KA.out, List.getElem?_eq_getElem hlt, KP.out]
          simp [KQ.out]⟩
        case measure => simp [intOf]; omega
      · have hqf : rpF P = false := by simpa using hq
        rw [hqf] at KN1
        have KF : Kept (refF s = false) := ⟨KPt.out (by
          rw [List.all_eq_false]
          exact ⟨P, by rw [← KP.out]; exact List.getElem_mem hlt, by simp [hqf]⟩)⟩
        clear hq hqf
        go_wp2_with fail
        refine Calls.mono KN1.out (fun e w3 hp => ?_)
        obtain ⟨rfl, hb3⟩ := hp
        have KB3 := Kept.mk hb3
        clear hb3
        go_wp2
        go_ret
        exact ⟨by rw [KF.out]; rfl, KB0.out.trans ((KBr.out.trans (KB3.out.mono KBr.out.size)).mono KB0.out.size)⟩
    · have hki : ¬ (k : Int) < (L.length : Int) := by omega
      have KT : Kept (L.all rpF = true) := ⟨by
        have := KA.out
        rwa [List.take_of_length_le (by omega)] at this⟩
      have KBw := Kept.mk (KB0.out.trans (KBr.out.mono KB0.out.size))
      have hs2 : (s.size : Int) ≤ 200 := by omega
      clear hbel KN KA KBr KPt KC hc0 h3 h3i h0i hl0 hle hk hs
      go_wp2
      generalize wr = wq at *
      go_loopw [6] (fun iv wr => ∃ i : Nat, i ≤ s.size ∧ iv = .int .i64 i ∧ Below w.heap.size w wr ∧ ∀ j, j < i → goodAt s.data.toList j) (fun iv _ => s.size - (intOf iv).toNat)
      case atStart => exact ⟨0, Nat.zero_le _, rfl, KBw.out, fun j hj => by omega⟩
      case round =>
        obtain ⟨i, hi, rfl, hbel, hgd⟩ := hrel
        have KBr := Kept.mk hbel
        have KGd := Kept.mk hgd
        clear hbel hgd
        by_cases hlt : i < s.size
        · have hdi : (i : Int) < (s.size : Int) := by omega
          have hidx := fun w => run_index_text w s .i64 i hlt
          have hr := sN_range s i
          by_cases h32 : sN s i ≤ 32
          · have KE := Kept.mk (KBad.out i hlt (good_b1 s hlt (Or.inl h32)))
            generalize sN s i = x at hidx h32
            clear hr
            go_wp2
            go_ret
            exact ⟨by rw [KE.out]; rfl, KBr.out⟩
          by_cases h127 : 127 ≤ sN s i
          · have KE := Kept.mk (KBad.out i hlt (good_b1 s hlt (Or.inr h127)))
            generalize sN s i = x at hidx h32 h127
            clear hr
            go_wp2
            go_ret
            exact ⟨by rw [KE.out]; rfl, KBr.out⟩
          have KG1 := Kept.mk (fun h3 h4 => good_mk s hlt (by omega) (by omega) h3 h4)
          have KG2 := Kept.mk (fun h => KBad.out i hlt (good_b2 s hlt h))
          have KH1 := Kept.mk (KH.out (s.data.getD i 0) (sN s i) rfl wr)
          generalize sN s i = x at hidx h32 h127 KH1
          generalize badC.contains (s.data.getD i 0) = q at KG1 KG2 KH1
          clear hr
          go_wp2_with fail
          refine Calls.mono KH1.out (fun e w3 hp => ?_)
          obtain ⟨rfl, hb3⟩ := hp
          have KB3 := Kept.mk (KBr.out.trans (hb3.mono KBr.out.size))
          clear hb3 KH1
          cases q
          rotate_left
          · have KE := Kept.mk (KG2.out rfl)
            go_wp2
            go_ret
            exact ⟨by rw [KE.out]; rfl, KB3.out⟩
          have KG1 := Kept.mk (KG1.out rfl)
          clear KG2
          cases i with
          | zero =>
            have KGi := Kept.mk (KG1.out (fun j hj => by omega))
            go_wp2
            go_roundw
            case rel =>
              refine ⟨0 + 1, by omega, by simp, KB3.out, fun j hj => ?_⟩
              rw [show j = 0 by omega]
              exact KGi.out
            case measure => simp [intOf]; omega
          | succ j =>
            have KG1 : Kept (((s.extract j (j + 2)).toList == [46, 46]) = false → ((s.extract j (j + 2)).toList == [64, 123]) = false → goodAt s.data.toList (j + 1)) := ⟨fun a1 a2 => KG1.out (fun j' hj' => by
              have : j' = j := by omega
              subst this
              exact ⟨a1, a2⟩)⟩
            have KD1 := Kept.mk (fun h => KBad.out (j + 1) hlt (good_b3 s hlt h))
            have KD2 := Kept.mk (fun h => KBad.out (j + 1) hlt (good_b4 s hlt h))
            obtain ⟨X, hX⟩ : ∃ X, s.extract j (j + 2) = X := ⟨_, rfl⟩
            rw [hX] at KG1 KD1 KD2
            have j1 : (j : Int) ≤ (s.size : Int) := by omega
            have j2 : (j : Int) + 1 + 1 ≤ (s.size : Int) := by omega
            have j3 : (0 : Int) < (j : Int) + 1 := by omega
            have j4 : (j : Int) ≤ (j : Int) + 1 + 1 := by omega
            obtain ⟨y1, hy1⟩ : ∃ b, (X.toList == [46, 46]) = b := ⟨_, rfl⟩
            obtain ⟨y2, hy2⟩ : ∃ b, (X.toList == [64, 123]) = b := ⟨_, rfl⟩
            rw [hy1, hy2] at KG1
            rw [hy1] at KD1
            rw [hy2] at KD2
            cases y1
            · cases y2
              · have KGi := Kept.mk (KG1.out rfl rfl)
                go_wp2
                refine ⟨⟨j + 1 + 1, by omega, by simp, KB3.out, fun j' hj' => ?_⟩, by simp [intOf]; omega⟩
                rcases Nat.lt_or_ge j' (j + 1) with h' | h'
                · exact KGd.out j' h'
                · rw [show j' = j + 1 by omega]
                  exact KGi.out
              · have KE := Kept.mk (KD2.out rfl)
                go_wp2
                go_ret
                exact ⟨by rw [KE.out]; rfl, KB3.out⟩
            · have KE := Kept.mk (KD1.out rfl)
              go_wp2
              go_ret
              exact ⟨by rw [KE.out]; rfl, KB3.out⟩
        · have hdi : ¬ (i : Int) < (s.size : Int) := by omega
          have KE := Kept.mk (KOk.out KT.out (fun j hj => KGd.out j (by omega)))
          go_wp2
          go_ret
          exact ⟨by rw [KE.out]; rfl, KBr.out⟩
end Go.Proofs.YtbagkmhhgngbcaaDoor
