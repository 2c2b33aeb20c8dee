/-
  The document's Least, Header, DocHeader.
-/
import Derived.Test.YtmnadnhabfflkaaDoorO9
namespace Go.Proofs.YtmnadnhabfflkaaDoor
open Go.RowKit

/-- The least of errors that is one. -/
def lsF (l e : Int) : Int := if e ≠ 0 ∧ (l = 0 ∨ e < l) then e else l
set_option maxHeartbeats 1000000 in
set_option maxRecDepth 100000 in
theorem least_two (a b : Int) (g : Nat) (w : World) (hr : w.heap[g]? = some (.cells #[.int .i64 a, .int .i64 b] 24)) :
    Calls Tryd.prog 14 #[.slice (some ⟨g, 0, none⟩) 2 2] w fun e w' => e = .returned (.int .i64 (lsF (lsF 0 a) b)) ∧ w' = w := by
  have c0 : w.cell? ⟨g, 0, none⟩ = some (.int .i64 a) := by rw [cell_of_row w g 0 _ _ (0, 0) hr]; rfl
  have c1 : w.cell? ⟨g, 1, none⟩ = some (.int .i64 b) := by rw [cell_of_row w g 1 _ _ (0, 0) hr]; rfl
  clear hr
  have S : ∀ l e : Int, lsF l e = if e = 0 then l else if l = 0 then e else if e < l then e else l := by
    intro l e
    unfold lsF
    by_cases h1 : e = 0
    · rw [if_neg (by omega), if_pos h1]
    · rw [if_neg h1]
      by_cases h2 : l = 0
      · rw [if_pos (by omega), if_pos h2]
      · rw [if_neg h2]
        by_cases h3 : e < l
        · rw [if_pos (by omega), if_pos h3]
        · rw [if_neg (by omega), if_neg h3]
  have KS := Kept.mk S
  clear S
  go_enter Tryd.func14, Tryd.ntmps14
  go_wp2
  go_loopw [3, 5, 8] (fun lv _ kv wr => wr = w ∧ ((kv = .int .i64 0 ∧ lv = .int .i64 0) ∨ (kv = .int .i64 1 ∧ lv = .int .i64 (lsF 0 a)) ∨ (kv = .int .i64 2 ∧ lv = .int .i64 (lsF (lsF 0 a) b)))) (fun _ _ kv _ => 2 - (intOf kv).toNat)
  case atStart => exact ⟨rfl, Or.inl ⟨rfl, rfl⟩⟩
  case round =>
    obtain ⟨rfl, ⟨rfl, rfl⟩ | ⟨rfl, rfl⟩ | ⟨rfl, rfl⟩⟩ := hrel
    · by_cases ha : a = 0
      · have KE : Kept (lsF 0 a = 0) := ⟨by rw [KS.out, if_pos ha]⟩
        subst ha
        clear c1
        go_wp2
        go_roundw
        case rel => exact ⟨trivial, Or.inr (Or.inl ⟨rfl, by rw [KE.out]⟩)⟩
        case measure => simp [intOf]
      · have KE : Kept (lsF 0 a = a) := ⟨by rw [KS.out, if_neg ha, if_pos rfl]⟩
        have hb : (a != 0) = true := by simpa using ha
        clear c1 ha
        go_wp2
        go_roundw
        case rel => exact ⟨trivial, Or.inr (Or.inl ⟨rfl, by rw [KE.out]⟩)⟩
        case measure => simp [intOf]
    · generalize lsF 0 a = l at *
      by_cases ha : b = 0
      · have KE : Kept (lsF l b = l) := ⟨by rw [KS.out, if_pos ha]⟩
        subst ha
        clear c0
        go_wp2
        go_roundw
        case rel => exact ⟨trivial, Or.inr (Or.inr ⟨rfl, by rw [KE.out]⟩)⟩
        case measure => simp [intOf]
      · have hb : (b != 0) = true := by simpa using ha
        by_cases h2 : l = 0
        · have KE : Kept (lsF l b = b) := ⟨by rw [KS.out, if_neg ha, if_pos h2]⟩
          subst h2
          clear c0 ha
          go_wp2
          go_roundw
          case rel => exact ⟨trivial, Or.inr (Or.inr ⟨rfl, by rw [KE.out]⟩)⟩
          case measure => simp [intOf]
        · have hl : (l == 0) = false := by simpa using h2
          by_cases h3 : b < l
          · have KE : Kept (lsF l b = b) := ⟨by rw [KS.out, if_neg ha, if_neg h2, if_pos h3]⟩
            clear c0 ha h2
            go_wp2
            go_roundw
            case rel => exact ⟨trivial, Or.inr (Or.inr ⟨rfl, by rw [KE.out]⟩)⟩
            case measure => simp [intOf]
          · have KE : Kept (lsF l b = l) := ⟨by rw [KS.out, if_neg ha, if_neg h2, if_neg h3]⟩
            clear c0 ha h2
            go_wp2
            go_roundw
            case rel => exact ⟨trivial, Or.inr (Or.inr ⟨rfl, by rw [KE.out]⟩)⟩
            case measure => simp [intOf]
    · clear c0 c1
      go_wp2
      go_ret
      exact ⟨rfl, rfl⟩
set_option maxHeartbeats 1000000 in
set_option maxRecDepth 100000 in
theorem rheader_any (k n : Int) (w : World) (hg : Gv w) (hn0 : 0 ≤ n) (hn1 : n ≤ 1048576) : Calls Tryd.prog 17 #[.int .i64 k, .int .i64 n] w fun e w' => e = .returned (.string (hdB k n)) ∧ Below w.heap.size w w' := by
  have KW : Kept (∀ w, Calls Tryd.prog 16 #[.int .i64 k] w fun e w' => e = .returned (.string (wdF k)) ∧ w' = w) := ⟨rword_any k⟩
  have hws := wd_size k
  have KT := Kept.mk (itoaV_any n w hg (by omega) (by omega))
  have hts := itoa_size hn0 hn1
  have KHB : Kept (hdB k n = wdF k ++ ⟨#[32]⟩ ++ ⟨(Lib.itoa n).toArray⟩ ++ ⟨#[0]⟩) := ⟨rfl⟩
  clear hg
  generalize wdF k = D at *
  generalize (⟨(Lib.itoa n).toArray⟩ : ByteArray) = T at *
  go_enter Tryd.func17, Tryd.ntmps17
  go_wp2_with fail
  refine Calls.mono (KW.out w) (fun e w1 hp => ?_)
  obtain ⟨rfl, rfl⟩ := hp
  go_wp2_with fail
  refine Calls.mono KT.out (fun e w2 hp => ?_)
  obtain ⟨rfl, hb⟩ := hp
  have KB := Kept.mk hb
  clear hb
  go_wp2
  go_ret
  rw [KHB.out]
  exact ⟨rfl, KB.out⟩
set_option maxHeartbeats 2000000 in
set_option maxRecDepth 100000 in
theorem docHeader_any (k n : Int) (w : World) (hg : Gv w) (hn0 : -9223372036854775808 ≤ n) (hn1 : n < 9223372036854775808) : Calls Tryd.prog 6 #[.int .i64 k, .int .i64 n] w fun e w' => e = .returned (.tuple #[.string (hdS k n), .int .i64 (hdE k n)]) ∧ Below w.heap.size w w' := by
  have KW : Kept (∀ w, Calls Tryd.prog 16 #[.int .i64 k] w fun e w' => e = .returned (.string (wdF k)) ∧ w' = w) := ⟨rword_any k⟩
  have hwe := wd_empty k
  generalize wdF k = D at KW hwe
  have KG := Kept.mk hg
  have KIt : Kept (∀ (e : Int) w, Calls Tryd.prog 15 #[.bool true, .int .i64 e] w fun x w' => x = .returned (.int .i64 e) ∧ w' = w) := ⟨fun e w => if_any true e w⟩
  have KIf : Kept (∀ (e : Int) w, Calls Tryd.prog 15 #[.bool false, .int .i64 e] w fun x w' => x = .returned (.int .i64 0) ∧ w' = w) := ⟨fun e w => if_any false e w⟩
  have KLs : Kept (∀ (a b : Int) (g : Nat) (w : World), w.heap[g]? = some (.cells #[.int .i64 a, .int .i64 b] 24) → Calls Tryd.prog 14 #[.slice (some ⟨g, 0, none⟩) 2 2] w fun e w' => e = .returned (.int .i64 (lsF (lsF 0 a) b)) ∧ w' = w) := ⟨fun a b g w h => least_two a b g w h⟩
  clear hg
  by_cases h1 : n < 0
  · cases hk : isK k
    · have hk' := hwe
      rw [hk] at hk'
      have hwe' : (D.toList == []) = true := hk'
      have KE : Kept (hdE k n = 1) := ⟨by unfold hdE; rw [if_pos (show n < 0 ∨ 1048576 < n by omega)]⟩
      have KS : Kept (hdS k n = ⟨#[]⟩) := ⟨by unfold hdS; rw [KE.out]; rfl⟩
      clear hwe hk hk'
      go_enter Tryd.func6, Tryd.ntmps6
      go_wp2_with fail
      refine Calls.mono (KIt.out 1 w) (fun e w1 hp => ?_)
      obtain ⟨rfl, rfl⟩ := hp
      go_wp2_with fail
      refine Calls.mono (KW.out w1) (fun e w1 hp => ?_)
      obtain ⟨rfl, rfl⟩ := hp
      go_wp2_with fail
      refine Calls.mono (KIt.out 9 w1) (fun e w1 hp => ?_)
      obtain ⟨rfl, rfl⟩ := hp
      have KL := Kept.mk (KLs.out 1 9 w1.heap.size (w1.alloc (.cells #[.int .i64 1, .int .i64 9] 24)) (heap_alloc_new w1 _))
      have KB2 := Kept.mk ((Below.refl w1.heap.size w1).alloc (Nat.le_refl _) (.cells #[.int .i64 1, .int .i64 9] 24))
      rw [show lsF (lsF 0 1) 9 = 1 by decide] at KL
      go_wp2_with fail
      refine Calls.mono KL.out (fun e w2 hp => ?_)
      obtain ⟨rfl, rfl⟩ := hp
      go_wp2
      go_ret2
      rw [KE.out, KS.out]
      exact ⟨rfl, KB2.out⟩
    · have hk' := hwe
      rw [hk] at hk'
      have hwe' : (D.toList == []) = false := hk'
      have KE : Kept (hdE k n = 1) := ⟨by unfold hdE; rw [if_pos (show n < 0 ∨ 1048576 < n by omega)]⟩
      have KS : Kept (hdS k n = ⟨#[]⟩) := ⟨by unfold hdS; rw [KE.out]; rfl⟩
      clear hwe hk hk'
      go_enter Tryd.func6, Tryd.ntmps6
      go_wp2_with fail
      refine Calls.mono (KIt.out 1 w) (fun e w1 hp => ?_)
      obtain ⟨rfl, rfl⟩ := hp
      go_wp2_with fail
      refine Calls.mono (KW.out w1) (fun e w1 hp => ?_)
      obtain ⟨rfl, rfl⟩ := hp
      go_wp2_with fail
      refine Calls.mono (KIf.out 9 w1) (fun e w1 hp => ?_)
      obtain ⟨rfl, rfl⟩ := hp
      have KL := Kept.mk (KLs.out 1 0 w1.heap.size (w1.alloc (.cells #[.int .i64 1, .int .i64 0] 24)) (heap_alloc_new w1 _))
      have KB2 := Kept.mk ((Below.refl w1.heap.size w1).alloc (Nat.le_refl _) (.cells #[.int .i64 1, .int .i64 0] 24))
      rw [show lsF (lsF 0 1) 0 = 1 by decide] at KL
      go_wp2_with fail
      refine Calls.mono KL.out (fun e w2 hp => ?_)
      obtain ⟨rfl, rfl⟩ := hp
      go_wp2
      go_ret2
      rw [KE.out, KS.out]
      exact ⟨rfl, KB2.out⟩
  by_cases h2 : 1048576 < n
  · cases hk : isK k
    · have hk' := hwe
      rw [hk] at hk'
      have hwe' : (D.toList == []) = true := hk'
      have KE : Kept (hdE k n = 1) := ⟨by unfold hdE; rw [if_pos (show n < 0 ∨ 1048576 < n by omega)]⟩
      have KS : Kept (hdS k n = ⟨#[]⟩) := ⟨by unfold hdS; rw [KE.out]; rfl⟩
      clear hwe hk hk'
      go_enter Tryd.func6, Tryd.ntmps6
      go_wp2_with fail
      refine Calls.mono (KIt.out 1 w) (fun e w1 hp => ?_)
      obtain ⟨rfl, rfl⟩ := hp
      go_wp2_with fail
      refine Calls.mono (KW.out w1) (fun e w1 hp => ?_)
      obtain ⟨rfl, rfl⟩ := hp
      go_wp2_with fail
      refine Calls.mono (KIt.out 9 w1) (fun e w1 hp => ?_)
      obtain ⟨rfl, rfl⟩ := hp
      have KL := Kept.mk (KLs.out 1 9 w1.heap.size (w1.alloc (.cells #[.int .i64 1, .int .i64 9] 24)) (heap_alloc_new w1 _))
      have KB2 := Kept.mk ((Below.refl w1.heap.size w1).alloc (Nat.le_refl _) (.cells #[.int .i64 1, .int .i64 9] 24))
      rw [show lsF (lsF 0 1) 9 = 1 by decide] at KL
      go_wp2_with fail
      refine Calls.mono KL.out (fun e w2 hp => ?_)
      obtain ⟨rfl, rfl⟩ := hp
      go_wp2
      go_ret2
      rw [KE.out, KS.out]
      exact ⟨rfl, KB2.out⟩
    · have hk' := hwe
      rw [hk] at hk'
      have hwe' : (D.toList == []) = false := hk'
      have KE : Kept (hdE k n = 1) := ⟨by unfold hdE; rw [if_pos (show n < 0 ∨ 1048576 < n by omega)]⟩
      have KS : Kept (hdS k n = ⟨#[]⟩) := ⟨by unfold hdS; rw [KE.out]; rfl⟩
      clear hwe hk hk'
      go_enter Tryd.func6, Tryd.ntmps6
      go_wp2_with fail
      refine Calls.mono (KIt.out 1 w) (fun e w1 hp => ?_)
      obtain ⟨rfl, rfl⟩ := hp
      go_wp2_with fail
      refine Calls.mono (KW.out w1) (fun e w1 hp => ?_)
      obtain ⟨rfl, rfl⟩ := hp
      go_wp2_with fail
      refine Calls.mono (KIf.out 9 w1) (fun e w1 hp => ?_)
      obtain ⟨rfl, rfl⟩ := hp
      have KL := Kept.mk (KLs.out 1 0 w1.heap.size (w1.alloc (.cells #[.int .i64 1, .int .i64 0] 24)) (heap_alloc_new w1 _))
      have KB2 := Kept.mk ((Below.refl w1.heap.size w1).alloc (Nat.le_refl _) (.cells #[.int .i64 1, .int .i64 0] 24))
      rw [show lsF (lsF 0 1) 0 = 1 by decide] at KL
      go_wp2_with fail
      refine Calls.mono KL.out (fun e w2 hp => ?_)
      obtain ⟨rfl, rfl⟩ := hp
      go_wp2
      go_ret2
      rw [KE.out, KS.out]
      exact ⟨rfl, KB2.out⟩
  cases hk : isK k
  · have hk' := hwe
    rw [hk] at hk'
    have hwe' : (D.toList == []) = true := hk'
    have KE : Kept (hdE k n = 9) := ⟨by unfold hdE; rw [if_neg (show ¬ (n < 0 ∨ 1048576 < n) by omega), hk]; rfl⟩
    have KS : Kept (hdS k n = ⟨#[]⟩) := ⟨by unfold hdS; rw [KE.out]; rfl⟩
    clear hwe hk hk'
    go_enter Tryd.func6, Tryd.ntmps6
    go_wp2_with fail
    refine Calls.mono (KIf.out 1 w) (fun e w1 hp => ?_)
    obtain ⟨rfl, rfl⟩ := hp
    go_wp2_with fail
    refine Calls.mono (KW.out w1) (fun e w1 hp => ?_)
    obtain ⟨rfl, rfl⟩ := hp
    go_wp2_with fail
    refine Calls.mono (KIt.out 9 w1) (fun e w1 hp => ?_)
    obtain ⟨rfl, rfl⟩ := hp
    have KL := Kept.mk (KLs.out 0 9 w1.heap.size (w1.alloc (.cells #[.int .i64 0, .int .i64 9] 24)) (heap_alloc_new w1 _))
    have KB2 := Kept.mk ((Below.refl w1.heap.size w1).alloc (Nat.le_refl _) (.cells #[.int .i64 0, .int .i64 9] 24))
    rw [show lsF (lsF 0 0) 9 = 9 by decide] at KL
    go_wp2_with fail
    refine Calls.mono KL.out (fun e w2 hp => ?_)
    obtain ⟨rfl, rfl⟩ := hp
    go_wp2
    go_ret2
    rw [KE.out, KS.out]
    exact ⟨rfl, KB2.out⟩
  · have hk' := hwe
    rw [hk] at hk'
    have hwe' : (D.toList == []) = false := hk'
    have KE : Kept (hdE k n = 0) := ⟨by unfold hdE; rw [if_neg (show ¬ (n < 0 ∨ 1048576 < n) by omega), hk]; rfl⟩
    have KS : Kept (hdS k n = hdB k n) := ⟨by unfold hdS; rw [if_pos KE.out]⟩
    have KHd : Kept (∀ w', Below w.heap.size w w' → Calls Tryd.prog 17 #[.int .i64 k, .int .i64 n] w' fun e w2 => e = .returned (.string (hdB k n)) ∧ Below w'.heap.size w' w2) := ⟨fun w' h => rheader_any k n w' (KG.out.later h) (by omega) (by omega)⟩
    generalize hdB k n = HB at *
    clear hwe hk hk'
    go_enter Tryd.func6, Tryd.ntmps6
    go_wp2_with fail
    refine Calls.mono (KIf.out 1 w) (fun e w1 hp => ?_)
    obtain ⟨rfl, rfl⟩ := hp
    go_wp2_with fail
    refine Calls.mono (KW.out w1) (fun e w1 hp => ?_)
    obtain ⟨rfl, rfl⟩ := hp
    go_wp2_with fail
    refine Calls.mono (KIf.out 9 w1) (fun e w1 hp => ?_)
    obtain ⟨rfl, rfl⟩ := hp
    have KL := Kept.mk (KLs.out 0 0 w1.heap.size (w1.alloc (.cells #[.int .i64 0, .int .i64 0] 24)) (heap_alloc_new w1 _))
    have KB2 := Kept.mk ((Below.refl w1.heap.size w1).alloc (Nat.le_refl _) (.cells #[.int .i64 0, .int .i64 0] 24))
    rw [show lsF (lsF 0 0) 0 = 0 by decide] at KL
    go_wp2_with fail
    refine Calls.mono KL.out (fun e w2 hp => ?_)
    obtain ⟨rfl, rfl⟩ := hp
    obtain ⟨w3, hw3⟩ : ∃ w3, w1.alloc (.cells #[.int .i64 0, .int .i64 0] 24) = w3 := ⟨_, rfl⟩
    rw [hw3] at KB2 ⊢
    clear hw3 KL
    go_wp2_with fail
    refine Calls.mono (KHd.out w3 KB2.out) (fun e w4 hp => ?_)
    obtain ⟨rfl, hb4⟩ := hp
    have KB4 := Kept.mk (KB2.out.trans (hb4.mono KB2.out.size))
    clear hb4
    go_wp2
    go_ret2
    rw [KE.out, KS.out]
    exact ⟨rfl, KB4.out⟩
end Go.Proofs.YtmnadnhabfflkaaDoor
