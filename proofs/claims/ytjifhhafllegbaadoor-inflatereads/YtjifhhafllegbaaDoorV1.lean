/-
  Walks: the law InflateReads.
-/
import Derived.Test.YtjifhhafllegbaaDoorI2
import Derived.Test.YtjifhhafllegbaaDoorD18
namespace Go.Proofs.YtjifhhafllegbaaDoor
open Go.RowKit

set_option maxHeartbeats 4000000 in
set_option maxRecDepth 100000 in
theorem reads_walk {S : Nat → Prop} (v : Value) (p : List Int) (mm : Int) (w : World) (hT : Tab w) (hv : Rd .u8 S w v p) (hp : AllB p) (m0 : -9223372036854775808 ≤ mm) (m1 : mm ≤ 9223372036854775807) :
    Calls Tryd.prog 3 #[v, .int .i64 mm] w fun e w' => e = .returned (.bool true) ∧ Below w.heap.size w w' := by
  obtain ⟨va, pc, rfl, -, hlc, -⟩ := hv.form
  have KA := Kept.mk (awake_any w hT)
  have KT := Kept.mk hT
  have KP := Kept.mk hv
  have KAP := Kept.mk hp
  clear hT hv hp
  by_cases h1 : (4000 : Int) < (p.length : Int)
  · go_enter Tryd.func3, Tryd.ntmps3
    go_wp2_with fail
    refine Calls.mono KA.out (fun e w1 hp => ?_)
    obtain ⟨rfl, hb1⟩ := hp
    have KB1 := Kept.mk hb1
    clear hb1
    go_wp2
    all_goals
      go_ret
      exact ⟨rfl, KB1.out⟩
  · by_cases h2 : 70000 < mm
    · by_cases h3 : mm ≤ 1048576
      · go_enter Tryd.func3, Tryd.ntmps3
        go_wp2_with fail
        refine Calls.mono KA.out (fun e w1 hp => ?_)
        obtain ⟨rfl, hb1⟩ := hp
        have KB1 := Kept.mk hb1
        clear hb1
        go_wp2
        all_goals
          go_ret
          exact ⟨rfl, KB1.out⟩
      · have KCB : Kept (mm < 0 ∨ 1048576 < mm) := ⟨by omega⟩
        go_enter Tryd.func3, Tryd.ntmps3
        go_wp2_with fail
        refine Calls.mono KA.out (fun e w1 hp => ?_)
        obtain ⟨rfl, hb1⟩ := hp
        have KB1 := Kept.mk hb1
        clear hb1
        go_wp2_with fail
        refine Calls.mono (twin_any _ p w1 (KP.out.later KB1.out (Nat.le_refl _)) (by omega)) (fun e w2 hp => ?_)
        obtain ⟨v2, rfl, ho2, hb2⟩ := hp
        have KB2 := Kept.mk (KB1.out.trans (hb2.mono KB1.out.size))
        have KO2 := Kept.mk ho2
        clear hb2 ho2
        go_wp2_with fail
        refine Calls.mono (inflate_arg w2 mm KCB.out) (fun e w3 hp => ?_)
        obtain ⟨rfl, hw3⟩ := hp
        subst hw3
        go_wp2_with fail
        refine Calls.mono (docInflate_arg _ mm KCB.out) (fun e w4 hp => ?_)
        obtain ⟨rfl, hw4⟩ := hp
        subst hw4
        have CS := Kept.mk (same_any (.slice none 0 0) (.slice none 0 0) [] [] w4 (Rd.nil _ anyB _) (Rd.nil _ anyB _) AllIn.nil AllIn.nil)
        have hdec : decide (([] : List Int) = []) = true := by simp
        rw [hdec] at CS
        clear hdec
        go_wp2_with fail
        refine Calls.mono CS.out (fun e w5 hp => ?_)
        obtain ⟨rfl, hw5⟩ := hp
        subst hw5
        go_wp2
        go_ret
        exact ⟨rfl, KB2.out⟩
    · by_cases h3 : mm < 0
      · have KCB : Kept (mm < 0 ∨ 1048576 < mm) := ⟨by omega⟩
        go_enter Tryd.func3, Tryd.ntmps3
        go_wp2_with fail
        refine Calls.mono KA.out (fun e w1 hp => ?_)
        obtain ⟨rfl, hb1⟩ := hp
        have KB1 := Kept.mk hb1
        clear hb1
        go_wp2_with fail
        refine Calls.mono (twin_any _ p w1 (KP.out.later KB1.out (Nat.le_refl _)) (by omega)) (fun e w2 hp => ?_)
        obtain ⟨v2, rfl, ho2, hb2⟩ := hp
        have KB2 := Kept.mk (KB1.out.trans (hb2.mono KB1.out.size))
        have KO2 := Kept.mk ho2
        clear hb2 ho2
        go_wp2_with fail
        refine Calls.mono (inflate_arg w2 mm KCB.out) (fun e w3 hp => ?_)
        obtain ⟨rfl, hw3⟩ := hp
        subst hw3
        go_wp2_with fail
        refine Calls.mono (docInflate_arg _ mm KCB.out) (fun e w4 hp => ?_)
        obtain ⟨rfl, hw4⟩ := hp
        subst hw4
        have CS := Kept.mk (same_any (.slice none 0 0) (.slice none 0 0) [] [] w4 (Rd.nil _ anyB _) (Rd.nil _ anyB _) AllIn.nil AllIn.nil)
        have hdec : decide (([] : List Int) = []) = true := by simp
        rw [hdec] at CS
        clear hdec
        go_wp2_with fail
        refine Calls.mono CS.out (fun e w5 hp => ?_)
        obtain ⟨rfl, hw5⟩ := hp
        subst hw5
        go_wp2
        go_ret
        exact ⟨rfl, KB2.out⟩
      · obtain ⟨most, rfl⟩ : ∃ n : Nat, mm = n := ⟨mm.toNat, by omega⟩
        rcases hq : inflF p most with ⟨o, t⟩ | er
        · go_enter Tryd.func3, Tryd.ntmps3
          go_wp2_with fail
          refine Calls.mono KA.out (fun e w1 hp => ?_)
          obtain ⟨rfl, hb1⟩ := hp
          have KB1 := Kept.mk hb1
          clear hb1
          go_wp2_with fail
          refine Calls.mono (twin_any _ p w1 (KP.out.later KB1.out (Nat.le_refl _)) (by omega)) (fun e w2 hp => ?_)
          obtain ⟨v2, rfl, ho2, hb2⟩ := hp
          have KB2 := Kept.mk (KB1.out.trans (hb2.mono KB1.out.size))
          have KO2 := Kept.mk ho2
          clear hb2 ho2
          have CI := Kept.mk (inflate_any v2 p most w2 (KT.out.far KB2.out) KO2.out.rd KAP.out (by omega) (by omega))
          rw [hq] at CI
          go_wp2_with fail
          refine Calls.mono CI.out (fun e w3 hp => ?_)
          obtain ⟨va3, rfl, hoa, hao, -, hb3⟩ := hp
          have KOA := Kept.mk hoa
          have KAO := Kept.mk hao
          clear hoa hao
          have KB3 := Kept.mk (KB2.out.trans (hb3.mono KB2.out.size))
          clear hb3
          have CD := Kept.mk (docInflate_any _ p most w3 (KP.out.later KB3.out (Nat.le_refl _)) KAP.out (by omega) (by omega))
          rw [hq] at CD
          clear CI hq
          go_wp2_with fail
          refine Calls.mono CD.out (fun e w4 hp => ?_)
          obtain ⟨vb, rfl, hob, -, -, hb4⟩ := hp
          have CS := Kept.mk (same_any _ _ o o w4 (KOA.out.later hb4 (Nat.le_refl _)).rd hob.rd KAO.out KAO.out)
          have hdec : decide (o = o) = true := by simp
          clear hob
          rw [hdec] at CS
          have KB4 := Kept.mk (KB3.out.trans (hb4.mono KB3.out.size))
          clear hdec hb4 CD
          go_wp2_with fail
          refine Calls.mono CS.out (fun e w5 hp => ?_)
          obtain ⟨rfl, hw5⟩ := hp
          subst hw5
          go_wp2
          go_ret
          exact ⟨rfl, KB4.out⟩
        · go_enter Tryd.func3, Tryd.ntmps3
          go_wp2_with fail
          refine Calls.mono KA.out (fun e w1 hp => ?_)
          obtain ⟨rfl, hb1⟩ := hp
          have KB1 := Kept.mk hb1
          clear hb1
          go_wp2_with fail
          refine Calls.mono (twin_any _ p w1 (KP.out.later KB1.out (Nat.le_refl _)) (by omega)) (fun e w2 hp => ?_)
          obtain ⟨v2, rfl, ho2, hb2⟩ := hp
          have KB2 := Kept.mk (KB1.out.trans (hb2.mono KB1.out.size))
          have KO2 := Kept.mk ho2
          clear hb2 ho2
          have CI := Kept.mk (inflate_any v2 p most w2 (KT.out.far KB2.out) KO2.out.rd KAP.out (by omega) (by omega))
          rw [hq] at CI
          go_wp2_with fail
          refine Calls.mono CI.out (fun e w3 hp => ?_)
          obtain ⟨rfl, hb3⟩ := hp
          have KB3 := Kept.mk (KB2.out.trans (hb3.mono KB2.out.size))
          clear hb3
          have CD := Kept.mk (docInflate_any _ p most w3 (KP.out.later KB3.out (Nat.le_refl _)) KAP.out (by omega) (by omega))
          rw [hq] at CD
          clear CI hq
          go_wp2_with fail
          refine Calls.mono CD.out (fun e w4 hp => ?_)
          obtain ⟨rfl, hb4⟩ := hp
          have CS := Kept.mk (same_any (.slice none 0 0) (.slice none 0 0) [] [] w4 (Rd.nil _ anyB _) (Rd.nil _ anyB _) AllIn.nil AllIn.nil)
          have hdec : decide (([] : List Int) = []) = true := by simp
          rw [hdec] at CS
          have KB4 := Kept.mk (KB3.out.trans (hb4.mono KB3.out.size))
          clear hdec hb4 CD
          go_wp2_with fail
          refine Calls.mono CS.out (fun e w5 hp => ?_)
          obtain ⟨rfl, hw5⟩ := hp
          subst hw5
          go_wp2
          go_ret
          exact ⟨rfl, KB4.out⟩
end Go.Proofs.YtjifhhafllegbaaDoor
