/-
  IndexReads' walk.
-/
import Derived.Test.YthkaohkondkhgaaDoorIDP
namespace Go.Proofs.YthkaohkondkhgaaDoor
open Go.RowKit

set_option maxHeartbeats 4000000 in
set_option maxRecDepth 100000 in
theorem ixreads_walk (v : Value) (xs : List Int) (w : World) (hg : Gl w) (hx : Rd .u8 anyB w v xs) (hA : AllB xs) (hlx : xs.length + 4096 ≤ 140737488355328) :
    Calls Tryd.prog 4 #[v] w fun e w' => e = .returned (.bool true) ∧ Below w.heap.size w w' := by
  have KA := Kept.mk (awake_any w hg)
  have KG := Kept.mk hg
  have KX := Kept.mk hx
  have KAx := Kept.mk hA
  obtain ⟨a, c, hv, hac, hlc, hcm⟩ := hx.form
  subst hv
  clear hg hx hA hac hcm
  go_enter Tryd.func4, Tryd.ntmps4
  go_wp2_with fail
  refine Calls.mono KA.out (fun x w1 hp => ?_)
  obtain ⟨rfl, hb1⟩ := hp
  have KB1 := Kept.mk hb1
  clear hb1 KA
  by_cases hbig : 10000 < xs.length
  · have hbi : (10000 : Int) < (xs.length : Int) := by omega
    go_wp2
    go_ret
    exact ⟨rfl, KB1.out⟩
  · have hbi : ¬ (10000 : Int) < (xs.length : Int) := by omega
    have KX1 := Kept.mk (KX.out.later KB1.out (Nat.le_refl _))
    have KT := Kept.mk (Nu.twin_any (.slice a xs.length c) xs w1 (nuRd KX1.out KAx.out) (by omega))
    go_wp2_with fail
    refine Calls.mono KT.out (fun x w2 hp => ?_)
    obtain ⟨v2, rfl, hO, hb⟩ := hp
    have hO2 : Own .u8 5 w2 w1.heap.size v2 xs := hO
    have KO2 := Kept.mk hO2
    have KB2 := Kept.mk (KB1.out.trans (hb.mono KB1.out.size))
    have KP := Kept.mk (parse_any v2 xs w2 (KG.out.later KB2.out) hO2.rd KAx.out)
    obtain ⟨PE, hPE⟩ : ∃ PE, prsE xs = PE := ⟨_, rfl⟩
    rw [hPE] at KP
    have KPe := Kept.mk hPE
    obtain ⟨a2, c2, rfl, -⟩ := hO2.rd.form
    clear hO hb hO2 KT hPE
    go_wp2_with fail
    refine Calls.mono KP.out (fun x w3 hp => ?_)
    obtain ⟨v3, rfl, hO3, hb3⟩ := hp
    have KO3 := Kept.mk hO3
    have KB3 := Kept.mk (KB2.out.trans (hb3.mono KB2.out.size))
    have KD := Kept.mk (docParse_any (.slice a xs.length c) xs w3 (KX.out.later KB3.out (Nat.le_refl _)) KAx.out (by omega))
    rw [KPe.out] at KD
    clear hO3 hb3 KP
    go_wp2_with fail
    refine Calls.mono KD.out (fun x w4 hp => ?_)
    obtain ⟨v4, rfl, hO4, hb4⟩ := hp
    have KO4 := Kept.mk hO4
    have KB4 := Kept.mk (KB3.out.trans (hb4.mono KB3.out.size))
    have KO34 := Kept.mk (KO3.out.later hb4 (Nat.le_refl _))
    have hLl : (prsL xs).length ≤ 1048576 := by
      unfold prsL
      split
      · have h1 := slotsF_len _ _ (Nat.le_refl ((xs.take (xs.length - 32)).drop 12).length)
        rw [List.length_drop, List.length_take] at h1
        unfold prsS
        omega
      · exact Nat.zero_le _
    have KSm := Kept.mk (sameZ_any v3 v4 (prsL xs) w4 KO34.out.rd KO4.out.rd hLl)
    obtain ⟨a3, c3, rfl, -⟩ := KO34.out.form
    obtain ⟨a4, c4, rfl, -⟩ := KO4.out.form
    clear hO4 hb4 KD hLl
    go_wp2_with fail
    refine Calls.mono KSm.out (fun x w5 hp => ?_)
    obtain ⟨rfl, hb5⟩ := hp
    have KB5 := Kept.mk (KB4.out.trans (hb5.mono KB4.out.size))
    clear hb5
    go_wp2
    go_ret
    exact ⟨rfl, KB5.out⟩
end Go.Proofs.YthkaohkondkhgaaDoor
