/-
  Walks: the law InflateFixed.
-/
import Derived.Test.YtjifhhafllegbaaDoorI2
import Derived.Test.YtjifhhafllegbaaDoorD18
namespace Go.Proofs.YtjifhhafllegbaaDoor
open Go.RowKit

theorem fix0 : inflF [1, 0, 0, 255, 255] 0 = .ok [] 40 := by kernel_rfl
theorem fix1 : inflF [3, 0] 0 = .ok [] 10 := by kernel_rfl
theorem fix2 : inflF [1, 0, 0, 255] 9 = .bad .short := by kernel_rfl
theorem fix3 : inflF [1, 1, 0, 255, 255, 97] 9 = .bad .form := by kernel_rfl
theorem fix4 : inflF [1, 3, 0, 252, 255, 97, 98, 99] 2 = .bad .limit := by kernel_rfl
theorem fix5 : inflF [] 9 = .bad .short := by kernel_rfl
theorem fix8 : inflF [2] 9 = .bad .short := by kernel_rfl

set_option maxHeartbeats 4000000 in
set_option maxRecDepth 100000 in
theorem fixed_walk (w : World) (hT : Tab w) : Calls Tryd.prog 6 #[] w fun e w' => e = .returned (.bool true) ∧ Below w.heap.size w w' := by
  have KT := Kept.mk hT
  have KA := Kept.mk (awake_any w hT)
  clear hT
  go_enter Tryd.func6, Tryd.ntmps6
  go_wp2_with fail
  refine Calls.mono KA.out (fun e w1 hp => ?_)
  obtain ⟨rfl, hb1⟩ := hp
  have KB1 := Kept.mk hb1
  clear hb1
  go_wp2_with fail
  have hc2 := (Below.refl w1.heap.size w1).alloc (Nat.le_refl _) (.cells (cellsK .u8 [1, 0, 0, 255, 255]).toArray 5)
  have C2 := Kept.mk (inflate_any _ [1, 0, 0, 255, 255] 0 (w1.alloc (.cells (cellsK .u8 [1, 0, 0, 255, 255]).toArray 5)) ((KT.out.far KB1.out).far hc2) (Rd.lit .u8 w1 [1, 0, 0, 255, 255] 5 (by simp)) (allB_lit rfl) (by simp) (by omega))
  rw [fix0] at C2
  have KC2 := Kept.mk hc2
  clear hc2
  refine Calls.mono C2.out (fun e w2 hp => ?_)
  obtain ⟨v2, rfl, ho2, -, -, hb2⟩ := hp
  obtain ⟨oa2, oc2, rfl, -, -, -⟩ := ho2.rd.form
  clear ho2
  have KB2 := Kept.mk (KB1.out.trans ((KC2.out.trans (hb2.mono (by simp))).mono KB1.out.size))
  clear hb2 C2 KB1 KC2
  go_wp2_with fail
  have hc3 := (Below.refl w2.heap.size w2).alloc (Nat.le_refl _) (.cells (cellsK .u8 [3, 0]).toArray 5)
  have C3 := Kept.mk (inflate_any _ [3, 0] 0 (w2.alloc (.cells (cellsK .u8 [3, 0]).toArray 5)) ((KT.out.far KB2.out).far hc3) (Rd.lit .u8 w2 [3, 0] 5 (by simp)) (allB_lit rfl) (by simp) (by omega))
  rw [fix1] at C3
  have KC3 := Kept.mk hc3
  clear hc3
  refine Calls.mono C3.out (fun e w3 hp => ?_)
  obtain ⟨v3, rfl, ho3, -, -, hb3⟩ := hp
  obtain ⟨oa3, oc3, rfl, -, -, -⟩ := ho3.rd.form
  clear ho3
  have KB3 := Kept.mk (KB2.out.trans ((KC3.out.trans (hb3.mono (by simp))).mono KB2.out.size))
  clear hb3 C3 KB2 KC3
  go_wp2_with fail
  have hc4 := (Below.refl w3.heap.size w3).alloc (Nat.le_refl _) (.cells (cellsK .u8 [1, 0, 0, 255]).toArray 5)
  have C4 := Kept.mk (inflate_any _ [1, 0, 0, 255] 9 (w3.alloc (.cells (cellsK .u8 [1, 0, 0, 255]).toArray 5)) ((KT.out.far KB3.out).far hc4) (Rd.lit .u8 w3 [1, 0, 0, 255] 5 (by simp)) (allB_lit rfl) (by simp) (by omega))
  rw [fix2] at C4
  have KC4 := Kept.mk hc4
  clear hc4
  refine Calls.mono C4.out (fun e w4 hp => ?_)
  obtain ⟨rfl, hb4⟩ := hp
  have KB4 := Kept.mk (KB3.out.trans ((KC4.out.trans (hb4.mono (by simp))).mono KB3.out.size))
  clear hb4 C4 KB3 KC4
  go_wp2_with fail
  have hc5 := (Below.refl w4.heap.size w4).alloc (Nat.le_refl _) (.cells (cellsK .u8 [1, 1, 0, 255, 255, 97]).toArray 5)
  have C5 := Kept.mk (inflate_any _ [1, 1, 0, 255, 255, 97] 9 (w4.alloc (.cells (cellsK .u8 [1, 1, 0, 255, 255, 97]).toArray 5)) ((KT.out.far KB4.out).far hc5) (Rd.lit .u8 w4 [1, 1, 0, 255, 255, 97] 5 (by simp)) (allB_lit rfl) (by simp) (by omega))
  rw [fix3] at C5
  have KC5 := Kept.mk hc5
  clear hc5
  refine Calls.mono C5.out (fun e w5 hp => ?_)
  obtain ⟨rfl, hb5⟩ := hp
  have KB5 := Kept.mk (KB4.out.trans ((KC5.out.trans (hb5.mono (by simp))).mono KB4.out.size))
  clear hb5 C5 KB4 KC5
  go_wp2_with fail
  have hc6 := (Below.refl w5.heap.size w5).alloc (Nat.le_refl _) (.cells (cellsK .u8 [1, 3, 0, 252, 255, 97, 98, 99]).toArray 5)
  have C6 := Kept.mk (inflate_any _ [1, 3, 0, 252, 255, 97, 98, 99] 2 (w5.alloc (.cells (cellsK .u8 [1, 3, 0, 252, 255, 97, 98, 99]).toArray 5)) ((KT.out.far KB5.out).far hc6) (Rd.lit .u8 w5 [1, 3, 0, 252, 255, 97, 98, 99] 5 (by simp)) (allB_lit rfl) (by simp) (by omega))
  rw [fix4] at C6
  have KC6 := Kept.mk hc6
  clear hc6
  refine Calls.mono C6.out (fun e w6 hp => ?_)
  obtain ⟨rfl, hb6⟩ := hp
  have KB6 := Kept.mk (KB5.out.trans ((KC6.out.trans (hb6.mono (by simp))).mono KB5.out.size))
  clear hb6 C6 KB5 KC6
  go_wp2_with fail
  have C7 := Kept.mk (inflate_any (.slice none 0 0) [] 9 w6 (KT.out.far KB6.out) (Rd.nil _ anyB _) AllIn.nil (by simp) (by omega))
  rw [fix5] at C7
  refine Calls.mono C7.out (fun e w7 hp => ?_)
  obtain ⟨rfl, hb7⟩ := hp
  have KB7 := Kept.mk (KB6.out.trans (hb7.mono KB6.out.size))
  clear hb7 C7 KB6
  go_wp2_with fail
  refine Calls.mono (inflate_arg w7 (-1) (by omega)) (fun e w8 hp => ?_)
  obtain ⟨rfl, rfl⟩ := hp
  have KB8 := KB7
  clear KB7
  go_wp2_with fail
  refine Calls.mono (inflate_arg w8 (1048577) (by omega)) (fun e w9 hp => ?_)
  obtain ⟨rfl, rfl⟩ := hp
  have KB9 := KB8
  clear KB8
  go_wp2_with fail
  have hc10 := (Below.refl w9.heap.size w9).alloc (Nat.le_refl _) (.cells (cellsK .u8 [2]).toArray 5)
  have C10 := Kept.mk (inflate_any _ [2] 9 (w9.alloc (.cells (cellsK .u8 [2]).toArray 5)) ((KT.out.far KB9.out).far hc10) (Rd.lit .u8 w9 [2] 5 (by simp)) (allB_lit rfl) (by simp) (by omega))
  rw [fix8] at C10
  have KC10 := Kept.mk hc10
  clear hc10
  refine Calls.mono C10.out (fun e w10 hp => ?_)
  obtain ⟨rfl, hb10⟩ := hp
  have KB10 := Kept.mk (KB9.out.trans ((KC10.out.trans (hb10.mono (by simp))).mono KB9.out.size))
  clear hb10 C10 KB9 KC10
  have hc := (Below.refl w10.heap.size w10).alloc (Nat.le_refl _) (.cells (cellsK .u8 [5, 192, 129, 8, 0, 0, 0, 0, 32, 127, 235, 3]).toArray 5)
  have hrd := Rd.lit .u8 w10 [5, 192, 129, 8, 0, 0, 0, 0, 32, 127, 235, 3] 5 (by simp)
  have C := Kept.mk (inflate_any _ [5, 192, 129, 8, 0, 0, 0, 0, 32, 127, 235, 3] 99 (w10.alloc (.cells (cellsK .u8 [5, 192, 129, 8, 0, 0, 0, 0, 32, 127, 235, 3]).toArray 5)) ((KT.out.far KB10.out).far hc) hrd (allB_lit rfl) (by simp) (by omega))
  have KC := Kept.mk hc
  have KRD := Kept.mk hrd
  clear hc hrd
  rcases hq : inflF [5, 192, 129, 8, 0, 0, 0, 0, 32, 127, 235, 3] 99 with ⟨o, t⟩ | er
  · rw [hq] at C
    go_wp2_with fail
    refine Calls.mono C.out (fun e w11 hp => ?_)
    obtain ⟨va, rfl, hoa, hao, -, hba⟩ := hp
    have C2 := Kept.mk (docInflate_any _ [5, 192, 129, 8, 0, 0, 0, 0, 32, 127, 235, 3] 99 w11 (KRD.out.later hba (Nat.le_refl _)) (allB_lit rfl) (by simp) (by omega))
    rw [hq] at C2
    have KBN := Kept.mk (KB10.out.trans ((KC.out.trans (hba.mono (by simp))).mono KB10.out.size))
    have KOA := Kept.mk hoa
    have KAO := Kept.mk hao
    clear hba hoa hao C hq
    go_wp2_with fail
    refine Calls.mono C2.out (fun e w12 hp => ?_)
    obtain ⟨vb, rfl, hob, -, -, hbb⟩ := hp
    have CS := Kept.mk (same_any _ _ o o w12 (KOA.out.later hbb (Nat.le_refl _)).rd hob.rd KAO.out KAO.out)
    have KBM := Kept.mk (KBN.out.trans (hbb.mono KBN.out.size))
    have hdec : decide (o = o) = true := by simp
    rw [hdec] at CS
    clear hbb hob hdec C2
    go_wp2_with fail
    refine Calls.mono CS.out (fun e w13 hp => ?_)
    obtain ⟨rfl, rfl⟩ := hp
    go_wp2
    go_ret
    exact ⟨rfl, KBM.out⟩
  · rw [hq] at C
    go_wp2_with fail
end Go.Proofs.YtjifhhafllegbaaDoor
