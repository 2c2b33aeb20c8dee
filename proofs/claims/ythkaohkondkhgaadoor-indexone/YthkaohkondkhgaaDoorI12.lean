/-
  Parse.
-/
import Derived.Test.YthkaohkondkhgaaDoorI10
namespace Go.Proofs.YthkaohkondkhgaaDoor
open Go.RowKit

set_option maxHeartbeats 400000 in
set_option maxRecDepth 100000 in
theorem equal_any {S S' : Nat → Prop} (v u : Value) (xs ys : List Int) (w : World) (h : Rd .u8 S w v xs) (k : Rd .u8 S' w u ys) (hA : AllIn 0 256 xs) (hB : AllIn 0 256 ys) :
    Calls Tryd.prog 31 #[v, u] w fun e w' => e = .returned (.bool (decide (xs = ys))) ∧ w' = w := by
  have h1 := Rd.str (P := Tryd.prog) Tryd.underlying25 Tryd.underlying5 h 9 Tryd.underlying9
  have h2 := Rd.str (P := Tryd.prog) Tryd.underlying25 Tryd.underlying5 k 9 Tryd.underlying9
  have KE := Kept.mk (strs_eq hA hB)
  obtain ⟨a, c, rfl, -⟩ := h.form
  obtain ⟨a2, c2, rfl, -⟩ := k.form
  clear h k hA hB
  generalize decide (xs = ys) = q at *
  generalize strOfNums xs = s at *
  generalize strOfNums ys = t at *
  go_enter Tryd.func31, Tryd.ntmps31
  go_wp2
  go_ret
  exact ⟨by rw [← KE.out]; rfl, rfl⟩
set_option maxRecDepth 100000 in
theorem sub_h {pa : Option Addr} {pc : Nat} {L : List Int} {hi : Nat} (h2 : hi ≤ L.length) (h3 : L.length ≤ pc) : ∃ a c, (∀ W : World, (Instr.sliceAt 25 (.slice pa L.length pc) none (some (.int .i64 hi)) none).run Tryd.prog W = .ok (.slice a hi c) W) ∧ ∀ (S : Nat → Prop) W, Rd .u8 S W (.slice pa L.length pc) L → Rd .u8 S W (.slice a hi c) (L.take hi) := by
  obtain ⟨a, c, hr, hd⟩ := sub_lh (pa := pa) (pc := pc) (L := L) (lo := 0) (hi := hi) (Nat.zero_le _) h2 h3
  refine ⟨a, c, fun W => ?_, fun S W h => ?_⟩
  · have h := hr W
    have hs : (sizeOf (Tryd.prog.elem 25)).run Tryd.prog W = .ok 1 W := rfl
    rw [run_sliceAt_slice (P := Tryd.prog) W 25 _ _ _ _ Tryd.underlying25, run_slice_lh (P := Tryd.prog) W 25 pa L.length pc Tryd.underlying25 .i64 .i64 (0 : Nat) hi (by omega) (by omega) (by omega), hs] at h
    rw [run_sliceAt_slice (P := Tryd.prog) W 25 _ _ _ _ Tryd.underlying25, run_slice_h (P := Tryd.prog) W 25 pa L.length pc Tryd.underlying25 .i64 hi (by omega) (by omega), hs]
    rw [Nat.sub_zero] at h
    rw [← h]
    simp [Result.andThen]
  · have h := hd S W h
    rwa [List.drop_zero, Nat.sub_zero] at h
def prsS (xs : List Int) : List SlC := slotsF ((xs.take (xs.length - 32)).drop 12)
def prsE (xs : List Int) : Int := if 2097152 < xs.length then 2 else if xs.length < 44 then 4 else if ¬ chkE (prsS xs) = 0 then 4 else if ¬ (putF (prsS xs)).length = xs.length then 4 else
  if ¬ (putF (prsS xs)).take (xs.length - 32) = xs.take (xs.length - 32) then 4 else if ¬ (putF (prsS xs)).drop (xs.length - 32) = xs.drop (xs.length - 32) then 6 else 0
def prsL (xs : List Int) : List SlC := if prsE xs = 0 then prsS xs else []
theorem all_sum (xs : List Int) : AllIn 0 256 (sumB xs) := Sh.digF_allB _
theorem all_put {es : List SlC} (h : ∀ e ∈ es, e.ok) : AllIn 0 256 (putF es) := by
  unfold putF
  split
  · exact all_app (all_bod h) (all_sum _)
  · exact AllIn.nil
set_option maxHeartbeats 2000000 in
set_option maxRecDepth 100000 in
theorem parse_any {S : Nat → Prop} (v : Value) (xs : List Int) (w : World) (hg : Gl w) (h : Rd .u8 S w v xs) (hA : AllIn 0 256 xs) :
    Calls Tryd.prog 14 #[v] w fun e w' => ∃ v', e = .returned (.tuple #[v', .int .i64 (prsE xs)]) ∧ OwnZ w' w.heap.size v' (prsL xs) ∧ Below w.heap.size w w' := by
  have KE : Kept (prsE xs = if 2097152 < xs.length then 2 else if xs.length < 44 then 4 else if ¬ chkE (prsS xs) = 0 then 4 else if ¬ (putF (prsS xs)).length = xs.length then 4 else
    if ¬ (putF (prsS xs)).take (xs.length - 32) = xs.take (xs.length - 32) then 4 else if ¬ (putF (prsS xs)).drop (xs.length - 32) = xs.drop (xs.length - 32) then 6 else 0) := ⟨rfl⟩
  have KL : Kept (prsL xs = if prsE xs = 0 then prsS xs else []) := ⟨rfl⟩
  obtain ⟨a, c, rfl, hac, hlc, hcm⟩ := h.form
  generalize prsE xs = PE at *
  generalize prsL xs = PL at *
  by_cases hbig : 2097152 < xs.length
  · have hbi : (2097152 : Int) < (xs.length : Int) := by omega
    have KE2 : Kept (PE = 2) := ⟨by rw [KE.out, if_pos hbig]⟩
    have KL2 : Kept (PL = []) := ⟨by rw [KL.out, KE2.out, if_neg (by decide)]⟩
    clear h hA hg hbig
    go_enter Tryd.func14, Tryd.ntmps14
    go_wp2
    go_ret2
    exact ⟨_, by rw [KE2.out]; rfl, by rw [KL2.out]; exact OwnZ.nil _ _, Below.refl _ _⟩
  · have hbi : ¬ (2097152 : Int) < (xs.length : Int) := by omega
    by_cases hsm : xs.length < 44
    · have hsi : (xs.length : Int) < 44 := by omega
      have KE2 : Kept (PE = 4) := ⟨by rw [KE.out, if_neg hbig, if_pos hsm]⟩
      have KL2 : Kept (PL = []) := ⟨by rw [KL.out, KE2.out, if_neg (by decide)]⟩
      clear h hA hg hbig hsm
      go_enter Tryd.func14, Tryd.ntmps14
      go_wp2
      go_ret2
      exact ⟨_, by rw [KE2.out]; rfl, by rw [KL2.out]; exact OwnZ.nil _ _, Below.refl _ _⟩
    · have hsi : ¬ (xs.length : Int) < 44 := by omega
      obtain ⟨n, hn⟩ : ∃ n, xs.length = n + 32 := ⟨xs.length - 32, by omega⟩
      have hn' : xs.length - 32 = n := by omega
      have e1 : IntKind.i64.wrap ((xs.length : Int) - 32) = (n : Int) := by rw [wr64 (by omega) (by omega)]; omega
      obtain ⟨a1, c1, hr1, hd1⟩ := sub_lh (pa := a) (pc := c) (L := xs) (lo := 12) (hi := n) (by omega) (by omega) hlc
      have hrd1 := hd1 S w h
      have hAc : AllIn 0 256 ((xs.take n).drop 12) := (hA.take n).drop 12
      have KSl := Kept.mk (slotsOf_any _ _ w hrd1 hAc (by rw [List.length_drop, List.length_take]; omega))
      have hlen1 : ((xs.take n).drop 12).length = n - 12 := by rw [List.length_drop, List.length_take]; omega
      have hS : prsS xs = slotsF ((xs.take n).drop 12) := by unfold prsS; rw [hn']
      have hok := slotsF_ok _ _ (Nat.le_refl _) hAc
      have hsl := slotsF_len _ _ (Nat.le_refl ((xs.take n).drop 12).length)
      rw [← hS] at KSl hok hsl
      have KR1 := Kept.mk hr1
      have KE2 : Kept (PE = if ¬ chkE (prsS xs) = 0 then 4 else if ¬ (putF (prsS xs)).length = xs.length then 4 else if ¬ (putF (prsS xs)).take n = xs.take n then 4 else if ¬ (putF (prsS xs)).drop n = xs.drop n then 6 else 0) := ⟨by rw [KE.out, if_neg hbig, if_neg hsm, hn']⟩
      have hsl2 : (prsS xs).length ≤ 4398046511104 := by omega
      have KRd := Kept.mk h
      have KA := Kept.mk hA
      have KG := Kept.mk hg
      have KAp := Kept.mk (all_put hok)
      have Kn := Kept.mk hn
      clear h hA hg hbig hsm hr1 hd1 hrd1 hAc hlen1 hS hok hsl KE hn hn'
      generalize prsS xs = L at *
      go_enter Tryd.func14, Tryd.ntmps14
      go_wp2_with (refine wpList_sliceB rfl 25 _ _ _ rfl _ (KR1.out _) ?_)
      refine Calls.mono KSl.out (fun x w1 hp => ?_)
      obtain ⟨v1, rfl, hO1, hb1⟩ := hp
      obtain ⟨a2, c2, rfl, -⟩ := hO1.form
      have KO1 := Kept.mk hO1
      have KB1 := Kept.mk hb1
      have KPut := Kept.mk (put_any _ L w1 (KG.out.later hb1) hO1.rd hsl2)
      have KR2 := Kept.mk (KRd.out.later hb1 (Nat.le_refl _))
      clear hO1 hb1 KSl KR1
      obtain ⟨Q, hQ⟩ : ∃ Q, putF L = Q := ⟨_, rfl⟩
      obtain ⟨E, hE⟩ : ∃ E, chkE L = E := ⟨_, rfl⟩
      rw [hQ] at KE2 KPut KAp
      rw [hE] at KE2 KPut
      clear hQ hE
      go_wp2_with fail
      refine Calls.mono KPut.out (fun x w3 hp => ?_)
      obtain ⟨v3, rfl, hO3, hb3⟩ := hp
      obtain ⟨a3, c3, rfl, -, hq3, -⟩ := hO3.rd.form
      have KO3 := Kept.mk hO3
      have KB3 := Kept.mk (KB1.out.trans (hb3.mono KB1.out.size))
      have KOz := Kept.mk (KO1.out.later hb3 (Nat.le_refl _))
      have KR3 := Kept.mk (KR2.out.later hb3 (Nat.le_refl _))
      clear hO3 hb3 KPut KO1 KR2
      by_cases hE0 : E = 0
      · subst hE0
        have KE3 : Kept (PE = if ¬ Q.length = xs.length then 4 else if ¬ Q.take n = xs.take n then 4 else if ¬ Q.drop n = xs.drop n then 6 else 0) := ⟨by have := KE2.out; simpa using this⟩
        by_cases hql : Q.length = xs.length
        · have hqi : ((Q.length : Int) != (xs.length : Int)) = false := by rw [hql]; simp
          have KE4 : Kept (PE = if ¬ Q.take n = xs.take n then 4 else if ¬ Q.drop n = xs.drop n then 6 else 0) := ⟨by rw [KE3.out, if_neg (by simp [hql])]⟩
          have hnq : n ≤ Q.length := by have := Kn.out; omega
          have hnx : n ≤ xs.length := by have := Kn.out; omega
          obtain ⟨p1, d1, hr1, hd1⟩ := sub_h (pa := a3) (pc := c3) (L := Q) (hi := n) hnq hq3
          obtain ⟨p2, d2, hr2, hd2⟩ := sub_h (pa := a) (pc := c) (L := xs) (hi := n) hnx hlc
          obtain ⟨p3, d3, hr3, hd3⟩ := sub_l (pa := a3) (pc := c3) (L := Q) (lo := n) hnq hq3
          obtain ⟨p4, d4, hr4, hd4⟩ := sub_l (pa := a) (pc := c) (L := xs) (lo := n) hnx hlc
          have K1 := Kept.mk hr1
          have K2 := Kept.mk hr2
          have K3 := Kept.mk hr3
          have K4 := Kept.mk hr4
          have KQ1 : Kept (∀ W, CC w3 W → Calls Tryd.prog 31 #[.slice p1 n d1, .slice p2 n d2] W fun e w' => e = .returned (.bool (decide (Q.take n = xs.take n))) ∧ CC w3 w') := ⟨fun W hW => (equal_any _ _ _ _ W (hd1 _ W (KO3.out.rd.later hW (Nat.le_refl _))) (hd2 _ W (KR3.out.later hW (Nat.le_refl _))) (KAp.out.take n) (KA.out.take n)).mono fun e w' hp => ⟨hp.1, by rw [hp.2]; exact hW⟩⟩
          have KQ2 : Kept (∀ W, CC w3 W → Calls Tryd.prog 31 #[.slice p3 (Q.length - n) d3, .slice p4 (xs.length - n) d4] W fun e w' => e = .returned (.bool (decide (Q.drop n = xs.drop n))) ∧ CC w3 w') := ⟨fun W hW => (equal_any _ _ _ _ W (hd3 _ W (KO3.out.rd.later hW (Nat.le_refl _))) (hd4 _ W (KR3.out.later hW (Nat.le_refl _))) (KAp.out.drop n) (KA.out.drop n)).mono fun e w' hp => ⟨hp.1, by rw [hp.2]; exact hW⟩⟩
          have KT1 : Kept (decide (Q.take n = xs.take n) = true ↔ Q.take n = xs.take n) := ⟨decide_eq_true_iff⟩
          have KT2 : Kept (decide (Q.drop n = xs.drop n) = true ↔ Q.drop n = xs.drop n) := ⟨decide_eq_true_iff⟩
          clear hr1 hr2 hr3 hr4 hd1 hd2 hd3 hd4 hql KE3
          obtain ⟨t1, ht1⟩ : ∃ t1, decide (Q.take n = xs.take n) = t1 := ⟨_, rfl⟩
          obtain ⟨t2, ht2⟩ : ∃ t2, decide (Q.drop n = xs.drop n) = t2 := ⟨_, rfl⟩
          rw [ht1] at KQ1 KT1
          rw [ht2] at KQ2 KT2
          clear ht1 ht2
          go_upto_region 8 with fail
          refine wp_region_quietC (C := CC w3) (by kernel_rfl) (by kernel_rfl) (Below.refl _ _).drew ?_
          go_big_quiet_step ((intro _; rfl))
          go_big_quiet_step ((intro _; rfl))
          go_big_quiet_step ((intro _; rfl))
          go_big_quiet_step ((intro _; rfl))
          go_big_quiet_step ((intro _; rfl))
          go_big_quiet_step ((intro _; rfl))
          go_big_quiet_step ((intro _; rfl))
          go_big_quiet_step ((intro _; rfl))
          go_big_quiet_step ((intro _; rfl))
          go_big_quiet_step ((intro _; rfl))
          go_big_quiet_step ((intro _; rfl))
          go_big_quiet_step ((intro _; rfl))
          refine BigFrame.wpQuiet_want rfl (fun K hK => quiet_run (v := .slice p1 n d1) (fun W hW => by unfold execOp; simp only [Sem.run_bind]; exact congrArg (fun r => Result.andThen r _) (K1.out W)) (hK _ ?_))
          clear hK K
          simp only [Act.put, List.setIfInBounds_toArray, List.set_cons_zero, List.set_cons_succ]
          go_big_quiet_step ((intro _; rfl))
          go_big_quiet_step ((intro _; rfl))
          refine BigFrame.wpQuiet_want rfl (fun K hK => quiet_run (v := .slice p2 n d2) (fun W hW => by unfold execOp; simp only [Sem.run_bind]; exact congrArg (fun r => Result.andThen r _) (K2.out W)) (hK _ ?_))
          clear hK K
          simp only [Act.put, List.setIfInBounds_toArray, List.set_cons_zero, List.set_cons_succ]
          go_big_quiet_step ((intro hCw; exact KQ1.out _ hCw))
          cases t1 with
          | false =>
            repeat (go_big_quiet_step ((intro _; rfl)))
            refine wpQuiet_nil ?_
            intro w5 hw5
            have KB5 := Kept.mk (KB3.out.trans (Below.mono hw5 KB3.out.size))
            clear hw5
            have KP4 : Kept (PE = 4) := ⟨by rw [KE4.out, if_pos (fun h => by have := KT1.out.2 h; cases this)]⟩
            have KL2 : Kept (PL = []) := ⟨by rw [KL.out, KP4.out, if_neg (by decide)]⟩
            go_wp2
            go_ret2
            exact ⟨_, by rw [KP4.out]; rfl, by rw [KL2.out]; exact OwnZ.nil _ _, KB5.out⟩
          | true =>
            repeat (go_big_quiet_step ((intro _; rfl)))
            refine wpQuiet_nil ?_
            intro w5 hw5
            have KB5 : Kept (CC w3 w5) := ⟨hw5⟩
            clear hw5
            have KE5 : Kept (PE = if ¬ Q.drop n = xs.drop n then 6 else 0) := ⟨by rw [KE4.out, if_neg (fun h => h (KT1.out.1 rfl))]⟩
            go_upto_region 10 with fail
            refine wp_region_quietC (C := CC w3) (by kernel_rfl) (by kernel_rfl) KB5.out.drew ?_
            go_big_quiet_step ((intro _; rfl))
            go_big_quiet_step ((intro _; rfl))
            refine BigFrame.wpQuiet_want rfl (fun K hK => quiet_run (v := .slice p3 (Q.length - n) d3) (fun W hW => by unfold execOp; simp only [Sem.run_bind]; exact congrArg (fun r => Result.andThen r _) (K3.out W)) (hK _ ?_))
            clear hK K
            simp only [Act.put, List.setIfInBounds_toArray, List.set_cons_zero, List.set_cons_succ]
            go_big_quiet_step ((intro _; rfl))
            go_big_quiet_step ((intro _; rfl))
            refine BigFrame.wpQuiet_want rfl (fun K hK => quiet_run (v := .slice p4 (xs.length - n) d4) (fun W hW => by unfold execOp; simp only [Sem.run_bind]; exact congrArg (fun r => Result.andThen r _) (K4.out W)) (hK _ ?_))
            clear hK K
            simp only [Act.put, List.setIfInBounds_toArray, List.set_cons_zero, List.set_cons_succ]
            go_big_quiet_step ((intro hCw; exact KQ2.out _ hCw))
            cases t2 with
            | false =>
              repeat (go_big_quiet_step ((intro _; rfl)))
              refine wpQuiet_nil ?_
              intro w6 hw6
              have KB6 := Kept.mk (KB3.out.trans (Below.mono hw6 KB3.out.size))
              clear hw6
              have KP4 : Kept (PE = 6) := ⟨by rw [KE5.out, if_pos (fun h => by have := KT2.out.2 h; cases this)]⟩
              have KL2 : Kept (PL = []) := ⟨by rw [KL.out, KP4.out, if_neg (by decide)]⟩
              go_wp2
              go_ret2
              exact ⟨_, by rw [KP4.out]; rfl, by rw [KL2.out]; exact OwnZ.nil _ _, KB6.out⟩
            | true =>
              repeat (go_big_quiet_step ((intro _; rfl)))
              refine wpQuiet_nil ?_
              intro w6 hw6
              have KB6 := Kept.mk (KB3.out.trans (Below.mono hw6 KB3.out.size))
              have KOf := Kept.mk ((KOz.out.later hw6 (Nat.le_refl _)).mono (base' := w.heap.size) (Nat.le_refl _))
              clear hw6
              have KP4 : Kept (PE = 0) := ⟨by rw [KE5.out, if_neg (fun h => h (KT2.out.1 rfl))]⟩
              have KL2 : Kept (PL = L) := ⟨by rw [KL.out, KP4.out, if_pos rfl]⟩
              go_wp2
              go_ret2
              exact ⟨_, by rw [KP4.out]; rfl, by rw [KL2.out]; exact KOf.out, KB6.out⟩
        · have hqi : ((Q.length : Int) != (xs.length : Int)) = true := by simp; omega
          have KP4 : Kept (PE = 4) := ⟨by rw [KE3.out, if_pos hql]⟩
          have KL2 : Kept (PL = []) := ⟨by rw [KL.out, KP4.out, if_neg (by decide)]⟩
          clear hql
          go_upto_region 8 with fail
          go_quiet (fail)
          generalize hwq : World.drewN w3 _ = wq
          have KBq : Kept (Below w.heap.size w wq) := ⟨by rw [← hwq]; exact below_drewN KB3.out _⟩
          clear hwq
          go_wp2
          go_ret2
          exact ⟨_, by rw [KP4.out]; rfl, by rw [KL2.out]; exact OwnZ.nil _ _, KBq.out⟩
      · have hEb : (E != 0) = true := by simpa using hE0
        have KP4 : Kept (PE = 4) := ⟨by rw [KE2.out, if_pos hE0]⟩
        have KL2 : Kept (PL = []) := ⟨by rw [KL.out, KP4.out, if_neg (by decide)]⟩
        clear hE0
        go_upto_region 8 with fail
        go_quiet (fail)
        generalize hwq : World.drewN w3 _ = wq
        have KBq : Kept (Below w.heap.size w wq) := ⟨by rw [← hwq]; exact below_drewN KB3.out _⟩
        clear hwq
        go_wp2
        go_ret2
        exact ⟨_, by rw [KP4.out]; rfl, by rw [KL2.out]; exact OwnZ.nil _ _, KBq.out⟩


theorem oeqF_cons {P : Program} {w : World} {d : Nat} {X Y : Array Value} {f : Field} {fs : List Field} {x y : Value} {b : Bool} {R : Bool} (hn : (f.name == "_") = false) (hx : (part f.type X f.offset).run P w = .ok x w) (hy : (part f.type Y f.offset).run P w = .ok y w) (he : (Op.equalIn d f.type x y).run P w = .ok b w) (h : (Op.eqFields d X Y fs).run P w = .ok R w) :
    (Op.eqFields d X Y (f :: fs)).run P w = .ok (b && R) w := by
  have m : f.name ≠ "_" := by simpa using hn
  rw [Op.eqFields, if_pos m, Sem.run_bind, hx, Result.andThen_ok, Sem.run_bind, hy, Result.andThen_ok, Sem.run_bind, he, Result.andThen_ok]
  cases b
  · simp
  · simpa using h
theorem run_eqItems_sameE {P : Program} (w : World) (d : Nat) (e : TypeId) (q : IntKind) (hu : P.underlying e = some (.int q)) (hpk : P.plainKey e = true) (xs : List Int) :
    ∀ (is : List Nat), (∀ i ∈ is, i < xs.length) → (Op.eqItems (d + 1) e 1 (cellsK q xs).toArray (cellsK q xs).toArray is).run P w = .ok true w
  | [], _ => by simp [Op.eqItems]
  | i :: is, h => by
    have h1 := h i (by simp)
    have hp := run_part_plain (P := P) (w := w) hpk (show (cellsK q xs).toArray[i * 1]? = _ by rw [Nat.mul_one]; exact cellsK_at q xs i h1)
    have he := run_equalIn_int (P := P) w d e q q (xs.getD i 0) (xs.getD i 0) hu
    have ih := run_eqItems_sameE w d e q hu hpk xs is (fun j hj => h j (by simp [hj]))
    simp only [Op.eqItems, Sem.run_bind, hp, he, Result.andThen_ok]
    simp only [BEq.rfl, Bool.not_true, Bool.false_eq_true, if_false]
    exact ih
theorem eq_idE (w : World) (d : Nat) {xs : List Int} (hx : xs.length = 32) : (Op.equalIn (d + 2) 39 (.agg (cellsK .u8 xs).toArray) (.agg (cellsK .u8 xs).toArray)).run Tryd.prog w = .ok true w := by
  obtain ⟨i, _, hi, _⟩ := info8
  have hce : Tryd.prog.cellsOf 5 = 1 := by kernel_rfl
  have h := run_eqItems_sameE (P := Tryd.prog) w d 5 .u8 Tryd.underlying5 (by kernel_rfl) xs (List.range 32) (fun i hi => by have := List.mem_range.1 hi; omega)
  rw [show d + 2 = (d + 1) + 1 from rfl, run_equalIn_array (P := Tryd.prog) w (d + 1) _ _ Tryd.underlying39 hi, hce, h]
set_option maxRecDepth 100000 in
theorem agg_idE (w : World) : (isAgg 39).run Tryd.prog w = .ok true w := by kernel_rfl
set_option maxRecDepth 100000 in
theorem size_idE (w : World) : (Go.sizeOf 39).run Tryd.prog w = .ok 32 w := by kernel_rfl
set_option maxRecDepth 100000 in
theorem pk_int : Tryd.prog.plainKey 3 = true := by kernel_rfl
set_option maxRecDepth 100000 in
theorem pk_str : Tryd.prog.plainKey 9 = true := by kernel_rfl
theorem oeqF_same {P : Program} {w : World} {d : Nat} {X : Array Value} : ∀ (fs : List Field) (L : List (Bool × Nat × Nat)), fs.map (fun f => (f.name == "_", f.type, f.offset)) = L →
    (∀ q ∈ L, q.1 = false ∧ ∃ x, (part q.2.1 X q.2.2).run P w = .ok x w ∧ (Op.equalIn d q.2.1 x x).run P w = .ok true w) → (Op.eqFields d X X fs).run P w = .ok true w
  | [], _, _, _ => by simp [Op.eqFields]
  | f :: fs, L, hm, h => by
    subst hm
    obtain ⟨h1, x, h2, h3⟩ := h _ (List.mem_cons_self)
    exact oeqF_cons h1 h2 h2 h3 (oeqF_same fs _ rfl fun q hq => h q (List.mem_cons_of_mem _ hq))
theorem exec_eqlE {P : Program} (t : TypeId) (hg : P.eqGuardType P.depth t = false) {a : Act} {o : Oper} {x y : Operand} {t' : TypeId} (ho : o.op = .binOp .eql t x y t') {X Y : Array Value} (hx : a.eval x = .agg X) (hy : a.eval y = .agg Y) {q : Bool} {W : World} (hE : (Op.equalIn 10000 t (.agg X) (.agg Y)).run P W = .ok q W) : (execOp a.eval o).run P W = .ok (.value (.bool q)) W := by
  unfold execOp
  rw [ho]
  simp only [hx, hy, Sem.run_bind, run_eqGuard_agg W .eql t x y X Y hg, Result.andThen_ok, run_eql_struct W t X Y, hE, Sem.run_pure]
theorem wp_exec {P : Program} {op : Oper} {a : Act} {w : World} {K : Act → World → Prop} {Q : Exit → Act → World → Prop} {v : Value} (h : (execOp a.eval op).run P w = .ok (.value v) w) (hk : K (a.put op.dst v) w) : op.wp P a w K Q := by
  unfold Oper.wp
  rw [h]
  exact hk
theorem exec_neqE {P : Program} (t : TypeId) (hg : P.eqGuardType P.depth t = false) {a : Act} {o : Oper} {x y : Operand} {t' : TypeId} (ho : o.op = .binOp .neq t x y t') {X Y : Array Value} (hx : a.eval x = .agg X) (hy : a.eval y = .agg Y) {q : Bool} {W : World} (hE : (Op.equalIn 10000 t (.agg X) (.agg Y)).run P W = .ok q W) : (execOp a.eval o).run P W = .ok (.value (.bool (!q))) W := by
  unfold execOp
  rw [ho]
  simp only [hx, hy, Sem.run_bind, run_eqGuard_agg W .neq t x y X Y hg, Result.andThen_ok, run_neq_struct W t X Y, hE, Sem.run_pure]
theorem part_idZ (w : World) {r : SlC} (hr : r.ok) : (part 39 r.l.toArray 3).run Tryd.prog w = .ok (.agg (cellsK .u8 r.ids).toArray) w := by
  unfold part
  simp only [Sem.run_bind, agg_idE, Result.andThen_ok, if_true, size_idE, Sem.run_pure]
  congr 2
  rw [List.extract_toArray, List.extract_eq_take_drop]
  unfold SlC.l
  rw [show List.drop 3 (Value.string r.pt :: Value.int .i64 r.st :: Value.int .i64 r.md :: (cellsK .u8 r.ids ++ [Value.int .i64 r.sz, Value.int .i64 r.tm])) = cellsK .u8 r.ids ++ [Value.int .i64 r.sz, Value.int .i64 r.tm] from rfl, List.take_append_of_le_length (by rw [cellsK_length, hr.1]; omega), List.take_of_length_le (by rw [cellsK_length, hr.1]; omega)]
set_option maxRecDepth 100000 in
theorem fsZ : Tryd.prog.underlying 41 = some (.struct (Tryd.prog.fieldsOf 41)) ∧ Tryd.prog.stoodInHeld 41 = false ∧ (Tryd.prog.fieldsOf 41).toList.map (fun f => (f.name == "_", f.type, f.offset)) = [(false, 9, 0), (false, 3, 1), (false, 3, 2), (false, 39, 3), (false, 3, 35), (false, 3, 36)] := ⟨by kernel_rfl, by kernel_rfl, by kernel_rfl⟩
theorem same_int (w : World) (d : Nat) (x : Int) : (Op.equalIn (d + 1) 3 (.int .i64 x) (.int .i64 x)).run Tryd.prog w = .ok true w := by
  have := run_equalIn_int (P := Tryd.prog) w d 3 .i64 .i64 x x Tryd.underlying3
  simpa using this
theorem same_str (w : World) (d : Nat) (x : ByteArray) : (Op.equalIn (d + 1) 9 (.string x) (.string x)).run Tryd.prog w = .ok true w := by
  have := run_equalIn_string (P := Tryd.prog) w d 9 x x Tryd.underlying9
  simpa using this
theorem eq_slot (w : World) (d : Nat) {r : SlC} (hr : r.ok) : (Op.equalIn (d + 3) 41 (.agg r.l.toArray) (.agg r.l.toArray)).run Tryd.prog w = .ok true w := by
  obtain ⟨h1, h2, h3⟩ := fsZ
  have h := run_equalIn_struct (P := Tryd.prog) w (d + 2) 41 r.l.toArray r.l.toArray h1 h2
  rw [h]
  refine oeqF_same _ _ h3 fun q hq => ?_
  simp only [List.mem_cons, List.not_mem_nil, or_false] at hq
  rcases hq with rfl | rfl | rfl | rfl | rfl | rfl
  · exact ⟨rfl, _, run_part_plain (P := Tryd.prog) (w := w) pk_str (by rw [List.getElem?_toArray]; exact r.c0), same_str w (d + 1) r.pt⟩
  · exact ⟨rfl, _, run_part_plain (P := Tryd.prog) (w := w) pk_int (by rw [List.getElem?_toArray]; exact r.c1), same_int w (d + 1) r.st⟩
  · exact ⟨rfl, _, run_part_plain (P := Tryd.prog) (w := w) pk_int (by rw [List.getElem?_toArray]; exact r.c2), same_int w (d + 1) r.md⟩
  · exact ⟨rfl, _, part_idZ w hr, eq_idE w d hr.1⟩
  · exact ⟨rfl, _, run_part_plain (P := Tryd.prog) (w := w) pk_int (by rw [List.getElem?_toArray]; exact SlC.c35 hr), same_int w (d + 1) r.sz⟩
  · exact ⟨rfl, _, run_part_plain (P := Tryd.prog) (w := w) pk_int (by rw [List.getElem?_toArray]; exact SlC.c36 hr), same_int w (d + 1) r.tm⟩
set_option maxHeartbeats 2000000 in
set_option maxRecDepth 100000 in
theorem sameZ_any (v u : Value) (es : List SlC) (w : World) (hr : RdZ w v es) (hs : RdZ w u es) (hl : es.length ≤ 1048576) :
    Calls Tryd.prog 17 #[v, u] w fun e w' => e = .returned (.bool true) ∧ Below w.heap.size w w' := by
  obtain ⟨a, c, rfl, hlc, hok, hrd⟩ := hr
  obtain ⟨a2, c2, rfl, hlc2, hok2, hrd2⟩ := hs
  have KR := Kept.mk hrd
  have KK := Kept.mk hok
  have KR2 := Kept.mk hrd2
  clear hrd hok hrd2 hok2
  go_enter Tryd.func17, Tryd.ntmps17
  go_wp2
  go_loopw [13] (fun iv wr => ∃ k : Nat, k ≤ es.length ∧ iv = .int .i64 k ∧ Below w.heap.size w wr) (fun iv _ => es.length - (intOf iv).toNat)
  case atStart => exact ⟨0, Nat.zero_le _, rfl, Below.refl _ _⟩
  case round =>
    obtain ⟨k, hk, rfl, hbel⟩ := hrel
    have KBr := Kept.mk hbel
    by_cases hlt : k < es.length
    · have hki : (k : Int) < (es.length : Int) := by omega
      obtain ⟨b, off, rfl, hbl, hrg⟩ := KR.out (by omega)
      obtain ⟨b2, off2, rfl, hbl2, hrg2⟩ := KR2.out (by omega)
      have hbr : b < wr.heap.size := Nat.lt_of_lt_of_le hbl hbel.size
      have hbr2 : b2 < wr.heap.size := Nat.lt_of_lt_of_le hbl2 hbel.size
      have hR1 : Kept (∀ W, CC wr W → W.rangeAt b (off + k * 37) (es[k]'hlt).l) := ⟨fun W hW j u hu => by
        rw [hW.cell (p := ⟨b, off + k * 37 + j, none⟩) hbr, hbel.cell (p := ⟨b, off + k * 37 + j, none⟩) hbl]
        exact hrg k hlt j u hu⟩
      have hR2 : Kept (∀ W, CC wr W → W.rangeAt b2 (off2 + k * 37) (es[k]'hlt).l) := ⟨fun W hW j u hu => by
        rw [hW.cell (p := ⟨b2, off2 + k * 37 + j, none⟩) hbr2, hbel.cell (p := ⟨b2, off2 + k * 37 + j, none⟩) hbl2]
        exact hrg2 k hlt j u hu⟩
      have hoA := KK.out _ (List.getElem_mem hlt)
      have KEq : Kept (∀ W, (Op.equalIn 10000 41 (.agg (es[k]'hlt).l.toArray) (.agg (es[k]'hlt).l.toArray)).run Tryd.prog W = .ok true W) := ⟨fun W => eq_slot W 9997 hoA⟩
      have KI1 : Kept ((Tryd.prog.info? 41).map (·.size) = some (es[k]'hlt).l.length) := ⟨SlC.info hoA⟩
      clear hbel hrg hrg2 hoA
      have e3 : IntKind.i64.wrap ((k : Int) + 1) = (k : Int) + 1 := wr64 (by omega) (by omega)
      generalize (es[k]'hlt).l = LA at *
      clear hbr hbl hbr2 hbl2
      go_upto_region 6 with fail
      refine wp_region_quietC (C := CC wr) (by kernel_rfl) (by kernel_rfl) (Below.refl _ _).drew ?_
      go_big_quiet_step ((intro _; rfl))
      go_big_quiet_step ((intro _; rfl))
      refine BigFrame.wpQuiet_want rfl (fun K hK => quiet_run (v := .pointer (some ⟨b, off + k * 37, none⟩)) (fun W hW => by go_simp; all_goals first | rfl | (intro hneg; exfalso; omega)) (hK _ ?_))
      clear hK K
      simp only [Act.put, List.setIfInBounds_toArray, List.set_cons_zero, List.set_cons_succ]
      refine BigFrame.wpQuiet_want rfl (fun K hK => quiet_load_mid 41 _ rfl b (off + k * 37) rfl LA _ hR1.out Tryd.underlying41 rfl KI1.out (hK _ ?_))
      clear hK K
      simp only [Act.put, List.setIfInBounds_toArray, List.set_cons_zero, List.set_cons_succ]
      go_big_quiet_step ((intro _; rfl))
      go_big_quiet_step ((intro _; rfl))
      refine BigFrame.wpQuiet_want rfl (fun K hK => quiet_run (v := .pointer (some ⟨b2, off2 + k * 37, none⟩)) (fun W hW => by go_simp; all_goals first | rfl | (intro hneg; exfalso; omega)) (hK _ ?_))
      clear hK K
      simp only [Act.put, List.setIfInBounds_toArray, List.set_cons_zero, List.set_cons_succ]
      refine BigFrame.wpQuiet_want rfl (fun K hK => quiet_load_mid 41 _ rfl b2 (off2 + k * 37) rfl LA _ hR2.out Tryd.underlying41 rfl KI1.out (hK _ ?_))
      clear hK K
      simp only [Act.put, List.setIfInBounds_toArray, List.set_cons_zero, List.set_cons_succ]
      refine BigFrame.wpQuiet_want rfl (fun K hK => quiet_run (v := .bool false) (fun W hW => exec_neqE 41 Tryd.eqGuardType41 rfl rfl rfl (KEq.out W)) (hK _ ?_))
      clear hK K
      simp only [Act.put, List.setIfInBounds_toArray, List.set_cons_zero, List.set_cons_succ]
      refine wpQuiet_nil ?_
      intro w3 hw3
      have KB3 := Kept.mk (KBr.out.trans (Below.mono hw3 KBr.out.size))
      clear hw3
      go_wp2
      go_roundw
      case rel => exact ⟨k + 1, by omega, by go_num, KB3.out⟩
      case measure => simp [intOf]; omega
    · have hki : ¬ (k : Int) < (es.length : Int) := by omega
      clear hbel
      go_wp2
      go_ret
      exact ⟨rfl, KBr.out⟩
end Go.Proofs.YthkaohkondkhgaaDoor
