/-
  Walks: the law InflateEnds.
-/
import Derived.Test.YtibopgdaechfpaaDoorI2
import Derived.Test.YtibopgdaechfpaaDoorP3
namespace Go.Proofs.YtibopgdaechfpaaDoor
open Go.RowKit

set_option maxHeartbeats 4000000 in
set_option maxRecDepth 100000 in
theorem ends_walk {S S' : Nat → Prop} (v u : Value) (p more : List Int) (kk : Int) (w : World) (hT : Tab w) (hv : Rd .u8 S w v p) (hu : Rd .u8 S' w u more) (hp : AllB p) (hm : AllB more) (k0 : -9223372036854775808 ≤ kk) (k1 : kk ≤ 9223372036854775807) :
    Calls Tryd.prog 4 #[v, u, .int .i64 kk] w fun e w' => e = .returned (.bool true) ∧ Below w.heap.size w w' := by
  obtain ⟨i0, z0, hi, hz, hs, hb, hc⟩ := info8
  obtain ⟨va, pc, rfl, -, hlc, -⟩ := hv.form
  obtain ⟨ua, uc, rfl, -, -, -⟩ := hu.form
  have KA := Kept.mk (awake_any w hT)
  have KT := Kept.mk hT
  have KP := Kept.mk hv
  have KM := Kept.mk hu
  have KAP := Kept.mk hp
  have KAM := Kept.mk hm
  clear hT hv hu hp hm
  by_cases h1 : (4000 : Int) < (p.length : Int)
  · go_enter Tryd.func4, Tryd.ntmps4
    go_wp2_with fail
    refine Calls.mono KA.out (fun e w1 hp => ?_)
    obtain ⟨rfl, hb1⟩ := hp
    have KB1 := Kept.mk hb1
    clear hb1
    go_wp2
    all_goals
      go_ret
      exact ⟨rfl, KB1.out⟩
  · by_cases h2 : (1000 : Int) < (more.length : Int)
    · go_enter Tryd.func4, Tryd.ntmps4
      go_wp2_with fail
      refine Calls.mono KA.out (fun e w1 hp => ?_)
      obtain ⟨rfl, hb1⟩ := hp
      have KB1 := Kept.mk hb1
      clear hb1
      go_wp2
      all_goals
        go_ret
        exact ⟨rfl, KB1.out⟩
    · rcases hq : inflF p 100000 with ⟨o, t⟩ | er
      · obtain ⟨n, hn⟩ : ∃ n, (t + 7) / 8 = n := ⟨_, rfl⟩
        have hnn := inflF_n hq
        rw [hn] at hnn
        obtain ⟨hn1, hn2⟩ := hnn
        have KQ := Kept.mk (ends_more hq more)
        rw [hn] at KQ
        obtain ⟨pb, po, pc2, he, -, -, -, -, -⟩ := KP.out.open (by omega)
        simp only [Value.slice.injEq, true_and] at he
        obtain ⟨rfl, rfl⟩ := he
        have hn3 : ¬ (n : Int) < 1 := by omega
        have hn4 : ¬ (p.length : Int) < (n : Int) := by omega
        have hx1 : (n : Int) ≤ (pc : Int) := by omega
        have hi64 : (n : Int) ≤ 4000 := by omega
        by_cases hk0 : kk < 0
        · have hkn : ¬ 0 ≤ kk := by omega
          go_enter Tryd.func4, Tryd.ntmps4
          go_wp2_with fail
          refine Calls.mono KA.out (fun e w1 hp => ?_)
          obtain ⟨rfl, hb1⟩ := hp
          have KB1 := Kept.mk hb1
          clear hb1
          go_wp2_with fail
          refine Calls.mono (twin_any _ p w1 (KP.out.later KB1.out (Nat.le_refl _)) (by omega)) (fun e w2 hp => ?_)
          obtain ⟨v2, rfl, ho2, hb2⟩ := hp
          have KB2 := Kept.mk (KB1.out.trans (hb2.mono KB1.out.size))
          have K3 := Kept.mk (inflate_any v2 p 100000 w2 (KT.out.far KB2.out) ho2.rd KAP.out (by omega) (by omega))
          clear ho2 hb2
          rw [hq] at K3
          simp only [AfterI, hn] at K3
          go_wp2_with fail
          refine Calls.mono K3.out (fun e w3 hp => ?_)
          obtain ⟨v3, rfl, ho3, hao, hol, hb3⟩ := hp
          obtain ⟨a3, c3, rfl, -, -, -⟩ := ho3.rd.form
          have KB3 := Kept.mk (KB2.out.trans (hb3.mono KB2.out.size))
          have KO3 := Kept.mk ho3
          have KAO := Kept.mk hao
          have KT4 := Kept.mk (twin_any (.slice (some ⟨pb, po, none⟩) n pc) (p.take n) w3 ((KP.out.cut n (by omega)).later KB3.out (Nat.le_refl _)) (by simp; omega))
          clear ho3 hb3 hao
          go_wp2_with fail
          refine Calls.mono KT4.out (fun e w4 hp => ?_)
          obtain ⟨v4, rfl, ho4, hb4⟩ := hp
          have hz4 := hb4.size
          have KB4 := Kept.mk (KB3.out.trans (hb4.mono KB3.out.size))
          have KO34 := Kept.mk (KO3.out.later hb4 (Nat.le_refl _))
          have KO4 := Kept.mk ho4
          have KM4 := Kept.mk (KM.out.later KB4.out (Nat.le_refl _))
          clear ho4 hb4
          go_wp2_with (at_builtin; refine wpList_append_rd _ rfl _ _ 22 rfl .u8 S' 1 w3.heap.size 5 i0 z0 Tryd.underlying22 hi hz hs hb hc (by omega) v4 (p.take n) rfl KO4.out _ more rfl KM4.out (by simp; omega) (by omega) ?_; intro v5 w5 hown hgrow hat; have KO5 := Kept.mk hown; have KG5 := Kept.mk hgrow; clear hown hgrow hat)
          have hb45 : Below w3.heap.size w4 w5 := (Below.refl _ w4).grown KG5.out (by omega) (fun g e => (KO4.out.lt g e).1)
          have KB5 := Kept.mk (KB4.out.trans (hb45.mono KB3.out.size))
          have KO35 : Kept (Own .u8 5 w5 w2.heap.size (.slice a3 o.length c3) o) := ⟨KO34.out.far fun g hg => hb45.block g (KO3.out.lt g hg).2⟩
          have K6 := Kept.mk (inflate_any v5 (p.take n ++ more) o.length w5 (KT.out.far KB5.out) KO5.out.rd ((KAP.out.take n).append KAM.out) (by simp; omega) hol)
          rw [KQ.out] at K6
          simp only [AfterI, hn] at K6
          clear hb45
          go_wp2_with fail
          refine Calls.mono K6.out (fun e w6 hp => ?_)
          obtain ⟨v6, rfl, ho6, hao6, -, hb6⟩ := hp
          obtain ⟨a6, c6, rfl, -, -, -⟩ := ho6.rd.form
          have KB6 := Kept.mk (KB5.out.trans (hb6.mono KB5.out.size))
          have KO36 := Kept.mk (KO35.out.later hb6 (Nat.le_refl _))
          have KS6 := Kept.mk (same_any _ _ o o w6 KO36.out.rd ho6.rd KAO.out KAO.out)
          rw [show decide (o = o) = true from decide_eq_true rfl] at KS6
          clear ho6 hb6 hao6
          go_wp2_with fail
          refine Calls.mono KS6.out (fun e w7 hp => ?_)
          obtain ⟨rfl, hw7⟩ := hp
          subst hw7
          go_wp2
          all_goals
            go_ret
            exact ⟨rfl, KB6.out⟩
        · obtain ⟨k, rfl⟩ := Int.eq_ofNat_of_zero_le (show 0 ≤ kk by omega)
          by_cases hkn : k < n
          · have hkni : (k : Int) < (n : Int) := by omega
            have KQ2 := Kept.mk (ends_short hq k (by omega))
            have hx2 : (k : Int) ≤ (pc : Int) := by omega
            rcases Nat.eq_zero_or_pos o.length with hop | hopos
            · have KZ := Kept.mk hop
              clear hop
              go_enter Tryd.func4, Tryd.ntmps4
              go_wp2_with fail
              refine Calls.mono KA.out (fun e w1 hp => ?_)
              obtain ⟨rfl, hb1⟩ := hp
              have KB1 := Kept.mk hb1
              clear hb1
              go_wp2_with fail
              refine Calls.mono (twin_any _ p w1 (KP.out.later KB1.out (Nat.le_refl _)) (by omega)) (fun e w2 hp => ?_)
              obtain ⟨v2, rfl, ho2, hb2⟩ := hp
              have KB2 := Kept.mk (KB1.out.trans (hb2.mono KB1.out.size))
              have K3 := Kept.mk (inflate_any v2 p 100000 w2 (KT.out.far KB2.out) ho2.rd KAP.out (by omega) (by omega))
              clear ho2 hb2
              rw [hq] at K3
              simp only [AfterI, hn] at K3
              go_wp2_with fail
              refine Calls.mono K3.out (fun e w3 hp => ?_)
              obtain ⟨v3, rfl, ho3, hao, hol, hb3⟩ := hp
              obtain ⟨a3, c3, rfl, -, -, -⟩ := ho3.rd.form
              have KB3 := Kept.mk (KB2.out.trans (hb3.mono KB2.out.size))
              have KO3 := Kept.mk ho3
              have KAO := Kept.mk hao
              have KT4 := Kept.mk (twin_any (.slice (some ⟨pb, po, none⟩) n pc) (p.take n) w3 ((KP.out.cut n (by omega)).later KB3.out (Nat.le_refl _)) (by simp; omega))
              clear ho3 hb3 hao
              go_wp2_with fail
              refine Calls.mono KT4.out (fun e w4 hp => ?_)
              obtain ⟨v4, rfl, ho4, hb4⟩ := hp
              have hz4 := hb4.size
              have KB4 := Kept.mk (KB3.out.trans (hb4.mono KB3.out.size))
              have KO34 := Kept.mk (KO3.out.later hb4 (Nat.le_refl _))
              have KO4 := Kept.mk ho4
              have KM4 := Kept.mk (KM.out.later KB4.out (Nat.le_refl _))
              clear ho4 hb4
              go_wp2_with (at_builtin; refine wpList_append_rd _ rfl _ _ 22 rfl .u8 S' 1 w3.heap.size 5 i0 z0 Tryd.underlying22 hi hz hs hb hc (by omega) v4 (p.take n) rfl KO4.out _ more rfl KM4.out (by simp; omega) (by omega) ?_; intro v5 w5 hown hgrow hat; have KO5 := Kept.mk hown; have KG5 := Kept.mk hgrow; clear hown hgrow hat)
              have hb45 : Below w3.heap.size w4 w5 := (Below.refl _ w4).grown KG5.out (by omega) (fun g e => (KO4.out.lt g e).1)
              have KB5 := Kept.mk (KB4.out.trans (hb45.mono KB3.out.size))
              have KO35 : Kept (Own .u8 5 w5 w2.heap.size (.slice a3 o.length c3) o) := ⟨KO34.out.far fun g hg => hb45.block g (KO3.out.lt g hg).2⟩
              have K6 := Kept.mk (inflate_any v5 (p.take n ++ more) o.length w5 (KT.out.far KB5.out) KO5.out.rd ((KAP.out.take n).append KAM.out) (by simp; omega) hol)
              rw [KQ.out] at K6
              simp only [AfterI, hn] at K6
              clear hb45
              go_wp2_with fail
              refine Calls.mono K6.out (fun e w6 hp => ?_)
              obtain ⟨v6, rfl, ho6, hao6, -, hb6⟩ := hp
              obtain ⟨a6, c6, rfl, -, -, -⟩ := ho6.rd.form
              have KB6 := Kept.mk (KB5.out.trans (hb6.mono KB5.out.size))
              have KO36 := Kept.mk (KO35.out.later hb6 (Nat.le_refl _))
              have KS6 := Kept.mk (same_any _ _ o o w6 KO36.out.rd ho6.rd KAO.out KAO.out)
              rw [show decide (o = o) = true from decide_eq_true rfl] at KS6
              clear ho6 hb6 hao6
              go_wp2_with fail
              refine Calls.mono KS6.out (fun e w7 hp => ?_)
              obtain ⟨rfl, hw7⟩ := hp
              subst hw7
              have KT8 := Kept.mk (twin_any (.slice (some ⟨pb, po, none⟩) k pc) (p.take k) w7 ((KP.out.cut k (by omega)).later KB6.out (Nat.le_refl _)) (by simp; omega))
              go_wp2_with fail
              refine Calls.mono KT8.out (fun e w8 hp => ?_)
              obtain ⟨v8, rfl, ho8, hb8⟩ := hp
              have KB8 := Kept.mk (KB6.out.trans (hb8.mono KB6.out.size))
              have K9 := Kept.mk (inflate_any v8 (p.take k) 100000 w8 (KT.out.far KB8.out) ho8.rd (KAP.out.take k) (by simp; omega) (by omega))
              rw [KQ2.out] at K9
              clear ho8 hb8
              go_wp2_with fail
              refine Calls.mono K9.out (fun e w9 hp => ?_)
              obtain ⟨rfl, hb9⟩ := hp
              have KB9 := Kept.mk (KB8.out.trans (hb9.mono KB8.out.size))
              clear hb9
              go_wp2_with fail
              all_goals first
                | (go_ret; exact ⟨rfl, KB9.out⟩)
                | (exfalso; have := KZ.out; omega)
            · have hopi : (0 : Int) < (o.length : Int) := by omega
              have KQ3 := Kept.mk (ends_limit hq (k % o.length) (Nat.mod_lt _ hopos))
              rw [hn] at KQ3
              go_enter Tryd.func4, Tryd.ntmps4
              go_wp2_with fail
              refine Calls.mono KA.out (fun e w1 hp => ?_)
              obtain ⟨rfl, hb1⟩ := hp
              have KB1 := Kept.mk hb1
              clear hb1
              go_wp2_with fail
              refine Calls.mono (twin_any _ p w1 (KP.out.later KB1.out (Nat.le_refl _)) (by omega)) (fun e w2 hp => ?_)
              obtain ⟨v2, rfl, ho2, hb2⟩ := hp
              have KB2 := Kept.mk (KB1.out.trans (hb2.mono KB1.out.size))
              have K3 := Kept.mk (inflate_any v2 p 100000 w2 (KT.out.far KB2.out) ho2.rd KAP.out (by omega) (by omega))
              clear ho2 hb2
              rw [hq] at K3
              simp only [AfterI, hn] at K3
              go_wp2_with fail
              refine Calls.mono K3.out (fun e w3 hp => ?_)
              obtain ⟨v3, rfl, ho3, hao, hol, hb3⟩ := hp
              obtain ⟨a3, c3, rfl, -, -, -⟩ := ho3.rd.form
              have KB3 := Kept.mk (KB2.out.trans (hb3.mono KB2.out.size))
              have KO3 := Kept.mk ho3
              have KAO := Kept.mk hao
              have KT4 := Kept.mk (twin_any (.slice (some ⟨pb, po, none⟩) n pc) (p.take n) w3 ((KP.out.cut n (by omega)).later KB3.out (Nat.le_refl _)) (by simp; omega))
              clear ho3 hb3 hao
              go_wp2_with fail
              refine Calls.mono KT4.out (fun e w4 hp => ?_)
              obtain ⟨v4, rfl, ho4, hb4⟩ := hp
              have hz4 := hb4.size
              have KB4 := Kept.mk (KB3.out.trans (hb4.mono KB3.out.size))
              have KO34 := Kept.mk (KO3.out.later hb4 (Nat.le_refl _))
              have KO4 := Kept.mk ho4
              have KM4 := Kept.mk (KM.out.later KB4.out (Nat.le_refl _))
              clear ho4 hb4
              go_wp2_with (at_builtin; refine wpList_append_rd _ rfl _ _ 22 rfl .u8 S' 1 w3.heap.size 5 i0 z0 Tryd.underlying22 hi hz hs hb hc (by omega) v4 (p.take n) rfl KO4.out _ more rfl KM4.out (by simp; omega) (by omega) ?_; intro v5 w5 hown hgrow hat; have KO5 := Kept.mk hown; have KG5 := Kept.mk hgrow; clear hown hgrow hat)
              have hb45 : Below w3.heap.size w4 w5 := (Below.refl _ w4).grown KG5.out (by omega) (fun g e => (KO4.out.lt g e).1)
              have KB5 := Kept.mk (KB4.out.trans (hb45.mono KB3.out.size))
              have KO35 : Kept (Own .u8 5 w5 w2.heap.size (.slice a3 o.length c3) o) := ⟨KO34.out.far fun g hg => hb45.block g (KO3.out.lt g hg).2⟩
              have K6 := Kept.mk (inflate_any v5 (p.take n ++ more) o.length w5 (KT.out.far KB5.out) KO5.out.rd ((KAP.out.take n).append KAM.out) (by simp; omega) hol)
              rw [KQ.out] at K6
              simp only [AfterI, hn] at K6
              clear hb45
              go_wp2_with fail
              refine Calls.mono K6.out (fun e w6 hp => ?_)
              obtain ⟨v6, rfl, ho6, hao6, -, hb6⟩ := hp
              obtain ⟨a6, c6, rfl, -, -, -⟩ := ho6.rd.form
              have KB6 := Kept.mk (KB5.out.trans (hb6.mono KB5.out.size))
              have KO36 := Kept.mk (KO35.out.later hb6 (Nat.le_refl _))
              have KS6 := Kept.mk (same_any _ _ o o w6 KO36.out.rd ho6.rd KAO.out KAO.out)
              rw [show decide (o = o) = true from decide_eq_true rfl] at KS6
              clear ho6 hb6 hao6
              go_wp2_with fail
              refine Calls.mono KS6.out (fun e w7 hp => ?_)
              obtain ⟨rfl, hw7⟩ := hp
              subst hw7
              have KT8 := Kept.mk (twin_any (.slice (some ⟨pb, po, none⟩) k pc) (p.take k) w7 ((KP.out.cut k (by omega)).later KB6.out (Nat.le_refl _)) (by simp; omega))
              go_wp2_with fail
              refine Calls.mono KT8.out (fun e w8 hp => ?_)
              obtain ⟨v8, rfl, ho8, hb8⟩ := hp
              have KB8 := Kept.mk (KB6.out.trans (hb8.mono KB6.out.size))
              have K9 := Kept.mk (inflate_any v8 (p.take k) 100000 w8 (KT.out.far KB8.out) ho8.rd (KAP.out.take k) (by simp; omega) (by omega))
              rw [KQ2.out] at K9
              clear ho8 hb8
              go_wp2_with fail
              refine Calls.mono K9.out (fun e w9 hp => ?_)
              obtain ⟨rfl, hb9⟩ := hp
              have KB9 := Kept.mk (KB8.out.trans (hb9.mono KB8.out.size))
              clear hb9
              have KTx : Kept (∀ m, Calls Tryd.prog 11 #[.slice (some ⟨pb, po, none⟩) n pc] (w9.drewN m) fun e w' => ∃ v', e = .returned v' ∧ Own .u8 5 w' w9.heap.size v' (p.take n) ∧ Below w9.heap.size (w9.drewN m) w') := ⟨fun m => twin_any (.slice (some ⟨pb, po, none⟩) n pc) (p.take n) (w9.drewN m) (((KP.out.cut n (by omega)).later KB9.out (Nat.le_refl _)).far (Nat.le_refl _) (fun _ _ hs => ⟨hs, rfl⟩)) (by simp; omega)⟩
              go_upto_region 18 with fail
              refine wp_region_noPanic (wp_region_any (by kernel_rfl) ?_)
              show wpAny _ _ _ _ _ _ _ (w9.drewN 1)
              refine wpAny_take (i := 0) (v := .slice (some ⟨pb, po, none⟩) p.length pc) rfl (by kernel_rfl) (by kernel_rfl) (by kernel_rfl) (fun _ _ _ h => h) (Or.inl ⟨rfl, fun W => by rfl⟩) ?_
              simp only [Act.put]
              refine wpAny_take (i := 1) (v := .int .i64 n) rfl (by kernel_rfl) (by kernel_rfl) (by kernel_rfl) (fun _ _ _ h => h) (Or.inl ⟨rfl, fun W => by rfl⟩) ?_
              simp only [Act.put]
              refine wpAny_take (i := 2) (v := .slice (some ⟨pb, po, none⟩) n pc) rfl (by kernel_rfl) (by kernel_rfl) (by kernel_rfl) (fun _ _ _ h => h) (Or.inl ⟨rfl, fun W => by go_simp⟩) ?_
              simp only [Act.put]
              refine wpAny_take (i := 4) (v := .int .i64 k) rfl (by kernel_rfl) (by kernel_rfl) (by kernel_rfl) (fun _ _ _ h => h) (Or.inl ⟨rfl, fun W => by rfl⟩) ?_
              simp only [Act.put]
              refine wpAny_take (i := 5) (v := .slice a3 o.length c3) rfl (by kernel_rfl) (by kernel_rfl) (by kernel_rfl) (fun _ _ _ h => h) (Or.inl ⟨rfl, fun W => by rfl⟩) ?_
              simp only [Act.put]
              refine wpAny_take (i := 6) (v := .int .i64 o.length) rfl (by kernel_rfl) (by kernel_rfl) (by kernel_rfl) (fun _ _ _ h => h) (Or.inl ⟨rfl, fun W => by go_simp⟩) ?_
              simp only [Act.put]
              refine wpAny_take (i := 7) (v := .int .i64 ((k % o.length : Nat) : Int)) rfl (by kernel_rfl) (by kernel_rfl) (by kernel_rfl) (fun _ _ _ h => h) (Or.inl ⟨rfl, fun W => by go_simp; rw [if_neg (fun e => by rw [e] at hopos; simp at hopos), Int.tmod_eq_emod_of_nonneg (by omega)]⟩) ?_
              simp only [Act.put]
              refine wpAny_one (i := 3) (by kernel_rfl) rfl rfl (fun K hK => ?_)
              go_simp
              refine Calls.mono (KTx.out 1) (fun e wx hp => ?_)
              obtain ⟨vx, rfl, hox, hbx⟩ := hp
              refine hK _ _ ?_
              clear hK K
              have KBx : Kept (Below w.heap.size w wx) := ⟨KB9.out.trans ((below_drewN (Below.refl w9.heap.size w9) 1).trans hbx |>.mono KB9.out.size)⟩
              have Ky := Kept.mk (inflate_any vx (p.take n) (k % o.length) wx (KT.out.far KBx.out) hox.rd (KAP.out.take n) (by simp; omega) (by have := Nat.mod_lt k hopos; omega))
              rw [KQ3.out] at Ky
              clear hox hbx
              refine wpAny_one (i := 8) (by kernel_rfl) rfl rfl (fun K hK => ?_)
              go_simp
              refine Calls.mono Ky.out (fun e wy hp => ?_)
              obtain ⟨rfl, hby⟩ := hp
              refine hK _ _ ?_
              clear hK K
              have KBy := Kept.mk (KBx.out.trans (hby.mono KBx.out.size))
              clear hby
              refine wpAny_one (i := 9) (by kernel_rfl) rfl rfl (fun K hK => ?_)
              go_simp
              refine hK _ _ ?_
              clear hK K
              refine wpAny_take (i := 10) (v := .slice none 0 0) rfl (by kernel_rfl) (by kernel_rfl) (by kernel_rfl) (fun _ _ _ h => h) (Or.inl ⟨rfl, fun W => by go_simp⟩) ?_
              simp only [Act.put]
              refine wpAny_take (i := 11) (v := .int .i64 0) rfl (by kernel_rfl) (by kernel_rfl) (by kernel_rfl) (fun _ _ _ h => h) (Or.inl ⟨rfl, fun W => by go_simp⟩) ?_
              simp only [Act.put]
              refine wpAny_take (i := 12) (v := .int .i64 10) rfl (by kernel_rfl) (by kernel_rfl) (by kernel_rfl) (fun _ _ _ h => h) (Or.inl ⟨rfl, fun W => by go_simp; rfl⟩) ?_
              simp only [Act.put]
              refine wpAny_take (i := 13) (v := .slice none 0 0) rfl (by kernel_rfl) (by kernel_rfl) (by kernel_rfl) (fun _ _ _ h => h) (Or.inl ⟨rfl, fun W => by go_simp⟩) ?_
              simp only [Act.put]
              refine wpAny_take (i := 14) (v := .int .i64 0) rfl (by kernel_rfl) (by kernel_rfl) (by kernel_rfl) (fun _ _ _ h => h) (Or.inl ⟨rfl, fun W => by go_simp⟩) ?_
              simp only [Act.put]
              refine wpAny_take (i := 15) (v := .int .i64 10) rfl (by kernel_rfl) (by kernel_rfl) (by kernel_rfl) (fun _ _ _ h => h) (Or.inl ⟨rfl, fun W => by go_simp⟩) ?_
              simp only [Act.put]
              refine wpAny_done (by kernel_rfl) (NoPanic.normal ?_) _
              go_wp2
              all_goals
                go_ret
                exact ⟨rfl, KBy.out⟩
          · have hkni : ¬ (k : Int) < (n : Int) := by omega
            rcases Nat.eq_zero_or_pos o.length with hop | hopos
            · have KZ := Kept.mk hop
              clear hop
              go_enter Tryd.func4, Tryd.ntmps4
              go_wp2_with fail
              refine Calls.mono KA.out (fun e w1 hp => ?_)
              obtain ⟨rfl, hb1⟩ := hp
              have KB1 := Kept.mk hb1
              clear hb1
              go_wp2_with fail
              refine Calls.mono (twin_any _ p w1 (KP.out.later KB1.out (Nat.le_refl _)) (by omega)) (fun e w2 hp => ?_)
              obtain ⟨v2, rfl, ho2, hb2⟩ := hp
              have KB2 := Kept.mk (KB1.out.trans (hb2.mono KB1.out.size))
              have K3 := Kept.mk (inflate_any v2 p 100000 w2 (KT.out.far KB2.out) ho2.rd KAP.out (by omega) (by omega))
              clear ho2 hb2
              rw [hq] at K3
              simp only [AfterI, hn] at K3
              go_wp2_with fail
              refine Calls.mono K3.out (fun e w3 hp => ?_)
              obtain ⟨v3, rfl, ho3, hao, hol, hb3⟩ := hp
              obtain ⟨a3, c3, rfl, -, -, -⟩ := ho3.rd.form
              have KB3 := Kept.mk (KB2.out.trans (hb3.mono KB2.out.size))
              have KO3 := Kept.mk ho3
              have KAO := Kept.mk hao
              have KT4 := Kept.mk (twin_any (.slice (some ⟨pb, po, none⟩) n pc) (p.take n) w3 ((KP.out.cut n (by omega)).later KB3.out (Nat.le_refl _)) (by simp; omega))
              clear ho3 hb3 hao
              go_wp2_with fail
              refine Calls.mono KT4.out (fun e w4 hp => ?_)
              obtain ⟨v4, rfl, ho4, hb4⟩ := hp
              have hz4 := hb4.size
              have KB4 := Kept.mk (KB3.out.trans (hb4.mono KB3.out.size))
              have KO34 := Kept.mk (KO3.out.later hb4 (Nat.le_refl _))
              have KO4 := Kept.mk ho4
              have KM4 := Kept.mk (KM.out.later KB4.out (Nat.le_refl _))
              clear ho4 hb4
              go_wp2_with (at_builtin; refine wpList_append_rd _ rfl _ _ 22 rfl .u8 S' 1 w3.heap.size 5 i0 z0 Tryd.underlying22 hi hz hs hb hc (by omega) v4 (p.take n) rfl KO4.out _ more rfl KM4.out (by simp; omega) (by omega) ?_; intro v5 w5 hown hgrow hat; have KO5 := Kept.mk hown; have KG5 := Kept.mk hgrow; clear hown hgrow hat)
              have hb45 : Below w3.heap.size w4 w5 := (Below.refl _ w4).grown KG5.out (by omega) (fun g e => (KO4.out.lt g e).1)
              have KB5 := Kept.mk (KB4.out.trans (hb45.mono KB3.out.size))
              have KO35 : Kept (Own .u8 5 w5 w2.heap.size (.slice a3 o.length c3) o) := ⟨KO34.out.far fun g hg => hb45.block g (KO3.out.lt g hg).2⟩
              have K6 := Kept.mk (inflate_any v5 (p.take n ++ more) o.length w5 (KT.out.far KB5.out) KO5.out.rd ((KAP.out.take n).append KAM.out) (by simp; omega) hol)
              rw [KQ.out] at K6
              simp only [AfterI, hn] at K6
              clear hb45
              go_wp2_with fail
              refine Calls.mono K6.out (fun e w6 hp => ?_)
              obtain ⟨v6, rfl, ho6, hao6, -, hb6⟩ := hp
              obtain ⟨a6, c6, rfl, -, -, -⟩ := ho6.rd.form
              have KB6 := Kept.mk (KB5.out.trans (hb6.mono KB5.out.size))
              have KO36 := Kept.mk (KO35.out.later hb6 (Nat.le_refl _))
              have KS6 := Kept.mk (same_any _ _ o o w6 KO36.out.rd ho6.rd KAO.out KAO.out)
              rw [show decide (o = o) = true from decide_eq_true rfl] at KS6
              clear ho6 hb6 hao6
              go_wp2_with fail
              refine Calls.mono KS6.out (fun e w7 hp => ?_)
              obtain ⟨rfl, hw7⟩ := hp
              subst hw7
              go_wp2_with fail
              all_goals first
                | (go_ret; exact ⟨rfl, KB6.out⟩)
                | (exfalso; have := KZ.out; omega)
            · have hopi : (0 : Int) < (o.length : Int) := by omega
              have KQ3 := Kept.mk (ends_limit hq (k % o.length) (Nat.mod_lt _ hopos))
              rw [hn] at KQ3
              go_enter Tryd.func4, Tryd.ntmps4
              go_wp2_with fail
              refine Calls.mono KA.out (fun e w1 hp => ?_)
              obtain ⟨rfl, hb1⟩ := hp
              have KB1 := Kept.mk hb1
              clear hb1
              go_wp2_with fail
              refine Calls.mono (twin_any _ p w1 (KP.out.later KB1.out (Nat.le_refl _)) (by omega)) (fun e w2 hp => ?_)
              obtain ⟨v2, rfl, ho2, hb2⟩ := hp
              have KB2 := Kept.mk (KB1.out.trans (hb2.mono KB1.out.size))
              have K3 := Kept.mk (inflate_any v2 p 100000 w2 (KT.out.far KB2.out) ho2.rd KAP.out (by omega) (by omega))
              clear ho2 hb2
              rw [hq] at K3
              simp only [AfterI, hn] at K3
              go_wp2_with fail
              refine Calls.mono K3.out (fun e w3 hp => ?_)
              obtain ⟨v3, rfl, ho3, hao, hol, hb3⟩ := hp
              obtain ⟨a3, c3, rfl, -, -, -⟩ := ho3.rd.form
              have KB3 := Kept.mk (KB2.out.trans (hb3.mono KB2.out.size))
              have KO3 := Kept.mk ho3
              have KAO := Kept.mk hao
              have KT4 := Kept.mk (twin_any (.slice (some ⟨pb, po, none⟩) n pc) (p.take n) w3 ((KP.out.cut n (by omega)).later KB3.out (Nat.le_refl _)) (by simp; omega))
              clear ho3 hb3 hao
              go_wp2_with fail
              refine Calls.mono KT4.out (fun e w4 hp => ?_)
              obtain ⟨v4, rfl, ho4, hb4⟩ := hp
              have hz4 := hb4.size
              have KB4 := Kept.mk (KB3.out.trans (hb4.mono KB3.out.size))
              have KO34 := Kept.mk (KO3.out.later hb4 (Nat.le_refl _))
              have KO4 := Kept.mk ho4
              have KM4 := Kept.mk (KM.out.later KB4.out (Nat.le_refl _))
              clear ho4 hb4
              go_wp2_with (at_builtin; refine wpList_append_rd _ rfl _ _ 22 rfl .u8 S' 1 w3.heap.size 5 i0 z0 Tryd.underlying22 hi hz hs hb hc (by omega) v4 (p.take n) rfl KO4.out _ more rfl KM4.out (by simp; omega) (by omega) ?_; intro v5 w5 hown hgrow hat; have KO5 := Kept.mk hown; have KG5 := Kept.mk hgrow; clear hown hgrow hat)
              have hb45 : Below w3.heap.size w4 w5 := (Below.refl _ w4).grown KG5.out (by omega) (fun g e => (KO4.out.lt g e).1)
              have KB5 := Kept.mk (KB4.out.trans (hb45.mono KB3.out.size))
              have KO35 : Kept (Own .u8 5 w5 w2.heap.size (.slice a3 o.length c3) o) := ⟨KO34.out.far fun g hg => hb45.block g (KO3.out.lt g hg).2⟩
              have K6 := Kept.mk (inflate_any v5 (p.take n ++ more) o.length w5 (KT.out.far KB5.out) KO5.out.rd ((KAP.out.take n).append KAM.out) (by simp; omega) hol)
              rw [KQ.out] at K6
              simp only [AfterI, hn] at K6
              clear hb45
              go_wp2_with fail
              refine Calls.mono K6.out (fun e w6 hp => ?_)
              obtain ⟨v6, rfl, ho6, hao6, -, hb6⟩ := hp
              obtain ⟨a6, c6, rfl, -, -, -⟩ := ho6.rd.form
              have KB6 := Kept.mk (KB5.out.trans (hb6.mono KB5.out.size))
              have KO36 := Kept.mk (KO35.out.later hb6 (Nat.le_refl _))
              have KS6 := Kept.mk (same_any _ _ o o w6 KO36.out.rd ho6.rd KAO.out KAO.out)
              rw [show decide (o = o) = true from decide_eq_true rfl] at KS6
              clear ho6 hb6 hao6
              go_wp2_with fail
              refine Calls.mono KS6.out (fun e w7 hp => ?_)
              obtain ⟨rfl, hw7⟩ := hp
              subst hw7
              have KTx : Kept (∀ m, Calls Tryd.prog 11 #[.slice (some ⟨pb, po, none⟩) n pc] (w7.drewN m) fun e w' => ∃ v', e = .returned v' ∧ Own .u8 5 w' w7.heap.size v' (p.take n) ∧ Below w7.heap.size (w7.drewN m) w') := ⟨fun m => twin_any (.slice (some ⟨pb, po, none⟩) n pc) (p.take n) (w7.drewN m) (((KP.out.cut n (by omega)).later KB6.out (Nat.le_refl _)).far (Nat.le_refl _) (fun _ _ hs => ⟨hs, rfl⟩)) (by simp; omega)⟩
              go_upto_region 18 with fail
              refine wp_region_noPanic (wp_region_any (by kernel_rfl) ?_)
              show wpAny _ _ _ _ _ _ _ (w7.drewN 1)
              refine wpAny_take (i := 0) (v := .slice (some ⟨pb, po, none⟩) p.length pc) rfl (by kernel_rfl) (by kernel_rfl) (by kernel_rfl) (fun _ _ _ h => h) (Or.inl ⟨rfl, fun W => by rfl⟩) ?_
              simp only [Act.put]
              refine wpAny_take (i := 1) (v := .int .i64 n) rfl (by kernel_rfl) (by kernel_rfl) (by kernel_rfl) (fun _ _ _ h => h) (Or.inl ⟨rfl, fun W => by rfl⟩) ?_
              simp only [Act.put]
              refine wpAny_take (i := 2) (v := .slice (some ⟨pb, po, none⟩) n pc) rfl (by kernel_rfl) (by kernel_rfl) (by kernel_rfl) (fun _ _ _ h => h) (Or.inl ⟨rfl, fun W => by go_simp⟩) ?_
              simp only [Act.put]
              refine wpAny_take (i := 4) (v := .int .i64 k) rfl (by kernel_rfl) (by kernel_rfl) (by kernel_rfl) (fun _ _ _ h => h) (Or.inl ⟨rfl, fun W => by rfl⟩) ?_
              simp only [Act.put]
              refine wpAny_take (i := 5) (v := .slice a3 o.length c3) rfl (by kernel_rfl) (by kernel_rfl) (by kernel_rfl) (fun _ _ _ h => h) (Or.inl ⟨rfl, fun W => by rfl⟩) ?_
              simp only [Act.put]
              refine wpAny_take (i := 6) (v := .int .i64 o.length) rfl (by kernel_rfl) (by kernel_rfl) (by kernel_rfl) (fun _ _ _ h => h) (Or.inl ⟨rfl, fun W => by go_simp⟩) ?_
              simp only [Act.put]
              refine wpAny_take (i := 7) (v := .int .i64 ((k % o.length : Nat) : Int)) rfl (by kernel_rfl) (by kernel_rfl) (by kernel_rfl) (fun _ _ _ h => h) (Or.inl ⟨rfl, fun W => by go_simp; rw [if_neg (fun e => by rw [e] at hopos; simp at hopos), Int.tmod_eq_emod_of_nonneg (by omega)]⟩) ?_
              simp only [Act.put]
              refine wpAny_one (i := 3) (by kernel_rfl) rfl rfl (fun K hK => ?_)
              go_simp
              refine Calls.mono (KTx.out 1) (fun e wx hp => ?_)
              obtain ⟨vx, rfl, hox, hbx⟩ := hp
              refine hK _ _ ?_
              clear hK K
              have KBx : Kept (Below w.heap.size w wx) := ⟨KB6.out.trans ((below_drewN (Below.refl w7.heap.size w7) 1).trans hbx |>.mono KB6.out.size)⟩
              have Ky := Kept.mk (inflate_any vx (p.take n) (k % o.length) wx (KT.out.far KBx.out) hox.rd (KAP.out.take n) (by simp; omega) (by have := Nat.mod_lt k hopos; omega))
              rw [KQ3.out] at Ky
              clear hox hbx
              refine wpAny_one (i := 8) (by kernel_rfl) rfl rfl (fun K hK => ?_)
              go_simp
              refine Calls.mono Ky.out (fun e wy hp => ?_)
              obtain ⟨rfl, hby⟩ := hp
              refine hK _ _ ?_
              clear hK K
              have KBy := Kept.mk (KBx.out.trans (hby.mono KBx.out.size))
              clear hby
              refine wpAny_one (i := 9) (by kernel_rfl) rfl rfl (fun K hK => ?_)
              go_simp
              refine hK _ _ ?_
              clear hK K
              refine wpAny_take (i := 10) (v := .slice none 0 0) rfl (by kernel_rfl) (by kernel_rfl) (by kernel_rfl) (fun _ _ _ h => h) (Or.inl ⟨rfl, fun W => by go_simp⟩) ?_
              simp only [Act.put]
              refine wpAny_take (i := 11) (v := .int .i64 0) rfl (by kernel_rfl) (by kernel_rfl) (by kernel_rfl) (fun _ _ _ h => h) (Or.inl ⟨rfl, fun W => by go_simp⟩) ?_
              simp only [Act.put]
              refine wpAny_take (i := 12) (v := .int .i64 10) rfl (by kernel_rfl) (by kernel_rfl) (by kernel_rfl) (fun _ _ _ h => h) (Or.inl ⟨rfl, fun W => by go_simp; rfl⟩) ?_
              simp only [Act.put]
              refine wpAny_take (i := 13) (v := .slice none 0 0) rfl (by kernel_rfl) (by kernel_rfl) (by kernel_rfl) (fun _ _ _ h => h) (Or.inl ⟨rfl, fun W => by go_simp⟩) ?_
              simp only [Act.put]
              refine wpAny_take (i := 14) (v := .int .i64 0) rfl (by kernel_rfl) (by kernel_rfl) (by kernel_rfl) (fun _ _ _ h => h) (Or.inl ⟨rfl, fun W => by go_simp⟩) ?_
              simp only [Act.put]
              refine wpAny_take (i := 15) (v := .int .i64 10) rfl (by kernel_rfl) (by kernel_rfl) (by kernel_rfl) (fun _ _ _ h => h) (Or.inl ⟨rfl, fun W => by go_simp⟩) ?_
              simp only [Act.put]
              refine wpAny_done (by kernel_rfl) (NoPanic.normal ?_) _
              go_wp2
              all_goals
                go_ret
                exact ⟨rfl, KBy.out⟩
      · have her := er.rng
        have hne : ¬ er.v = 0 := by omega
        clear her
        go_enter Tryd.func4, Tryd.ntmps4
        go_wp2_with fail
        refine Calls.mono KA.out (fun e w1 hp => ?_)
        obtain ⟨rfl, hb1⟩ := hp
        have KB1 := Kept.mk hb1
        clear hb1
        go_wp2_with fail
        refine Calls.mono (twin_any _ p w1 (KP.out.later KB1.out (Nat.le_refl _)) (by omega)) (fun e w2 hp => ?_)
        obtain ⟨v2, rfl, ho2, hb2⟩ := hp
        have KB2 := Kept.mk (KB1.out.trans (hb2.mono KB1.out.size))
        have K3 := Kept.mk (inflate_any v2 p 100000 w2 (KT.out.far KB2.out) ho2.rd KAP.out (by omega) (by omega))
        clear ho2 hb2
        rw [hq] at K3
        go_wp2_with fail
        refine Calls.mono K3.out (fun e w3 hp => ?_)
        obtain ⟨rfl, hb3⟩ := hp
        have KB3 := Kept.mk (KB2.out.trans (hb3.mono KB2.out.size))
        clear hb3
        go_wp2
        go_ret
        exact ⟨rfl, KB3.out⟩
end Go.Proofs.YtibopgdaechfpaaDoor
