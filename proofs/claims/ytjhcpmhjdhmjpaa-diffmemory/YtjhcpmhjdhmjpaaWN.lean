/-
  Walks: the law DiffMemory.
-/
import Derived.Test.YtjhcpmhjdhmjpaaWM
namespace Go.Proofs.Ytjhcpmhjdhmjpaa
open Go.RowKit

set_option maxHeartbeats 4000000 in
set_option maxRecDepth 100000 in
theorem memory_walk (va vb : Value) (a b : List ByteArray) (w : World) (ha : RdS w va a) (hb : RdS w vb b) (sa : ∀ s ∈ a, s.size ≤ 140737488355328) (sb : ∀ s ∈ b, s.size ≤ 140737488355328) :
    Calls Try.prog 6 #[va, vb] w fun e w' => e = .returned (.bool true) ∧ Below w.heap.size w w' := by
  have K0 := Kept.mk (awake_any w)
  have KA := Kept.mk ha
  have KBb := Kept.mk hb
  have Ksa := Kept.mk sa
  have Ksb := Kept.mk sb
  obtain ⟨pa, ca, rfl⟩ := ha.form
  obtain ⟨pb, cb, rfl⟩ := hb.form
  clear ha hb sa sb
  go_enter Try.func6, Try.ntmps6
  go_wp2_with fail
  refine Calls.mono K0.out (fun e w1 hp => ?_)
  obtain ⟨rfl, hb1⟩ := hp
  have KB1 := Kept.mk hb1
  clear hb1 K0
  by_cases hbig : a.length ≤ 60 ∧ b.length ≤ 60
  · obtain ⟨la, lb⟩ := hbig
    have j1 : ¬ (60 : Int) < (a.length : Int) := by omega
    have j2 : ¬ (60 : Int) < (b.length : Int) := by omega
    obtain ⟨i0, z0, hi, hz, hsz, hbt, hzc⟩ := info_str
    have hb1 : i0.bytes * (a.length + 2) ≤ 281474976710656 := by rw [hbt]; omega
    have hb2 : a.length + 2 ≤ maxLen := by unfold maxLen; omega
    have e2 : IntKind.i64.wrap ((a.length : Int) + 2) = (a.length : Int) + 2 := wr64 (by omega) (by omega)
    have hsz1 : (Try.prog.info? 9).map (·.size) = some 1 := by rw [hi]; simp [hsz]
    have Ka1 := Kept.mk (KA.out.later KB1.out (Nat.le_refl _))
    go_upto_region 6 with (at_make; refine wpList_make_lc _ rfl _ _ 22 rfl 9 i0 z0 Try.underlying22 hi hz hsz .i64 .i64 (a.length : Int) ((a.length : Int) + 2) a.length (a.length + 2) rfl rfl rfl (by omega) (by omega) hb1 hb2 ?_; intro w2 cs hcs hbk hbl; have Kcs := Kept.mk hcs; have KK2 := Kept.mk hbk; have KB2 := Kept.mk hbl; clear hcs hbk hbl)
    have Ksrc : Kept (0 < (a.map Value.string).length → ∃ ad, pa = some ad ∧ ∀ j v, (a.map Value.string)[j]? = some v → w2.cell? (ad.add j) = some v) := ⟨fun h0 => by
      obtain ⟨p', c', he, -, hr⟩ := Ka1.out.later KB2.out (Nat.le_refl _)
      obtain ⟨b1, o1, hp1, -, hr1⟩ := hr h0
      refine ⟨⟨b1, o1, none⟩, by injection he with h1 h2 h3; rw [h1, hp1], fun j v hv => ?_⟩
      rw [add_plain]
      exact hr1 j v hv⟩
    have Kone : Kept (∀ v ∈ a.map Value.string, v.oneCell' = true) := ⟨by simp [Value.oneCell']⟩
    have Klen : Kept ((a.map Value.string).length = Nat.min a.length a.length) := ⟨by simp⟩
    have Kfit : Kept (0 + (a.map Value.string).length ≤ cs.length) := ⟨by rw [Kcs.out, List.length_map]; omega⟩
    go_upto_region 7 with (refine wpList_copy_splice rfl _ _ 22 22 rfl 9 Try.underlying22 hsz1 (some ⟨w1.heap.size, 0, none⟩) pa a.length (a.length + 2) a.length ca rfl rfl w1.heap.size 0 cs 9 KK2.out (a.map Value.string) Klen.out (fun h => ⟨rfl, Ksrc.out h⟩) Kfit.out Kone.out w1.heap.size w1 KB2.out (Nat.le_refl _) ?_; intro w3 hh3 hb3; have KK3 := Kept.mk hh3; have KB3 := Kept.mk hb3; clear hh3 hb3)
    have KO3 : Kept (w3.ownsRow w1.heap.size 9 1 (.slice (some ⟨w1.heap.size, 0, none⟩) a.length (a.length + 2)) a.length (a.map Value.string)) := ⟨by
      refine ⟨by simp, .inr ⟨w1.heap.size, a.length + 2, _, rfl, Nat.le_refl _, KK3.out, by omega, hb2, ?_, ?_⟩⟩
      · rw [List.size_toArray, length_splice _ _ _ Kfit.out, Kcs.out, Nat.mul_one]
      · unfold splice
        rw [List.take_zero, List.nil_append, Nat.mul_one]
        rw [List.take_append_of_le_length (by simp), List.take_of_length_le (by simp)]⟩
    have KC3 : Kept (∀ j u, ([.string ⟨#[49]⟩, .string ⟨#[50]⟩] : List Value)[j]? = some u → (w3.alloc (.cells #[.string ⟨#[49]⟩, .string ⟨#[50]⟩] 9)).cell? ((⟨w3.heap.size, 0, none⟩ : Addr).add j) = some u) := ⟨fun j u hu => by
      have h := (Bk.new w3 9 [.string ⟨#[49]⟩, .string ⟨#[50]⟩]).cell j u hu
      rw [add_plain, Nat.zero_add]
      exact h⟩
    have KO3a := Kept.mk (World.ownsRow.alloc KO3.out (.cells #[.string ⟨#[49]⟩, .string ⟨#[50]⟩] 9))
    have KB3a := Kept.mk (KB3.out.alloc KB3.out.size (.cells #[.string ⟨#[49]⟩, .string ⟨#[50]⟩] 9))
    go_upto_region 8 with (at_builtin; refine wpList_append_fits _ rfl _ _ 22 rfl w1.heap.size 9 i0 1 Try.underlying22 hi hsz w1.heap.size a.length (a.length + 2) (a.map Value.string) rfl KO3a.out ⟨w3.heap.size, 0, none⟩ 2 2 [.string ⟨#[49]⟩, .string ⟨#[50]⟩] rfl rfl KC3.out (by simp [Value.oneCell']) (Nat.le_refl _) ?_; intro w4 hown hgrow; have KO4 := Kept.mk hown; have KB4 := Kept.mk (KB3a.out.grown hgrow KB3a.out.size (fun k hk => by injection hk with hk; omega)); clear hown hgrow)
    have Kbk : Kept (Bk w4 w1.heap.size 9 (a.map Value.string ++ [.string ⟨#[49]⟩, .string ⟨#[50]⟩])) := ⟨bk_made KO4.out⟩
    have KX : Kept (∀ W, Fx (fun k => w4.heap.size ≤ k) w4 W → RdS W (.slice (some ⟨w1.heap.size, 0, none⟩) a.length (a.length + 2)) a) := ⟨fun W hW => by
      have hlt := Kbk.out.lt
      have hb := Kbk.out.fx hW (by omega)
      refine ⟨_, _, by rw [List.length_map], by rw [List.length_map]; omega, fun _ => ⟨w1.heap.size, 0, rfl, hb.lt, fun j u hu => ?_⟩⟩
      rw [Nat.zero_add]
      refine hb.cell j u ?_
      rw [List.getElem?_append_left (List.getElem?_eq_some_iff.1 hu).1]
      exact hu⟩
    have Kcell : Kept (∀ W, Fx (fun k => w4.heap.size ≤ k) w4 W → W.cell? ⟨w1.heap.size, a.length, none⟩ = some (.string ⟨#[49]⟩) ∧ W.cell? ⟨w1.heap.size, a.length + 1, none⟩ = some (.string ⟨#[50]⟩)) := ⟨fun W hW => by
      have hlt := Kbk.out.lt
      have hb := Kbk.out.fx hW (by omega)
      refine ⟨hb.cell _ _ ?_, hb.cell _ _ ?_⟩
      · rw [List.getElem?_append_right (by simp)]; simp
      · rw [List.getElem?_append_right (by simp)]; simp⟩
    have Kx0 : Kept (RdS w4 (.slice (some ⟨w1.heap.size, 0, none⟩) a.length (a.length + 2)) a) := ⟨KX.out w4 (Fx.refl _ _)⟩
    clear KO3 KO3a KB3a KC3 KK3 KB3 KK2 KB2 Ksrc Kone Klen Kfit Kcs hi hz hsz hsz1 hbt hzc e2 hb1 hb2
    have K1 := Kept.mk (twinLines_any _ b w4 (KBb.out.later (KB1.out.trans (KB4.out.mono KB1.out.size)) (Nat.le_refl _)) (by omega))
    go_wp2_with fail
    refine Calls.mono K1.out (fun e w5 hp => ?_)
    obtain ⟨v5, rfl, ho5, hb5⟩ := hp
    obtain ⟨ya, yc, rfl⟩ := ho5.form
    have KY := Kept.mk ho5.rd
    have KB5 := Kept.mk hb5
    have K2 := Kept.mk (hunks_any _ _ a b w5 (Kx0.out.later hb5 (Nat.le_refl _)) ho5.rd (fun s hs => Nat.le_trans (Ksa.out s hs) (by decide)) (fun s hs => Nat.le_trans (Ksb.out s hs) (by decide)))
    have Klb : Kept (longB a.length b.length = false) := ⟨by unfold longB; rw [decide_eq_false (by omega), decide_eq_false (by omega)]; rfl⟩
    clear K1 ho5 hb5
    go_wp2_with fail
    refine Calls.mono K2.out (fun e w6 hp => ?_)
    obtain ⟨hb6, hor⟩ := hp
    rcases hor with ⟨hL, -⟩ | ⟨-, v6, rfl, ho6⟩
    · rw [Klb.out] at hL; cases hL
    have Khw := Kept.mk (hunks_whole a b)
    have Khl := Kept.mk (hks_len a b)
    have KB6 := Kept.mk (KB5.out.trans (hb6.mono KB5.out.size))
    have KH := Kept.mk ho6
    obtain ⟨ha6, hc6, hv6⟩ := ho6.form
    have KAp : Kept (∀ W, Below w6.heap.size w6 W → Calls Try.prog 24 #[.slice (some ⟨w1.heap.size, 0, none⟩) a.length (a.length + 2), .slice ya b.length yc, v6] W fun e w' => ∃ v', e = .returned (.tuple #[v', .int .i64 0]) ∧ OwnT w' W.heap.size v' b ∧ Below W.heap.size W w') := ⟨fun W hW => by
      have h := apply_any (.slice (some ⟨w1.heap.size, 0, none⟩) a.length (a.length + 2)) (.slice ya b.length yc) v6 a b _ W la lb
        (fun W' hW' => (Kx0.out.later KB6.out (Nat.le_refl _)).later (hW.trans (hW'.mono hW.size)) (Nat.le_refl _))
        (fun W' hW' => (KY.out.later hb6 (Nat.le_refl _)).later (hW.trans (hW'.mono hW.size)) (Nat.le_refl _))
        (fun W' hW' => KH.out.rdk W' (fun g hg => (hW.trans (hW'.mono hW.size)).block g (KH.out.lt g hg).2)) (by have := Khl.out; omega) Khw.out.1 (fun s hs => Nat.le_trans (Ksa.out s hs) (by decide)) (fun s hs => Nat.le_trans (Ksb.out s hs) (by decide))
      rw [Khw.out.2] at h
      exact h⟩
    rw [hv6] at KAp
    rw [hv6]
    have KWy : Kept (∀ W, Below w6.heap.size w6 W → Calls Try.prog 10 #[.slice (some ⟨w1.heap.size, 0, none⟩) a.length (a.length + 2), .slice ya b.length yc] W fun e w' => ∃ v', e = .returned (.tuple #[v', .int .i64 0]) ∧ OwnW w' W.heap.size v' (wayP a b 0 0) ∧ Below W.heap.size W w') := ⟨fun W hW => by
      have h := way_any (.slice (some ⟨w1.heap.size, 0, none⟩) a.length (a.length + 2)) (.slice ya b.length yc) a b W ((Kx0.out.later KB6.out (Nat.le_refl _)).later hW (Nat.le_refl _)) ((KY.out.later hb6 (Nat.le_refl _)).later hW (Nat.le_refl _)) (fun s hs => Nat.le_trans (Ksa.out s hs) (by decide)) (fun s hs => Nat.le_trans (Ksb.out s hs) (by decide))
      refine h.mono (fun e w' hp => ?_)
      obtain ⟨hb7, hor⟩ := hp
      rcases hor with ⟨hL, -⟩ | ⟨-, v7, rfl, ho7⟩
      · rw [Klb.out] at hL; cases hL
      exact ⟨v7, rfl, ho7, hb7⟩⟩
    have KY6 := Kept.mk (KY.out.later hb6 (Nat.le_refl _))
    clear K2 hb6 ho6 hv6 KH Khw Khl
    generalize (hksF [] (wayP a b 0 0)).length = nh at *
    have K3 := Kept.mk (KAp.out w6 (Below.refl _ _))
    go_wp2_with fail
    refine Calls.mono K3.out (fun e w7 hp => ?_)
    obtain ⟨v7, rfl, ho7, hb7⟩ := hp
    have KP := Kept.mk ho7
    have KB7 := Kept.mk hb7
    obtain ⟨p7, c7, rfl⟩ := ho7.form
    have K4 := Kept.mk (KAp.out w7 hb7)
    clear K3 hb7 ho7
    go_wp2_with fail
    refine Calls.mono K4.out (fun e w8 hp => ?_)
    obtain ⟨v8, rfl, ho8, hb8⟩ := hp
    have KQ := Kept.mk ho8
    have KB8 := Kept.mk hb8
    have KB68 := Kept.mk (KB7.out.trans (hb8.mono KB7.out.size))
    obtain ⟨p8, c8, rfl⟩ := ho8.form
    have K5 := Kept.mk (KWy.out w8 KB68.out)
    clear K4 hb8 ho8 KAp
    go_wp2_with fail
    refine Calls.mono K5.out (fun e w9 hp => ?_)
    obtain ⟨v9, rfl, ho9, hb9⟩ := hp
    have KW9 := Kept.mk ho9
    have KB9 := Kept.mk hb9
    have KB69 := Kept.mk (KB68.out.trans (hb9.mono KB68.out.size))
    obtain ⟨p9, c9, hv9, -⟩ := row_open ho9
    obtain rfl := hv9
    have K6 := Kept.mk (KWy.out w9 KB69.out)
    clear K5 hb9 ho9
    go_wp2_with fail
    refine Calls.mono K6.out (fun e w10 hp => ?_)
    obtain ⟨v10, rfl, ho10, hb10⟩ := hp
    have KW10 := Kept.mk ho10
    have KB10 := Kept.mk hb10
    have KB610 := Kept.mk (KB69.out.trans (hb10.mono KB69.out.size))
    obtain ⟨p10, c10, hv10, -⟩ := row_open ho10
    obtain rfl := hv10
    clear K6 hb10 ho10 KWy
    have KB410 := Kept.mk (KB6.out.trans (KB610.out.mono KB6.out.size))
    have K7 : Kept (Calls Try.prog 22 #[.slice (some ⟨w1.heap.size, 0, none⟩) a.length (a.length + 2), .slice pa a.length ca] w10 fun e w' => e = .returned (.bool true) ∧ Below w10.heap.size w10 w') := ⟨by
      have h := sameLines_any _ _ a a w10 (Kx0.out.later KB410.out (Nat.le_refl _)) (Ka1.out.later (KB4.out.trans (KB410.out.mono KB4.out.size)) (Nat.le_refl _)) (by omega)
      rw [decide_eq_true rfl] at h
      exact h⟩
    have n0 : (0 : Int) ≤ (a.length : Int) := by omega
    have n1 : (a.length : Int) ≤ ((a.length + 2 : Nat) : Int) := by omega
    have n2 : (a.length : Int) < ((a.length + 2 : Nat) : Int) := by omega
    have n3 : (a.length : Int) + 1 < ((a.length + 2 : Nat) : Int) := by omega
    have n4 : (0 : Int) ≤ (a.length : Int) + 1 := by omega
    have n5 : IntKind.i64.wrap ((a.length : Int) + 1) = (a.length : Int) + 1 := wr64 (by omega) (by omega)
    have n6 : ((a.length : Int) + 1).toNat = a.length + 1 := by omega
    go_wp2_with fail
    refine Calls.mono K7.out (fun e w11 hp => ?_)
    obtain ⟨rfl, hb11⟩ := hp
    have KB611 := Kept.mk (KB610.out.trans (hb11.mono KB610.out.size))
    have KB411 := Kept.mk (KB6.out.trans (KB611.out.mono KB6.out.size))
    have K8 : Kept (Calls Try.prog 22 #[.slice ya b.length yc, .slice pb b.length cb] w11 fun e w' => e = .returned (.bool true) ∧ Below w11.heap.size w11 w') := ⟨by
      have h := sameLines_any _ _ b b w11 (KY6.out.later KB611.out (Nat.le_refl _)) (KBb.out.later (KB1.out.trans ((KB4.out.trans (KB411.out.mono KB4.out.size)).mono KB1.out.size)) (Nat.le_refl _)) (by omega)
      rw [decide_eq_true rfl] at h
      exact h⟩
    have KW11 := Kept.mk (OwnW.later KW10.out hb11 (Nat.le_refl _))
    obtain ⟨hc1, hc2⟩ := Kcell.out w11 (Fx.ofBelow KB411.out (Nat.le_refl _))
    have KB11 := Kept.mk hb11
    clear hb11 K7
    go_wp2_with fail
    refine Calls.mono K8.out (fun e w12 hp => ?_)
    obtain ⟨rfl, hb12⟩ := hp
    have KB12 := Kept.mk hb12
    clear hb12 K8 hc1 hc2
    have hz1 := KB1.out.size
    have hz4 := KB4.out.size
    have hz6 := KB6.out.size
    have hz7 := KB7.out.size
    have hz8 := KB8.out.size
    have hz9 := KB9.out.size
    have hz10 := KB10.out.size
    have hz11 := KB11.out.size
    have hz12 := KB12.out.size
    have b1012 := Kept.mk (KB11.out.trans (KB12.out.mono KB11.out.size))
    have b912 := Kept.mk (KB10.out.trans (b1012.out.mono KB10.out.size))
    have b812 := Kept.mk (KB9.out.trans (b912.out.mono KB9.out.size))
    have b712 := Kept.mk (KB8.out.trans (b812.out.mono KB8.out.size))
    have b612 := Kept.mk (KB7.out.trans (b712.out.mono KB7.out.size))
    have b412 := Kept.mk (KB6.out.trans (b612.out.mono KB6.out.size))
    have b012 := Kept.mk (KB1.out.trans ((KB4.out.trans (b412.out.mono KB4.out.size)).mono KB1.out.size))
    obtain ⟨S, hS⟩ : ∃ S : Nat → Prop, S = fun k => (w1.heap.size ≤ k ∧ k < w7.heap.size) ∨ (w8.heap.size ≤ k ∧ k < w9.heap.size) := ⟨_, rfl⟩
    have KS := Kept.mk hS
    have KSt : Kept (St3 S w12 w12 p7 p9 (some ⟨w1.heap.size, 0, none⟩) b.length (wayP a b 0 0).length (a.length + 2) 9 45 9) := ⟨by
      refine ⟨Fx.refl _ _, fun h0 => ?_, fun h0 => ?_, fun h0 => ?_⟩
      · obtain ⟨p, c, hv, hr⟩ := row_open KP.out
        obtain ⟨g, hp, h1, h2, cs, h3, h4⟩ := hr h0
        injection hv with e1 e2 e3
        exact ⟨g, by rw [e1, hp], by rw [hS]; exact .inl ⟨by omega, h2⟩, cs, h3.far (b712.out.block g h2), h4⟩
      · obtain ⟨p, c, hv, hr⟩ := row_open KW9.out
        obtain ⟨g, hp, h1, h2, cs, h3, h4⟩ := hr h0
        injection hv with e1 e2 e3
        exact ⟨g, by rw [e1, hp], by rw [hS]; exact .inr ⟨h1, h2⟩, cs, h3.far (b912.out.block g h2), h4⟩
      · have hlt := Kbk.out.lt
        exact ⟨_, rfl, by rw [hS]; exact .inl ⟨Nat.le_refl _, by omega⟩, _, Kbk.out.far (b412.out.block _ hlt), by simp⟩⟩
    have Kend : Kept (∀ W, Fx S w12 W → RdS W (.slice p8 b.length c8) b ∧ RdV W (.slice p10 (wayP a b 0 0).length c10) (ptsV (wayP a b 0 0)) ∧ RdS W (.slice pa a.length ca) a ∧ RdS W (.slice pb b.length cb) b ∧ Below w.heap.size w W) := ⟨fun W hW => by
      have q1 : OwnT W w7.heap.size (.slice p8 b.length c8) b := KQ.out.far (fun g hg => by
        have h1 := (KQ.out.lt g hg)
        exact (hW.block g (by omega) (by rw [hS]; omega)).trans (b812.out.block g h1.2))
      have q2 : OwnW W w9.heap.size (.slice p10 (wayP a b 0 0).length c10) (wayP a b 0 0) := KW10.out.far (fun g hg => by
        have h1 := (KW10.out.lt g hg)
        exact (hW.block g (by omega) (by rw [hS]; omega)).trans (b1012.out.block g h1.2))
      have q3 : Below w.heap.size w W := b012.out.trans (hW.below (by have := b012.out.size; omega) (fun i hi => by rw [hS]; omega))
      exact ⟨q1.rd, q2.rd, KA.out.later q3 (Nat.le_refl _), KBb.out.later q3 (Nat.le_refl _), q3⟩⟩
    obtain ⟨hok, -, hwl⟩ := way_all a b _ a b 0 0 (Nat.le_refl _) rfl rfl (Nat.zero_le _) (Nat.zero_le _)
    have Ksm : Kept (∀ q ∈ wayP a b 0 0, q.1 < 1100 ∧ q.2 < 1100) := ⟨fun q hq => by have := hok.small q hq; omega⟩
    have hWl : (wayP a b 0 0).length ≤ 1000000 := by omega
    have KdW : Kept (∀ W, Below w.heap.size w W → Calls Try.prog 26 #[.slice pa a.length ca, .slice pb b.length cb] W fun e w' => Below W.heap.size W w' ∧ ∃ v', e = .returned v' ∧ OwnW w' W.heap.size v' (wayP a b 0 0)) := ⟨fun W hW => docWay_any _ _ a b W (KA.out.later hW (Nat.le_refl _)) (KBb.out.later hW (Nat.le_refl _)) (by omega) (by omega)⟩
    clear hok hwl hS KP KQ KW9 KW10 KW11 Kbk KX Kcell Kx0 KY KY6 Ka1 KB410 KB411 KB611 KB610 KB69 KB68 KB6 KB7 KB8 KB9 KB10 KB11 KB12 KB4 KB5 b412 b612 b712 b812 b912 b1012 b012 hz1 hz4 hz6 hz7 hz8 hz9 hz10 hz11 hz12 n1 n2 n3 n4 n5 n6 KS Klb
    generalize wayP a b 0 0 = WW at *
    generalize w1.heap.size = gx at *
    have hcast : ((a.length + 2 : Nat) : Int) = (a.length : Int) + 2 := by omega
    go_upto_region 17 with fail
    go_loopw [109] (fun iv wr => ∃ i : Nat, i ≤ b.length ∧ iv = .int .i64 i ∧ St3 S w12 wr p7 p9 (some ⟨gx, 0, none⟩) b.length WW.length (a.length + 2) 9 45 9) (fun iv _ => b.length - (intOf iv).toNat)
    case atStart => exact ⟨0, Nat.zero_le _, rfl, KSt.out⟩
    case round =>
      obtain ⟨i, hil, rfl, hst⟩ := hrel
      by_cases hlt : i < b.length
      · have hii : (i : Int) < (b.length : Int) := by omega
        have m0 : (0 : Int) ≤ (i : Int) := by omega
        have e1 : IntKind.i64.wrap ((i : Int) + 1) = (i : Int) + 1 := wr64 (by omega) (by omega)
        obtain ⟨g, hp, hSg, cs, hbk, hcl⟩ := hst.r1 (by omega)
        subst hp
        obtain ⟨u0, hu0⟩ : ∃ u0, cs[i]? = some u0 := ⟨_, List.getElem?_eq_getElem (by omega)⟩
        have hcell := hbk.cell i u0 hu0
        have hfz := hbk.frozen i
        have KE := Kept.mk (hst.step hSg i (.string ⟨#[111, 116, 104, 101, 114]⟩))
        clear hst hbk hu0 hcl KSt
        go_wp2
        go_roundw
        case rel => exact ⟨i + 1, hlt, by go_num, KE.out⟩
        case measure => simp [intOf]; omega
      · have hii : ¬ (i : Int) < (b.length : Int) := by omega
        have KSt2 := Kept.mk hst
        clear hst KSt
        obtain rfl : i = b.length := by omega
        go_upto_region 22 with fail
        go_loopw [118] (fun iv wr2 => ∃ i : Nat, i ≤ WW.length ∧ iv = .int .i64 i ∧ St3 S w12 wr2 p7 p9 (some ⟨gx, 0, none⟩) b.length WW.length (a.length + 2) 9 45 9) (fun iv _ => WW.length - (intOf iv).toNat)
        case atStart => exact ⟨0, Nat.zero_le _, rfl, KSt2.out⟩
        case round =>
          obtain ⟨i, hil2, rfl, hst⟩ := hrel
          by_cases hlt2 : i < WW.length
          · have hii2 : (i : Int) < (WW.length : Int) := by omega
            have m0 : (0 : Int) ≤ (i : Int) := by omega
            have e1 : IntKind.i64.wrap ((i : Int) + 1) = (i : Int) + 1 := wr64 (by omega) (by omega)
            obtain ⟨g, hp, hSg, cs, hbk, hcl⟩ := hst.r2 (by omega)
            subst hp
            obtain ⟨u0, hu0⟩ : ∃ u0, cs[i]? = some u0 := ⟨_, List.getElem?_eq_getElem (by omega)⟩
            have hsto := run_store_c _ _ 13830554455654793216 0 u0 (hbk.cell i u0 hu0) (hbk.frozen i)
            have KE := Kept.mk (hst.step hSg i (.complex .f64 13830554455654793216 0))
            clear hst hbk hu0 hcl KSt2
            go_wp2
            go_roundw
            case rel => exact ⟨i + 1, hlt2, by go_num, KE.out⟩
            case measure => simp [intOf]; omega
          · have hii2 : ¬ (i : Int) < (WW.length : Int) := by omega
            have KSt3 := Kept.mk hst
            clear hst KSt2
            obtain rfl : i = WW.length := by omega
            go_upto_region 27 with fail
            go_loopw [127] (fun iv wr3 => ∃ i : Nat, i ≤ a.length + 2 ∧ iv = .int .i64 i ∧ St3 S w12 wr3 p7 p9 (some ⟨gx, 0, none⟩) b.length WW.length (a.length + 2) 9 45 9) (fun iv _ => a.length + 2 - (intOf iv).toNat)
            case atStart => exact ⟨0, Nat.zero_le _, rfl, KSt3.out⟩
            case round =>
              obtain ⟨i, hil3, rfl, hst⟩ := hrel
              by_cases hlt3 : i < a.length + 2
              · have hii3 : (i : Int) < (a.length : Int) + 2 := by omega
                have m0 : (0 : Int) ≤ (i : Int) := by omega
                have e1 : IntKind.i64.wrap ((i : Int) + 1) = (i : Int) + 1 := wr64 (by omega) (by omega)
                obtain ⟨g, hp, hSg, cs, hbk, hcl⟩ := hst.r3 (by omega)
                injection hp with hp
                injection hp with hp
                subst hp
                obtain ⟨u0, hu0⟩ : ∃ u0, cs[i]? = some u0 := ⟨_, List.getElem?_eq_getElem (by omega)⟩
                have hcell := hbk.cell i u0 hu0
                have hfz := hbk.frozen i
                have KE := Kept.mk (hst.step hSg i (.string ⟨#[111, 116, 104, 101, 114]⟩))
                clear hst hbk hu0 hcl KSt3
                go_wp2
                go_roundw
                case rel => exact ⟨i + 1, hlt3, by go_num, KE.out⟩
                case measure => simp [intOf]; omega
              · have hii3 : ¬ (i : Int) < (a.length : Int) + 2 := by omega
                obtain ⟨z1, z2, z3, z4, z5⟩ := Kend.out _ hst.fx
                have K9 : Kept (Calls Try.prog 22 #[.slice p8 b.length c8, .slice pb b.length cb] wr fun e w' => e = .returned (.bool true) ∧ Below wr.heap.size wr w') := ⟨by
                  have h := sameLines_any _ _ b b wr z1 z4 (by omega)
                  rw [decide_eq_true rfl] at h
                  exact h⟩
                have KZ2 := Kept.mk z2
                have KZ5 := Kept.mk z5
                clear hst KSt3 z1 z2 z3 z4 z5
                go_wp2_with fail
                refine Calls.mono K9.out (fun e w13 hp => ?_)
                obtain ⟨rfl, hb13⟩ := hp
                have KB13 := Kept.mk (KZ5.out.trans (hb13.mono KZ5.out.size))
                have K10 := Kept.mk (KdW.out w13 KB13.out)
                have KZ3 := Kept.mk (KZ2.out.later hb13 (Nat.le_refl _))
                clear hb13 K9
                go_wp2_with fail
                refine Calls.mono K10.out (fun e w14 hp => ?_)
                obtain ⟨hb14, v14, rfl, ho14⟩ := hp
                have KB14 := Kept.mk (KB13.out.trans (hb14.mono KB13.out.size))
                have K11 : Kept (Calls Try.prog 12 #[.slice p10 WW.length c10, v14] w14 fun e w' => e = .returned (.bool true) ∧ Below w14.heap.size w14 w') := ⟨by
                  have h := sameWay_any (.slice p10 WW.length c10) v14 WW WW w14 (KZ3.out.later hb14 (Nat.le_refl _)) ho14.rd hWl Ksm.out Ksm.out
                  rw [decide_eq_true rfl] at h
                  exact h⟩
                clear hb14 ho14 K10
                go_wp2_with fail
                refine Calls.mono K11.out (fun e w15 hp => ?_)
                obtain ⟨rfl, hb15⟩ := hp
                have KB15 := Kept.mk (KB14.out.trans (hb15.mono KB14.out.size))
                clear hb15 K11
                go_wp2
                go_ret
                exact ⟨rfl, KB15.out⟩
  · have hz : a.length ≤ 60 → ¬ b.length ≤ 60 := fun h1 h2 => hbig ⟨h1, h2⟩
    by_cases g1 : (60 : Int) < (a.length : Int)
    · go_wp2
      go_ret
      exact ⟨rfl, KB1.out⟩
    · have g2 : (60 : Int) < (b.length : Int) := by have := hz (by omega); omega
      go_wp2
      go_ret
      exact ⟨rfl, KB1.out⟩
end Go.Proofs.Ytjhcpmhjdhmjpaa
