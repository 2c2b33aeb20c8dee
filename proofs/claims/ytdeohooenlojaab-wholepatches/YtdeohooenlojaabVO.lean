/-
  Walks: the law WholePatches.
-/
import Derived.Test.YtdeohooenlojaabVN
namespace Go.Proofs.Ytdeohooenlojaab
open Go.RowKit Go.Shelf

set_option maxHeartbeats 2000000 in
set_option maxRecDepth 100000 in
theorem patches_walk (va vb vc : Value) (a b c : List ByteArray) (w : World) (ha : RdS w va a) (hb : RdS w vb b) (hc : RdS w vc c) (sa : ∀ s ∈ a, s.size ≤ 140737488355328) (sb : ∀ s ∈ b, s.size ≤ 140737488355328) (sc : ∀ s ∈ c, s.size ≤ 140737488355328) :
    Calls Try.prog 5 #[va, vb, vc] w fun e w' => e = .returned (.bool true) ∧ Below w.heap.size w w' := by
  have K0 := Kept.mk (awake11_any w)
  have KA := Kept.mk ha
  have KBb := Kept.mk hb
  have KC := Kept.mk hc
  have Ksa := Kept.mk sa
  have Ksb := Kept.mk sb
  have Ksc := Kept.mk sc
  obtain ⟨pa, ca, rfl⟩ := ha.form
  obtain ⟨pb, cb, rfl⟩ := hb.form
  obtain ⟨pc, cc, rfl⟩ := hc.form
  clear ha hb hc sa sb sc
  go_enter Try.func5, Try.ntmps5
  go_wp2_with fail
  refine Calls.mono K0.out (fun e w1 hp => ?_)
  obtain ⟨rfl, hb1⟩ := hp
  have KB1 := Kept.mk hb1
  clear hb1 K0
  by_cases hbig : a.length ≤ 60 ∧ b.length ≤ 60 ∧ c.length ≤ 60
  · obtain ⟨la, lb, lc⟩ := hbig
    have j1 : ¬ (60 : Int) < (a.length : Int) := by omega
    have j2 : ¬ (60 : Int) < (b.length : Int) := by omega
    have j3 : ¬ (60 : Int) < (c.length : Int) := by omega
    have K1 := Kept.mk (twinLines_any _ a w1 (KA.out.later KB1.out (Nat.le_refl _)) (by omega))
    go_wp2_with fail
    refine Calls.mono K1.out (fun e w2 hp => ?_)
    obtain ⟨v2, rfl, ho, hb2⟩ := hp
    obtain ⟨ma, mc, rfl⟩ := ho.form
    have KB2 := Kept.mk (KB1.out.trans (hb2.mono KB1.out.size))
    have KO := Kept.mk ho.rd
    clear hb2 ho K1
    obtain ⟨w3, hw3⟩ : ∃ x, w2.alloc (.cells #[.slice pb b.length cb, .slice pc c.length cc, .slice pb b.length cb, .slice pa a.length ca] 22) = x := ⟨_, rfl⟩
    have hB3 : Below w2.heap.size w2 w3 := by rw [← hw3]; exact (Below.refl _ _).alloc (Nat.le_refl _) _
    have KL3 : Kept (RdV w3 (.slice (some ⟨w2.heap.size, 0, none⟩) 4 4) [.slice pb b.length cb, .slice pc c.length cc, .slice pb b.length cb, .slice pa a.length ca]) := ⟨by rw [← hw3]; exact rdV_new w2 22 [.slice pb b.length cb, .slice pc c.length cc, .slice pb b.length cb, .slice pa a.length ca]⟩
    have KO3 := Kept.mk (KO.out.later hB3 (Nat.le_refl _))
    have KB3 := Kept.mk (KB2.out.trans (hB3.mono KB2.out.size))
    have Kall : Kept (∀ i, i < 4 → ∃ p l cp, ([.slice pb b.length cb, .slice pc c.length cc, .slice pb b.length cb, .slice pa a.length ca] : List Value)[i]? = some (.slice p l cp) ∧ ∃ T : List ByteArray, RdS w (.slice p l cp) T ∧ l = T.length ∧ T.length ≤ 60 ∧ ∀ s ∈ T, s.size ≤ 140737488355328) := ⟨fun i hi => by
      match i, hi with
      | 0, _ => exact ⟨_, _, _, rfl, b, KBb.out, rfl, lb, Ksb.out⟩
      | 1, _ => exact ⟨_, _, _, rfl, c, KC.out, rfl, lc, Ksc.out⟩
      | 2, _ => exact ⟨_, _, _, rfl, b, KBb.out, rfl, lb, Ksb.out⟩
      | 3, _ => exact ⟨_, _, _, rfl, a, KA.out, rfl, la, Ksa.out⟩⟩
    have Kla := Kept.mk la
    clear hB3 KO
    go_upto_region 7 with fail
    try rw [hw3]
    clear hw3
    go_loopw [7, 36] (fun av iv wr => ∃ (i : Nat) (cur : List ByteArray), i ≤ 4 ∧ iv = .int .i64 i ∧ RdS wr av cur ∧ cur.length ≤ 60 ∧ (∀ s ∈ cur, s.size ≤ 140737488355328) ∧ RdV wr (.slice (some ⟨w2.heap.size, 0, none⟩) 4 4) [.slice pb b.length cb, .slice pc c.length cc, .slice pb b.length cb, .slice pa a.length ca] ∧ Below w.heap.size w wr) (fun _ iv _ => 4 - (intOf iv).toNat)
    case atStart => exact ⟨0, a, Nat.zero_le _, rfl, KO3.out, Kla.out, Ksa.out, KL3.out, KB3.out⟩
    case round =>
      obtain ⟨i, cur, hi4, rfl, hcur, hcl, hcs, hlist, hbr⟩ := hrel
      obtain ⟨ma, mc, rfl⟩ := hcur.form
      have Kcur := Kept.mk hcur
      have Kcs := Kept.mk hcs
      have Kls := Kept.mk hlist
      have KBr := Kept.mk hbr
      clear KL3 KO3 KB3 KBb KC KA Ksa Ksb Ksc hcur hcs hlist
      by_cases hlt : i < 4
      · have hii : (i : Int) < 4 := by omega
        have n0 : (0 : Int) ≤ (i : Int) := by omega
        have e1 : IntKind.i64.wrap ((i : Int) + 1) = (i : Int) + 1 := wr64 (by omega) (by omega)
        obtain ⟨p, l, cp, hget, T, hT, rfl, hTl, hTs⟩ := Kall.out i hlt
        obtain ⟨a', c', he, -, hr⟩ := Kls.out
        obtain ⟨b1, o1, hp1, -, hr1⟩ := hr (by simp)
        have hbo : b1 = w2.heap.size ∧ o1 = 0 := by injection he with h1 h2 h3; rw [hp1] at h1; injection h1 with h1; injection h1 with h1 h2 h3; exact ⟨h1.symm, h2.symm⟩
        obtain ⟨rfl, rfl⟩ := hbo
        have cs := hr1 i _ hget
        rw [Nat.zero_add] at cs
        have KT := Kept.mk (hT.later hbr (Nat.le_refl _))
        have KTs := Kept.mk hTs
        have K1 := Kept.mk (hunks_any _ _ cur T wr Kcur.out KT.out (fun s hs => Nat.le_trans (Kcs.out s hs) (by decide)) (fun s hs => Nat.le_trans (KTs.out s hs) (by decide)))
        have hlb : longB cur.length T.length = false := by unfold longB; rw [decide_eq_false (by omega), decide_eq_false (by omega)]; rfl
        have Klb := Kept.mk hlb
        clear he hr hr1 hp1 hget hT hTs hbr hlb
        go_wp2_with fail
        refine Calls.mono K1.out (fun e w4 hp => ?_)
        obtain ⟨hb4, hor⟩ := hp
        rcases hor with ⟨hL, -⟩ | ⟨-, v4, rfl, ho4⟩
        · rw [Klb.out] at hL; cases hL
        obtain ⟨hwF, hwA⟩ := hunks_whole cur T
        have hhl := hks_len cur T
        have K2 := Kept.mk (apply_any (.slice ma cur.length mc) (.slice p T.length cp) v4 cur T _ w4 hcl hTl (fun W hW => (Kcur.out.later hb4 (Nat.le_refl _)).later hW (Nat.le_refl _)) (fun W hW => (KT.out.later hb4 (Nat.le_refl _)).later hW (Nat.le_refl _)) (fun W hW => ho4.rdk W (fun g hg => hW.block g (ho4.lt g hg).2)) (by omega) hwF (fun s hs => Nat.le_trans (Kcs.out s hs) (by decide)) (fun s hs => Nat.le_trans (KTs.out s hs) (by decide)))
        rw [hwA] at K2
        have KB4 := Kept.mk (KBr.out.trans (hb4.mono KBr.out.size))
        have Kls4 := Kept.mk (Kls.out.later hb4 (Nat.le_refl _))
        have KT4 := Kept.mk (KT.out.later hb4 (Nat.le_refl _))
        obtain ⟨ha4, hc4, hv4⟩ := ho4.form
        rw [hv4] at K2
        rw [hv4]
        clear K1 hb4 ho4 hwF hwA hhl hv4 cs Kcur Kls KT
        generalize (hksF [] (wayP cur T 0 0)).length = nh at *
        go_wp2_with fail
        refine Calls.mono K2.out (fun e w5 hp => ?_)
        obtain ⟨v5, rfl, ho5, hb5⟩ := hp
        obtain ⟨ma5, mc5, rfl⟩ := ho5.form
        have KO5 := Kept.mk ho5.rd
        have KB5 := Kept.mk (KB4.out.trans (hb5.mono KB4.out.size))
        have Kls5 := Kept.mk (Kls4.out.later hb5 (Nat.le_refl _))
        have K3 : Kept (Calls Try.prog 11 #[.slice ma5 T.length mc5, .slice p T.length cp] w5 fun e w' => e = .returned (.bool true) ∧ Below w5.heap.size w5 w') := ⟨by
          have h := sameLines_any _ _ T T w5 KO5.out (KT4.out.later hb5 (Nat.le_refl _)) (by omega)
          rw [decide_eq_true rfl] at h
          exact h⟩
        clear K2 ho5 hb5 Kls4 KT4 KB4
        go_wp2_with fail
        refine Calls.mono K3.out (fun e w6 hp => ?_)
        obtain ⟨rfl, hb6⟩ := hp
        have KO6 := Kept.mk (KO5.out.later hb6 (Nat.le_refl _))
        have KB6 := Kept.mk (KB5.out.trans (hb6.mono KB5.out.size))
        have Kls6 := Kept.mk (Kls5.out.later hb6 (Nat.le_refl _))
        clear K3 hb6 KO5 KB5 Kls5
        go_wp2
        go_roundw
        case rel => exact ⟨i + 1, T, hlt, by go_num, KO6.out, hTl, KTs.out, Kls6.out, KB6.out⟩
        case measure => simp [intOf]; omega
      · have hii : ¬ (i : Int) < 4 := by omega
        go_wp2
        go_ret
        exact ⟨rfl, KBr.out⟩
  · have hz : (a.length ≤ 60 → b.length ≤ 60 → ¬ c.length ≤ 60) := fun h1 h2 h3 => hbig ⟨h1, h2, h3⟩
    by_cases g1 : (60 : Int) < (a.length : Int)
    · go_wp2
      go_ret
      exact ⟨rfl, KB1.out⟩
    · by_cases g2 : (60 : Int) < (b.length : Int)
      · go_wp2
        go_ret
        exact ⟨rfl, KB1.out⟩
      · have g3 : (60 : Int) < (c.length : Int) := by have := hz (by omega) (by omega); omega
        go_wp2
        go_ret
        exact ⟨rfl, KB1.out⟩
end Go.Proofs.Ytdeohooenlojaab
