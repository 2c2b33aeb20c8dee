/-
  Walks: the law DiffWays.
-/
import Derived.Test.YtjhcpmhjdhmjpaaDW
namespace Go.Proofs.Ytjhcpmhjdhmjpaa
open Go.RowKit Go.Shelf

theorem hks_small (a b : List ByteArray) (la : a.length ≤ 60) (lb : b.length ≤ 60) : ∀ h ∈ hksF [] (wayP a b 0 0), h.1.1 < 1100 ∧ h.1.2 < 1100 ∧ h.2.1 < 1100 ∧ h.2.2 < 1100 := by
  obtain ⟨hok, -, -⟩ := way_all a b _ a b 0 0 (Nat.le_refl _) rfl rfl (Nat.zero_le _) (Nat.zero_le _)
  have go : ∀ (r : List Pt) (p : Pt) (acc : List (Pt × Pt)), (∀ q ∈ p :: r, q.1 ≤ 1000 ∧ q.2 ≤ 1000) → (∀ h ∈ acc, h.1.1 ≤ 1000 ∧ h.1.2 ≤ 1000 ∧ h.2.1 ≤ 1000 ∧ h.2.2 ≤ 1000) → ∀ h ∈ hksF acc (p :: r), h.1.1 ≤ 1000 ∧ h.1.2 ≤ 1000 ∧ h.2.1 ≤ 1000 ∧ h.2.2 ≤ 1000 := by
    intro r
    induction r with
    | nil => intro p acc _ h2; rw [hksF_one]; exact h2
    | cons q r ih =>
      intro p acc h1 h2
      rw [hksF_two]
      exact ih q _ (fun x hx => h1 x (List.mem_cons_of_mem _ hx)) (hstep_mem (h1 p List.mem_cons_self) (h1 q (by simp)) h2)
  obtain ⟨r, hr⟩ := wayP_head a b 0 0
  intro h hh
  rw [hr] at hh
  have := go r (0, 0) [] (fun q hq => by rw [← hr] at hq; have := hok.small q hq; omega) (fun k hk => nomatch hk) h hh
  omega
set_option maxHeartbeats 4000000 in
set_option maxRecDepth 100000 in
theorem ways_walk (va vb : Value) (a b : List ByteArray) (w : World) (ha : RdS w va a) (hb : RdS w vb b) (sa : ∀ s ∈ a, s.size ≤ 1048576) (sb : ∀ s ∈ b, s.size ≤ 1048576) :
    Calls Try.prog 3 #[va, vb] w fun e w' => e = .returned (.bool true) ∧ Below w.heap.size w w' := by
  have K0 := Kept.mk (awake_any w)
  have KA := Kept.mk ha
  have KBb := Kept.mk hb
  have Kma : Kept (∀ s ∈ a, s.size ≤ maxLen) := ⟨fun s hs => Nat.le_trans (sa s hs) (by decide)⟩
  have Kmb : Kept (∀ s ∈ b, s.size ≤ maxLen) := ⟨fun s hs => Nat.le_trans (sb s hs) (by decide)⟩
  have Ksa := Kept.mk sa
  have Ksb := Kept.mk sb
  obtain ⟨pa, ca, rfl⟩ := ha.form
  obtain ⟨pb, cb, rfl⟩ := hb.form
  have KRd : Kept (∀ W, Below w.heap.size w W → RdS W (.slice pa a.length ca) a ∧ RdS W (.slice pb b.length cb) b) := ⟨fun W hW => ⟨KA.out.later hW (Nat.le_refl _), KBb.out.later hW (Nat.le_refl _)⟩⟩
  clear ha hb sa sb
  go_enter Try.func3, Try.ntmps3
  go_wp2_with fail
  refine Calls.mono K0.out (fun e w1 hp => ?_)
  obtain ⟨rfl, hb1⟩ := hp
  have KB1 := Kept.mk hb1
  have K1 := Kept.mk (small_any pa pb a.length b.length ca cb w1)
  clear hb1 K0
  by_cases hsm : a.length ≤ 60 ∧ b.length ≤ 60
  · have e1 : (decide (a.length ≤ 60 ∧ b.length ≤ 60) || longB a.length b.length) = true := by rw [decide_eq_true hsm]; rfl
    rw [e1] at K1
    obtain ⟨la, lb⟩ := hsm
    have Klb : Kept (longB a.length b.length = false) := ⟨by unfold longB; rw [decide_eq_false (by omega), decide_eq_false (by omega)]; rfl⟩
    clear e1
    go_wp2_with fail
    refine Calls.mono K1.out (fun e w2 hp => ?_)
    obtain ⟨rfl, hw2⟩ := hp
    subst w2
    have K2 := Kept.mk (way_any _ _ a b w1 (KRd.out w1 KB1.out).1 (KRd.out w1 KB1.out).2 Kma.out Kmb.out)
    clear K1
    go_wp2_with fail
    refine Calls.mono K2.out (fun e w3 hp => ?_)
    obtain ⟨hb3, hor⟩ := hp
    rcases hor with ⟨hL, -⟩ | ⟨-, v3, rfl, ho3⟩
    · rw [Klb.out] at hL; cases hL
    have KB3 := Kept.mk (KB1.out.trans (hb3.mono KB1.out.size))
    have KV3 := Kept.mk ho3.rd
    obtain ⟨p3, c3, hv3, -⟩ := row_open ho3
    subst hv3
    have K3 := Kept.mk (docWayE_any _ _ a b w3 (KRd.out w3 KB3.out).1 (KRd.out w3 KB3.out).2)
    clear K2 hb3 ho3
    go_wp2_with fail
    refine Calls.mono K3.out (fun e w4 hp => ?_)
    obtain ⟨hb4, hor⟩ := hp
    rcases hor with ⟨hL, -⟩ | ⟨-, v4, rfl, ho4⟩
    · rw [Klb.out] at hL; cases hL
    have KB4 := Kept.mk (KB3.out.trans (hb4.mono KB3.out.size))
    obtain ⟨hok, -, hwl⟩ := way_all a b _ a b 0 0 (Nat.le_refl _) rfl rfl (Nat.zero_le _) (Nat.zero_le _)
    have Ksm : Kept (∀ q ∈ wayP a b 0 0, q.1 < 1100 ∧ q.2 < 1100) := ⟨fun q hq => by have := hok.small q hq; omega⟩
    have K4 : Kept (Calls Try.prog 12 #[.slice p3 (wayP a b 0 0).length c3, v4] w4 fun e w' => e = .returned (.bool true) ∧ Below w4.heap.size w4 w') := ⟨by
      have h := sameWay_any _ _ (wayP a b 0 0) (wayP a b 0 0) w4 (KV3.out.later hb4 (Nat.le_refl _)) ho4.rd (by omega) Ksm.out Ksm.out
      rw [decide_eq_true rfl] at h
      exact h⟩
    obtain ⟨p4, c4, hv4, -⟩ := row_open ho4
    rw [hv4] at K4
    rw [hv4]
    have hTx : (txP a b (wayP a b 0 0)).length ≤ 1000000000 := by
      obtain ⟨r, hr⟩ := wayP_head a b 0 0
      have h := txP_len a b 1048576 Ksa.out Ksb.out r (0, 0)
      rw [hr, List.length_cons] at hwl
      rw [hr]
      have h2 : r.length * (1048576 + 4) ≤ 120 * (1048576 + 4) := Nat.mul_le_mul_right _ (by omega)
      omega
    have KTx := Kept.mk hTx
    clear K3 hb4 ho4 hv4 hok hwl hTx
    go_wp2_with fail
    refine Calls.mono K4.out (fun e w5 hp => ?_)
    obtain ⟨rfl, hb5⟩ := hp
    have KB5 := Kept.mk (KB4.out.trans (hb5.mono KB4.out.size))
    have K5 : Kept (Calls Try.prog 13 #[.slice pa a.length ca, .slice pb b.length cb] w5 fun e w' => e = .returned (.tuple #[.int .i64 (rst a b : Nat), .int .i64 0]) ∧ Below w5.heap.size w5 w') := ⟨by
      have h := rest_any _ _ a b w5 (KRd.out w5 KB5.out).1 (KRd.out w5 KB5.out).2 Kma.out Kmb.out
      rw [if_neg (by rw [Klb.out]; decide)] at h
      exact h⟩
    clear hb5 K4
    generalize (wayP a b 0 0).length = nw at *
    go_wp2_with fail
    refine Calls.mono K5.out (fun e w6 hp => ?_)
    obtain ⟨rfl, hb6⟩ := hp
    have KB6 := Kept.mk (KB5.out.trans (hb6.mono KB5.out.size))
    have K6 : Kept (Calls Try.prog 14 #[.slice pa a.length ca, .slice pb b.length cb] w6 fun e w' => e = .returned (.tuple #[.int .i64 (rst a b : Nat), .int .i64 0]) ∧ Below w6.heap.size w6 w') := ⟨by
      have h := docRest_any _ _ a b w6 (KRd.out w6 KB6.out).1 (KRd.out w6 KB6.out).2
      rw [if_neg (by rw [Klb.out]; decide)] at h
      exact h⟩
    clear hb6 K5
    go_wp2_with fail
    refine Calls.mono K6.out (fun e w7 hp => ?_)
    obtain ⟨rfl, hb7⟩ := hp
    have KB7 := Kept.mk (KB6.out.trans (hb7.mono KB6.out.size))
    have K7 := Kept.mk (hunks_any _ _ a b w7 (KRd.out w7 KB7.out).1 (KRd.out w7 KB7.out).2 Kma.out Kmb.out)
    have qr : (((rst a b : Nat) : Int) != ((rst a b : Nat) : Int)) = false := by simp
    clear hb7 K6
    go_wp2_with fail
    refine Calls.mono K7.out (fun e w8 hp => ?_)
    obtain ⟨hb8, hor⟩ := hp
    rcases hor with ⟨hL, -⟩ | ⟨-, v8, rfl, ho8⟩
    · rw [Klb.out] at hL; cases hL
    have KB8 := Kept.mk (KB7.out.trans (hb8.mono KB7.out.size))
    have KH8 := Kept.mk ho8
    have K8 := Kept.mk (docHunksE_any _ _ a b w8 (KRd.out w8 KB8.out).1 (KRd.out w8 KB8.out).2)
    obtain ⟨a8, c8, hv8⟩ := ho8.form
    subst hv8
    clear hb8 ho8 K7
    go_wp2_with fail
    refine Calls.mono K8.out (fun e w9 hp => ?_)
    obtain ⟨hb9, hor⟩ := hp
    rcases hor with ⟨hL, -⟩ | ⟨-, v9, rfl, ho9⟩
    · rw [Klb.out] at hL; cases hL
    have KB9 := Kept.mk (KB8.out.trans (hb9.mono KB8.out.size))
    have KR9 := Kept.mk ho9.rd
    have hhl := hks_len a b
    have K9 := Kept.mk (of_any _ (hksF [] (wayP a b 0 0)) w9 (fun W hW => KH8.out.rdk W (fun g hg => (hb9.trans (hW.mono hb9.size)).block g (KH8.out.lt g hg).2)) (by omega))
    have Khl := Kept.mk hhl
    obtain ⟨a9, c9, hv9⟩ := ho9.form
    subst hv9
    have Khs := Kept.mk (hks_small a b la lb)
    clear hb9 ho9 K8 hhl KH8
    generalize hks : hksF [] (wayP a b 0 0) = HS at *
    clear hks
    go_wp2_with fail
    refine Calls.mono K9.out (fun e w10 hp => ?_)
    obtain ⟨v10, rfl, ho10, hb10⟩ := hp
    have KB10 := Kept.mk (KB9.out.trans (hb10.mono KB9.out.size))
    have K10 := Kept.mk (sameHunks_any v10 _ HS w10 ho10.rd (KR9.out.later hb10 (Nat.le_refl _)) (by have := Khl.out; omega) Khs.out)
    obtain ⟨a10, c10, hv10⟩ := ho10.form
    subst hv10
    clear hb10 ho10 K9
    go_wp2_with fail
    refine Calls.mono K10.out (fun e w11 hp => ?_)
    obtain ⟨rfl, hb11⟩ := hp
    have KB11 := Kept.mk (KB10.out.trans (hb11.mono KB10.out.size))
    have K11 := Kept.mk (textAll_any _ _ a b w11 (KRd.out w11 KB11.out).1 (KRd.out w11 KB11.out).2 Kma.out Kmb.out (by omega) (by omega) (Nat.le_trans KTx.out (by decide)))
    clear hb11 K10
    go_wp2_with fail
    refine Calls.mono K11.out (fun e w12 hp => ?_)
    obtain ⟨hb12, rfl⟩ := hp
    have KB12 := Kept.mk (KB11.out.trans (hb12.mono KB11.out.size))
    have K12 := Kept.mk (docText_any _ _ a b w12 (KRd.out w12 KB12.out).1 (KRd.out w12 KB12.out).2 (by omega) (by omega) (fun s hs => Nat.le_trans (Ksa.out s hs) (by decide)) (fun s hs => Nat.le_trans (Ksb.out s hs) (by decide)) KTx.out)
    clear hb12 K11
    go_wp2_with fail
    refine Calls.mono K12.out (fun e w13 hp => ?_)
    obtain ⟨hb13, rfl⟩ := hp
    have KB13 := Kept.mk (KB12.out.trans (hb13.mono KB12.out.size))
    have qt : ((mkB (txP a b (wayP a b 0 0))).toList == (mkB (txP a b (wayP a b 0 0))).toList) = true := beq_self_eq_true _
    clear hb13 K12
    generalize mkB (txP a b (wayP a b 0 0)) = TX at *
    go_wp2
    go_ret
    exact ⟨rfl, KB13.out⟩
  · by_cases hL : longB a.length b.length = true
    · have e1 : (decide (a.length ≤ 60 ∧ b.length ≤ 60) || longB a.length b.length) = true := by rw [hL]; simp
      rw [e1] at K1
      have Klb := Kept.mk hL
      clear e1 hsm hL
      go_wp2_with fail
      refine Calls.mono K1.out (fun e w2 hp => ?_)
      obtain ⟨rfl, hw2⟩ := hp
      subst w2
      have K2 := Kept.mk (way_any _ _ a b w1 (KRd.out w1 KB1.out).1 (KRd.out w1 KB1.out).2 Kma.out Kmb.out)
      clear K1
      go_wp2_with fail
      refine Calls.mono K2.out (fun e w3 hp => ?_)
      obtain ⟨hb3, hor⟩ := hp
      rcases hor with ⟨-, rfl⟩ | ⟨hL, -⟩
      rotate_left
      · rw [Klb.out] at hL; cases hL
      have KB3 := Kept.mk (KB1.out.trans (hb3.mono KB1.out.size))
      have K3 := Kept.mk (docWayE_any _ _ a b w3 (KRd.out w3 KB3.out).1 (KRd.out w3 KB3.out).2)
      clear K2 hb3
      go_wp2_with fail
      refine Calls.mono K3.out (fun e w4 hp => ?_)
      obtain ⟨hb4, hor⟩ := hp
      rcases hor with ⟨-, rfl⟩ | ⟨hL, -⟩
      rotate_left
      · rw [Klb.out] at hL; cases hL
      have KB4 := Kept.mk (KB3.out.trans (hb4.mono KB3.out.size))
      have K4 : Kept (Calls Try.prog 12 #[.slice none 0 0, .slice none 0 0] w4 fun e w' => e = .returned (.bool true) ∧ Below w4.heap.size w4 w') := ⟨by
        have h := sameWay_any _ _ [] [] w4 (RdV.nil w4) (RdV.nil w4) (by simp) (fun q hq => nomatch hq) (fun q hq => nomatch hq)
        rw [decide_eq_true rfl] at h
        exact h⟩
      clear K3 hb4
      go_wp2_with fail
      refine Calls.mono K4.out (fun e w5 hp => ?_)
      obtain ⟨rfl, hb5⟩ := hp
      have KB5 := Kept.mk (KB4.out.trans (hb5.mono KB4.out.size))
      have K5 : Kept (Calls Try.prog 13 #[.slice pa a.length ca, .slice pb b.length cb] w5 fun e w' => e = .returned (.tuple #[.int .i64 0, .int .i64 2]) ∧ Below w5.heap.size w5 w') := ⟨by
        have h := rest_any _ _ a b w5 (KRd.out w5 KB5.out).1 (KRd.out w5 KB5.out).2 Kma.out Kmb.out
        rw [if_pos Klb.out] at h
        exact h⟩
      clear hb5 K4
      go_wp2_with fail
      refine Calls.mono K5.out (fun e w6 hp => ?_)
      obtain ⟨rfl, hb6⟩ := hp
      have KB6 := Kept.mk (KB5.out.trans (hb6.mono KB5.out.size))
      have K6 : Kept (Calls Try.prog 14 #[.slice pa a.length ca, .slice pb b.length cb] w6 fun e w' => e = .returned (.tuple #[.int .i64 0, .int .i64 2]) ∧ Below w6.heap.size w6 w') := ⟨by
        have h := docRest_any _ _ a b w6 (KRd.out w6 KB6.out).1 (KRd.out w6 KB6.out).2
        rw [if_pos Klb.out] at h
        exact h⟩
      clear hb6 K5
      go_wp2_with fail
      refine Calls.mono K6.out (fun e w7 hp => ?_)
      obtain ⟨rfl, hb7⟩ := hp
      have KB7 := Kept.mk (KB6.out.trans (hb7.mono KB6.out.size))
      have K7 := Kept.mk (hunks_any _ _ a b w7 (KRd.out w7 KB7.out).1 (KRd.out w7 KB7.out).2 Kma.out Kmb.out)
      clear hb7 K6
      go_wp2_with fail
      refine Calls.mono K7.out (fun e w8 hp => ?_)
      obtain ⟨hb8, hor⟩ := hp
      rcases hor with ⟨-, rfl⟩ | ⟨hL, -⟩
      rotate_left
      · rw [Klb.out] at hL; cases hL
      have KB8 := Kept.mk (KB7.out.trans (hb8.mono KB7.out.size))
      have K8 := Kept.mk (docHunksE_any _ _ a b w8 (KRd.out w8 KB8.out).1 (KRd.out w8 KB8.out).2)
      clear hb8 K7
      go_wp2_with fail
      refine Calls.mono K8.out (fun e w9 hp => ?_)
      obtain ⟨hb9, hor⟩ := hp
      rcases hor with ⟨-, rfl⟩ | ⟨hL, -⟩
      rotate_left
      · rw [Klb.out] at hL; cases hL
      have KB9 := Kept.mk (KB8.out.trans (hb9.mono KB8.out.size))
      have K9 := Kept.mk (of_any (.slice none 0 0) [] w9 (fun W hW => ⟨none, 0, rfl, fun h0 => by simp at h0⟩) (by simp))
      clear hb9 K8
      go_wp2_with fail
      refine Calls.mono K9.out (fun e w10 hp => ?_)
      obtain ⟨v10, rfl, ho10, hb10⟩ := hp
      have KB10 := Kept.mk (KB9.out.trans (hb10.mono KB9.out.size))
      have K10 := Kept.mk (sameHunks_any v10 (.slice none 0 0) [] w10 ho10.rd ⟨none, 0, rfl, fun h0 => by simp at h0⟩ (by simp) (fun h hh => nomatch hh))
      obtain ⟨a10, c10, hv10⟩ := ho10.form
      subst hv10
      clear hb10 ho10 K9
      go_wp2_with fail
      refine Calls.mono K10.out (fun e w11 hp => ?_)
      obtain ⟨rfl, hb11⟩ := hp
      have KB11 := Kept.mk (KB10.out.trans (hb11.mono KB10.out.size))
      have K11 := Kept.mk (text_long _ _ a b w11 (KRd.out w11 KB11.out).1 (KRd.out w11 KB11.out).2 Kma.out Kmb.out Klb.out)
      clear hb11 K10
      go_wp2_with fail
      refine Calls.mono K11.out (fun e w12 hp => ?_)
      obtain ⟨hb12, rfl⟩ := hp
      have KB12 := Kept.mk (KB11.out.trans (hb12.mono KB11.out.size))
      have K12 := Kept.mk (docText_long _ _ a b w12 (KRd.out w12 KB12.out).1 (KRd.out w12 KB12.out).2 Klb.out)
      clear hb12 K11
      go_wp2_with fail
      refine Calls.mono K12.out (fun e w13 hp => ?_)
      obtain ⟨hb13, rfl⟩ := hp
      have KB13 := Kept.mk (KB12.out.trans (hb13.mono KB12.out.size))
      clear hb13 K12
      go_wp2
      go_ret
      exact ⟨rfl, KB13.out⟩
    · have e1 : (decide (a.length ≤ 60 ∧ b.length ≤ 60) || longB a.length b.length) = false := by
        rw [decide_eq_false hsm]
        simpa using hL
      rw [e1] at K1
      clear e1 hsm hL
      go_wp2_with fail
      refine Calls.mono K1.out (fun e w2 hp => ?_)
      obtain ⟨rfl, hw2⟩ := hp
      subst w2
      clear K1
      go_wp2
      go_ret
      exact ⟨rfl, KB1.out⟩
end Go.Proofs.Ytjhcpmhjdhmjpaa
