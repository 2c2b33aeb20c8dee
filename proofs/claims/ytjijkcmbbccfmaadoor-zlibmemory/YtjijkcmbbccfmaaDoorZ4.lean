/-
  Walks: DocUnwrap.
-/
import Derived.Test.YtjijkcmbbccfmaaDoorZ3
import Derived.Test.YtjijkcmbbccfmaaDoorD18
namespace Go.Proofs.YtjijkcmbbccfmaaDoor
open Go.RowKit

theorem adlP_range : ∀ (l : List Int) (a b : Int), 0 ≤ a → a < 65521 → 0 ≤ b → b < 65521 → 0 ≤ (adlP l a b).1 ∧ (adlP l a b).1 < 65521 ∧ 0 ≤ (adlP l a b).2 ∧ (adlP l a b).2 < 65521
  | [], a, b, h1, h2, h3, h4 => ⟨h1, h2, h3, h4⟩
  | x :: l, a, b, h1, h2, h3, h4 => by
    rw [adlP]
    exact adlP_range l _ _ (by omega) (by omega) (by omega) (by omega)
theorem adlF_range (l : List Int) : 0 ≤ adlF l ∧ adlF l < 4294967296 := by
  have := adlP_range l 1 0 (by omega) (by omega) (by omega) (by omega)
  unfold adlF
  omega

set_option maxHeartbeats 1000000 in
set_option maxRecDepth 100000 in
theorem docUnwrap_arg {v : Value} (w : World) (most : Int) (h : most < 0 ∨ 1048576 < most) :
    Calls Tryd.prog 21 #[v, .int .i64 most] w fun e w' => e = .returned (.tuple #[.slice none 0 0, .int .i64 0, .int .i64 1]) ∧ w' = w := by
  by_cases h0 : most < 0
  · clear h
    go_enter Tryd.func21, Tryd.ntmps21
    go_wp2
    go_ret3
    exact ⟨rfl, rfl⟩
  · have h1 : 1048576 < most := by omega
    clear h
    go_enter Tryd.func21, Tryd.ntmps21
    go_wp2
    go_ret3
    exact ⟨rfl, rfl⟩

theorem drop_at (p : List Int) (m i : Nat) : (p.drop m).getD i 0 = p.getD (m + i) 0 := by
  simp [List.getD, List.getElem?_drop]
/-- The sum stands there just where its bytes do. -/
theorem sm_bytes {p : List Int} {n : Nat} {s r : Int} (h4 : n + 6 ≤ p.length) (hr : smF (p.drop (2 + n)) s = r) :
    0 ≤ s → s < 4294967296 → AllB p → ((∀ i, i < 4 → p.getD (n + 2 + i) 0 = s / 2 ^ (24 - 8 * i) % 256) → r = 0) ∧ (∀ i, i < 4 → p.getD (n + 2 + i) 0 ≠ s / 2 ^ (24 - 8 * i) % 256 → r = 6) := by
  intro s0 s1 hp
  unfold smF at hr
  rw [if_neg (by simp; omega), drop_at, drop_at, drop_at, drop_at, show 2 + n + 0 = n + 2 + 0 from by omega, show 2 + n + 1 = n + 2 + 1 from by omega, show 2 + n + 2 = n + 2 + 2 from by omega, show 2 + n + 3 = n + 2 + 3 from by omega] at hr
  have b0 := hp.getD (by omega) (n + 2 + 0)
  have b1 := hp.getD (by omega) (n + 2 + 1)
  have b2 := hp.getD (by omega) (n + 2 + 2)
  have b3 := hp.getD (by omega) (n + 2 + 3)
  constructor
  · intro h
    have e0 := h 0 (by omega)
    have e1 := h 1 (by omega)
    have e2 := h 2 (by omega)
    have e3 := h 3 (by omega)
    simp only [Nat.mul_zero, Nat.sub_zero, Nat.mul_one, Nat.reduceSub, Nat.reduceMul, Int.reducePow, Int.pow_zero, Int.ediv_one] at e0 e1 e2 e3
    rw [if_pos (by omega)] at hr
    exact hr.symm
  · intro i hi hne
    have hi4 : i = 0 ∨ i = 1 ∨ i = 2 ∨ i = 3 := by omega
    rcases hi4 with rfl | rfl | rfl | rfl
    all_goals
      simp only [Nat.mul_zero, Nat.sub_zero, Nat.mul_one, Nat.reduceSub, Nat.reduceMul, Int.reducePow, Int.pow_zero, Int.ediv_one] at hne
      rw [if_neg (by omega)] at hr
      exact hr.symm

set_option maxHeartbeats 1000000 in
set_option maxRecDepth 100000 in
theorem docUnwrap_any {S : Nat → Prop} (v : Value) (p : List Int) (most : Nat) (w : World) (hv : Rd .u8 S w v p) (hp : AllB p) (hl : p.length ≤ 1000000) (hm : most ≤ 1048576) :
    Calls Tryd.prog 21 #[v, .int .i64 most] w fun e w' => AfterU w w' (unF p most) e := by
  have hm0 : ¬ (most : Int) < 0 := by omega
  have hm1 : ¬ (1048576 : Int) < (most : Int) := by omega
  obtain ⟨va, vc, rfl, -, hlc, hcm⟩ := hv.form
  by_cases h2 : p.length < 2
  · have hh : hdF p = 5 := by unfold hdF; rw [if_pos h2]
    have hu : unF p most = .error 5 := by unfold unF; rw [hh, if_pos (by decide)]
    have h2i : (p.length : Int) < 2 := by omega
    rw [hu]
    clear hu hh hv hp
    go_enter Tryd.func21, Tryd.ntmps21
    go_wp2
    go_ret3
    exact ⟨rfl, Below.refl _ _⟩
  · obtain ⟨b, off, c, hvv, -, hc⟩ := hv.two (by omega)
    injection hvv with hv1 hv2 hv3
    subst hv1
    have h2i : ¬ (p.length : Int) < 2 := by omega
    have hx1 : (0 : Int) < (p.length : Int) := by omega
    have hx2 : (1 : Int) < (p.length : Int) := by omega
    have c0 := hc 0 (by omega)
    have c1 := hc 1 (by omega)
    rw [Nat.add_zero] at c0
    have hh : hdF p = if p.getD 0 0 % 16 ≠ 8 ∨ 128 ≤ p.getD 0 0 ∨ (256 * p.getD 0 0 + p.getD 1 0) % 31 ≠ 0 ∨ p.getD 1 0 / 32 % 2 = 1 then 4 else 0 := by unfold hdF; rw [if_neg h2]
    have hb0 := hp.getD (by omega) 0
    have hb1 := hp.getD (by omega) 1
    have hu4 : hdF p = 4 → unF p most = .error 4 := fun e => by unfold unF; rw [e, if_pos (by decide)]
    have KV := Kept.mk hv
    have KP := Kept.mk hp
    have KU4 := Kept.mk hu4
    have KHH := Kept.mk hh
    clear hh hc hv hp hv2 hv3 hu4
    generalize p.getD 0 0 = x at *
    generalize p.getD 1 0 = y at *
    obtain ⟨hx0, hx256⟩ := hb0
    obtain ⟨hy0, hy256⟩ := hb1
    by_cases e1 : x % 16 = 8
    · have f1 : (x % 16 != 8) = false := by simp [e1]
      by_cases e2 : 128 ≤ x
      · rw [KU4.out (by rw [KHH.out, if_pos (by omega)])]
        go_enter Tryd.func21, Tryd.ntmps21
        go_wp2
        go_quiet (fail)
        go_wp2
        go_ret3
        exact ⟨rfl, below_drewN (Below.refl _ _) _⟩
      · have f2 : decide (128 ≤ x) = false := decide_eq_false e2
        by_cases e3 : (256 * x + y) % 31 = 0
        · have f3 : ((256 * x + y) % 31 != 0) = false := by simp [e3]
          by_cases e4 : y / 32 % 2 = 1
          · rw [KU4.out (by rw [KHH.out, if_pos (by omega)])]
            have f4 : (y / 32 % 2 == 1) = true := by simp [e4]
            go_enter Tryd.func21, Tryd.ntmps21
            go_wp2
            go_quiet (fail)
            go_wp2
            go_ret3
            exact ⟨rfl, below_drewN (Below.refl _ _) _⟩
          · have hd0 : hdF p = 0 := by rw [KHH.out, if_neg (by omega)]
            have KD0 := Kept.mk hd0
            have f4 : (y / 32 % 2 == 1) = false := by simp [e4]
            have hx0 : (2 : Int) ≤ (p.length : Int) := by omega
            have hx1 : (2 : Int) ≤ (vc : Int) := by omega
            have hx2 : (p.length : Int) ≤ (vc : Int) := by omega
            clear hd0
            by_cases hc2 : vc = 2
            · subst hc2
              have hd : p.drop 2 = [] := List.eq_nil_of_length_eq_zero (by simp; omega)
              have hu : unF p most = .error 5 := by
                unfold unF
                rw [if_neg (by rw [KD0.out]; simp), hd, infl_nil]
                rfl
              rw [hu]
              clear hu hd
              go_enter Tryd.func21, Tryd.ntmps21
              go_wp2
              go_quiet (fail)
              have KB1 := Kept.mk (below_drewN (Below.refl w.heap.size w) nq)
              have CI := Kept.mk (docInflate_any (.slice (some ⟨b, off, none⟩) 0 0) [] most (w.drewN nq) (Rd.empty (S := anyB) (by unfold maxLen; omega)) AllIn.nil (by simp) hm)
              rw [infl_nil] at CI
              go_wp2_with fail
              refine Calls.mono CI.out (fun e w2 hp => ?_)
              obtain ⟨rfl, hb2⟩ := hp
              have KB2 := Kept.mk (KB1.out.trans (hb2.mono KB1.out.size))
              clear hb2
              go_wp2
              go_ret3
              exact ⟨rfl, KB2.out⟩
            · rcases hq : inflF (p.drop 2) most with ⟨o, t⟩ | er
              · have hn := inflF_n hq
                obtain ⟨n, hnn⟩ : ∃ n, (t + 7) / 8 = n := ⟨_, rfl⟩
                rw [hnn] at hn
                simp only [List.length_drop] at hn
                have hu : unF p most = if smF (p.drop (2 + n)) (adlF o) ≠ 0 then .error (smF (p.drop (2 + n)) (adlF o)) else .ok (o, 2 + n + 4) := by
                  unfold unF
                  rw [if_neg (by rw [KD0.out]; simp), hq]
                  dsimp only
                  rw [hnn]
                rw [hu]
                obtain ⟨hn1, hn2⟩ := hn
                have hy3 : (n : Int) ≤ 1000000 := by omega
                have KQ := Kept.mk hq
                have KNN := Kept.mk hnn
                clear hu hq hnn
                by_cases hsh : p.length < n + 6
                · have hs5 : smF (p.drop (2 + n)) (adlF o) = 5 := by
                    unfold smF
                    rw [if_pos (by simp; omega)]
                  rw [hs5, if_pos (by decide)]
                  have hshi : (p.length : Int) < (n : Int) + 6 := by omega
                  clear hs5
                  go_enter Tryd.func21, Tryd.ntmps21
                  go_wp2
                  go_quiet (fail)
                  have KB1 := Kept.mk (below_drewN (Below.refl w.heap.size w) nq)
                  have CI := Kept.mk (docInflate_any _ (p.drop 2) most (w.drewN nq) ((KV.out.dropAt 2 (by omega)).later KB1.out (Nat.le_refl _)) (KP.out.drop 2) (by simp; omega) hm)
                  rw [KQ.out] at CI
                  go_wp2_with fail
                  refine Calls.mono CI.out (fun e w2 hp => ?_)
                  obtain ⟨ov, rfl, -, -, -, hb2⟩ := hp
                  rw [KNN.out]
                  have KB2 := Kept.mk (KB1.out.trans (hb2.mono KB1.out.size))
                  clear hb2 CI
                  go_wp2
                  go_ret3
                  exact ⟨rfl, KB2.out⟩
                · have hshi : ¬ (p.length : Int) < (n : Int) + 6 := by omega
                  obtain ⟨s, hs⟩ : ∃ s, adlF o = s := ⟨_, rfl⟩
                  have hsr := adlF_range o
                  rw [hs] at hsr ⊢
                  obtain ⟨hs0, hs1⟩ := hsr
                  have KS := Kept.mk hs
                  clear hs
                  obtain ⟨r, hr⟩ : ∃ r, smF (p.drop (2 + n)) s = r := ⟨_, rfl⟩
                  rw [hr]
                  have KR := Kept.mk (sm_bytes (by omega) hr)
                  clear hr
                  go_enter Tryd.func21, Tryd.ntmps21
                  go_wp2
                  go_quiet (fail)
                  have KB1 := Kept.mk (below_drewN (Below.refl w.heap.size w) nq)
                  have CI := Kept.mk (docInflate_any _ (p.drop 2) most (w.drewN nq) ((KV.out.dropAt 2 (by omega)).later KB1.out (Nat.le_refl _)) (KP.out.drop 2) (by simp; omega) hm)
                  rw [KQ.out] at CI
                  go_wp2_with fail
                  refine Calls.mono CI.out (fun e w2 hp => ?_)
                  obtain ⟨ov, rfl, ho2, hao, -, hb2⟩ := hp
                  rw [KNN.out]
                  have KB2 := Kept.mk (KB1.out.trans (hb2.mono KB1.out.size))
                  have CA := Kept.mk (radler_any w2 ov o hao ho2.rd)
                  rw [KS.out] at CA
                  have KO2 := Kept.mk ho2
                  have KAO := Kept.mk hao
                  clear hb2 CI ho2 hao
                  go_wp2_with fail
                  refine Calls.mono CA.out (fun e w3 hp => ?_)
                  obtain ⟨rfl, hw3⟩ := hp
                  subst hw3
                  have hcl : ∀ i, i < p.length → w3.cell? ⟨b, off + i, none⟩ = some (.int .u8 (p.getD i 0)) := by
                    obtain ⟨b', off', c', hvv', -, hc'⟩ := (KV.out.later KB2.out (Nat.le_refl _)).two (by omega)
                    injection hvv' with h1 h2 h3
                    injection h1 with h1
                    injection h1 with h1 h4
                    subst h1 h4
                    exact hc'
                  have KCL := Kept.mk hcl
                  clear hcl c0 c1 f1 f2 f3 f4 e1 e2 e3 e4
                  go_wp2_with fail
                  go_loopw [11] (fun s11 wr => ∃ k : Nat, k ≤ 4 ∧ s11 = .int .i64 k ∧ (∀ i, i < k → p.getD (n + 2 + i) 0 = s / 2 ^ (24 - 8 * i) % 256) ∧ ∃ m, wr = w3.drewN m) (fun s11 _ => 4 - (intOf s11).toNat)
                  case atStart => exact ⟨0, by omega, rfl, fun i hi => by omega, 0, rfl⟩
                  case round =>
                    obtain ⟨k, hk, rfl, hinv, m, rfl⟩ := hrel
                    have KIN := Kept.mk hinv
                    clear hinv
                    by_cases hk4 : k < 4
                    · have hki : (k : Int) < 4 := by omega
                      have hti : ((n : Int) + 2 + (k : Int)).toNat = n + 2 + k := by omega
                      have hz : 0 ≤ (n : Int) + 2 + (k : Int) := by omega
                      have hlt : (n : Int) + 2 + (k : Int) < (p.length : Int) := by omega
                      have hw1 : IntKind.i64.wrap ((n : Int) + 2) = (n : Int) + 2 := wrap_small _ (by omega) (by omega)
                      have hw2 : IntKind.i64.wrap ((n : Int) + 2 + (k : Int)) = (n : Int) + 2 + (k : Int) := wrap_small _ (by omega) (by omega)
                      have hw3 : IntKind.i64.wrap (8 * (k : Int)) = 8 * (k : Int) := wrap_small _ (by omega) (by omega)
                      have hw4 : IntKind.i64.wrap (24 - 8 * (k : Int)) = 24 - 8 * (k : Int) := wrap_small _ (by omega) (by omega)
                      have hsh : 0 ≤ 24 - 8 * (k : Int) := by omega
                      have hst : (24 - 8 * (k : Int)).toNat = 24 - 8 * k := by omega
                      have ck : w3.cell? ⟨b, off + (n + 2 + k), none⟩ = some (.int .u8 (p.getD (n + 2 + k) 0)) := KCL.out (n + 2 + k) (by omega)
                      have hzr := KP.out.getD (by omega) (n + 2 + k)
                      obtain ⟨z, hzz⟩ : ∃ z, p.getD (n + 2 + k) 0 = z := ⟨_, rfl⟩
                      rw [hzz] at ck hzr
                      have KZ := Kept.mk hzz
                      clear hzz
                      by_cases hzb : z = s / 2 ^ (24 - 8 * k) % 256
                      · go_wp2
                        go_quiet (fail)
                        go_wp2
                        go_roundw
                        case rel =>
                          refine ⟨k + 1, by omega, by go_num, fun i hi => ?_, m + nq, by first | rfl | rw [World.drewN_drewN]⟩
                          by_cases hik : i < k
                          · exact KIN.out i hik
                          · obtain rfl : i = k := by omega
                            exact KZ.out.trans hzb
                        case measure => simp [intOf]; omega
                      · have hr6 : r = 6 := (KR.out hs0 hs1 KP.out).2 k hk4 (by rw [KZ.out]; exact hzb)
                        have fb : (z != s / 2 ^ (24 - 8 * k) % 256) = true := by simpa using hzb
                        subst hr6
                        go_wp2
                        go_quiet (fail)
                        have KB3 := Kept.mk (below_drewN KB2.out (m + nq))
                        go_wp2
                        go_ret3
                        exact ⟨rfl, KB3.out⟩
                    · have hki : ¬ (k : Int) < 4 := by omega
                      have hr0 : r = 0 := (KR.out hs0 hs1 KP.out).1 (fun i hi => KIN.out i (by omega))
                      subst hr0
                      have KB3 := Kept.mk (below_drewN KB2.out m)
                      have KO3 := Kept.mk (KO2.out.later (below_drewN (Below.refl _ w3) m) (Nat.le_refl _))
                      go_wp2
                      go_ret3
                      have hcast : ((2 + n + 4 : Nat) : Int) = (n : Int) + 6 := by omega
                      exact ⟨_, by rw [hcast]; rfl, KO3.out, KAO.out, KB3.out⟩
              · have hu : unF p most = .error er.v := by
                  unfold unF
                  rw [if_neg (by rw [KD0.out]; simp), hq]
                rw [hu]
                have her := er.rng
                have hne : ¬ er.v = 0 := by omega
                have KQ := Kept.mk hq
                clear hu hq her
                go_enter Tryd.func21, Tryd.ntmps21
                go_wp2
                go_quiet (fail)
                have KB1 := Kept.mk (below_drewN (Below.refl w.heap.size w) nq)
                have CI := Kept.mk (docInflate_any _ (p.drop 2) most (w.drewN nq) ((KV.out.dropAt 2 (by omega)).later KB1.out (Nat.le_refl _)) (KP.out.drop 2) (by simp; omega) hm)
                rw [KQ.out] at CI
                go_wp2_with fail
                refine Calls.mono CI.out (fun e w2 hp => ?_)
                obtain ⟨rfl, hb2⟩ := hp
                have KB2 := Kept.mk (KB1.out.trans (hb2.mono KB1.out.size))
                clear hb2
                go_wp2
                go_ret3
                exact ⟨rfl, KB2.out⟩
        · rw [KU4.out (by rw [KHH.out, if_pos (by omega)])]
          have f3 : ((256 * x + y) % 31 != 0) = true := by simp [e3]
          go_enter Tryd.func21, Tryd.ntmps21
          go_wp2
          go_quiet (fail)
          go_wp2
          go_ret3
          exact ⟨rfl, below_drewN (Below.refl _ _) _⟩
    · rw [KU4.out (by rw [KHH.out, if_pos (by omega)])]
      have f1 : (x % 16 != 8) = true := by simp [e1]
      go_enter Tryd.func21, Tryd.ntmps21
      go_wp2
      go_quiet (fail)
      go_wp2
      go_ret3
      exact ⟨rfl, below_drewN (Below.refl _ _) _⟩
end Go.Proofs.YtjijkcmbbccfmaaDoor
