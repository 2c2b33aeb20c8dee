/-
  The walk of ZlibBack.
-/
import Derived.Test.YtjijkcmbbccfmaaDoorZW
import Derived.Test.YtjijkcmbbccfmaaDoorZ4
import Derived.Test.YtjijkcmbbccfmaaDoorRT
namespace Go.Proofs.YtjijkcmbbccfmaaDoor
open Go.RowKit

theorem hdF_wr (q : List Int) : hdF ([120, 1] ++ q) = 0 := by
  unfold hdF
  rw [if_neg (by simp), if_neg]
  simp
theorem un_sum {p q : List Int} (way : Int) (ha : AllB p) (hq : AllB q) : unF ([120, 1] ++ dfF p way ++ q) p.length = if smF q (adlF p) ≠ 0 then .error (smF q (adlF p)) else .ok (p, (dfF p way).length + 6) := by
  obtain ⟨t, ht, htl⟩ := infl_df (most := p.length) way ha hq (Nat.le_refl _)
  have hd : ([120, 1] ++ dfF p way ++ q).drop 2 = dfF p way ++ q := by simp
  have hd2 : ([120, 1] ++ dfF p way ++ q).drop (2 + (t + 7) / 8) = q := by
    rw [htl, List.append_assoc, ← List.drop_drop]
    simp
  unfold unF
  rw [List.append_assoc, hdF_wr, if_neg (by simp), ← List.append_assoc, hd, ht]
  simp only
  rw [hd2, htl, show 2 + (dfF p way).length + 4 = (dfF p way).length + 6 from by omega]
theorem sm_ok (p more : List Int) : smF (sumL p ++ more) (adlF p) = 0 := by
  have hA := adlR p
  unfold smF sumL
  rw [if_neg (by simp), if_pos]
  simp only [List.getD, List.cons_append, List.getElem?_cons_zero, List.getElem?_cons_succ, Option.getD_some]
  omega
theorem sm_bad (p : List Int) {j : Nat} (hj : j < 4) {y : Int} (h0 : 0 ≤ y) (h1 : y < 256) (hne : ¬ y = (sumL p).getD j 0) : smF ((sumL p).set j y) (adlF p) = 6 := by
  have hA := adlR p
  rcases (by omega : j = 0 ∨ j = 1 ∨ j = 2 ∨ j = 3) with rfl | rfl | rfl | rfl <;>
    (unfold smF sumL
     unfold sumL at hne
     rw [if_neg (by simp), if_neg]
     simp only [List.getD, List.set_cons_zero, List.set_cons_succ, List.getElem?_cons_zero, List.getElem?_cons_succ, Option.getD_some] at hne ⊢
     omega)
theorem un_back {p more : List Int} (way : Int) (ha : AllB p) (hm : AllB more) : unF (wrF p way ++ more) p.length = .ok (p, (wrF p way).length) := by
  have h := un_sum way ha ((sumL_all p).append hm)
  rw [sm_ok, if_neg (by simp)] at h
  unfold wrF at *
  rw [← List.append_assoc] at h
  rw [h]
  have := wrF_length p way
  unfold wrF at this
  rw [this]
theorem wr_set (p : List Int) (way : Int) {j : Nat} (hj : j < 4) (y : Int) : (wrF p way).set ((dfF p way).length + 2 + j) y = [120, 1] ++ dfF p way ++ (sumL p).set j y := by
  have hl : ([120, 1] ++ dfF p way).length = (dfF p way).length + 2 := by simp
  unfold wrF
  rw [List.set_append_right _ _ (by omega), hl, show (dfF p way).length + 2 + j - ((dfF p way).length + 2) = j from by omega]
theorem wr_get (p : List Int) (way : Int) {j : Nat} (hj : j < 4) : (wrF p way).getD ((dfF p way).length + 2 + j) 0 = (sumL p).getD j 0 := by
  have hl : ([120, 1] ++ dfF p way).length = (dfF p way).length + 2 := by simp
  unfold wrF
  simp only [List.getD]
  rw [List.getElem?_append_right (by omega), hl, show (dfF p way).length + 2 + j - ((dfF p way).length + 2) = j from by omega]
theorem allB_set {xs : List Int} (h : AllB xs) (j : Nat) {y : Int} (h0 : 0 ≤ y) (h1 : y < 256) : AllB (xs.set j y) := by
  intro x hx
  rcases List.mem_or_eq_of_mem_set hx with hx | rfl
  · exact h x hx
  · exact ⟨h0, h1⟩
theorem xor_ne {x b : Int} (h0 : 0 ≤ x) (h1 : x < 256) (b0 : 0 < b) (b1 : b < 256) : ¬ bits .xor .u8 x b = x ∧ 0 ≤ bits .xor .u8 x b ∧ bits .xor .u8 x b < 256 := by
  rw [u8_xor x b h0 h1 (by omega) b1]
  have hlt : x.toNat ^^^ b.toNat < 2 ^ 8 := Nat.xor_lt_two_pow (by omega) (by omega)
  refine ⟨fun e => ?_, by omega, by omega⟩
  have e1 : x.toNat ^^^ b.toNat = x.toNat := by omega
  have e2 : x.toNat ^^^ (x.toNat ^^^ b.toNat) = b.toNat := by rw [← Nat.xor_assoc, Nat.xor_self, Nat.zero_xor]
  rw [e1, Nat.xor_self] at e2
  omega
theorem dfF_two (p : List Int) (way : Int) : 2 ≤ (dfF p way).length := by
  have h1 : 5 ≤ (storedL p).length := by
    by_cases h : 65535 < p.length
    · rw [storedL_more h]
      have : (hdL 0 65535).length = 5 := rfl
      simp only [List.length_append]
      omega
    · rw [storedL_last h]
      have : (hdL 1 p.length).length = 5 := rfl
      simp only [List.length_append]
      omega
  have h2 : 2 ≤ (packF (fixL p)).length := by
    rw [packF_len _ _ (Nat.le_refl _)]
    have h7 : (symL 256).length = 7 := rfl
    have : 10 ≤ (fixL p).length := by
      unfold fixL
      simp only [List.length_append, bitsL_length, h7, List.length_cons, List.length_nil]
      omega
    omega
  unfold dfF
  split
  · omega
  · split <;> omega

def outZ (p more : List Int) (way : Int) : Prop := 3000 < p.length ∨ 100 < more.length ∨ way < 0 ∨ 2 < way

set_option maxHeartbeats 4000000 in
set_option maxRecDepth 100000 in
theorem zback_out (v u : Value) (p more : List Int) (way turn by_ : Int) (w : World) (h : Rd .u8 anyB w v p) (k : Rd .u8 anyB w u more) (ho : outZ p more way) :
    Calls Tryd.prog 5 #[v, u, .int .i64 way, .int .i64 turn, .int .u8 by_] w fun e w' => e = .returned (.bool true) ∧ Below w.heap.size w w' := by
  have KW := Kept.mk (awake_any w)
  obtain ⟨va, vc, rfl, -, -, -⟩ := h.form
  obtain ⟨ua, uc, rfl, -, -, -⟩ := k.form
  clear h k
  by_cases h1 : 3000 < p.length
  · have h1p : (3000 : Int) < (p.length : Int) := by omega
    clear ho
    go_enter Tryd.func5, Tryd.ntmps5
    go_wp2_with fail
    refine Calls.mono KW.out (fun e w1 hp => ?_)
    obtain ⟨rfl, hb1⟩ := hp
    have KB1 := Kept.mk hb1
    clear hb1
    go_wp2
    go_ret
    exact ⟨rfl, KB1.out⟩
  · have h1p : ¬ (3000 : Int) < (p.length : Int) := by omega
    by_cases h2 : 100 < more.length
    · have h2p : (100 : Int) < (more.length : Int) := by omega
      clear ho
      go_enter Tryd.func5, Tryd.ntmps5
      go_wp2_with fail
      refine Calls.mono KW.out (fun e w1 hp => ?_)
      obtain ⟨rfl, hb1⟩ := hp
      have KB1 := Kept.mk hb1
      clear hb1
      go_wp2
      go_ret
      exact ⟨rfl, KB1.out⟩
    · have h2p : ¬ (100 : Int) < (more.length : Int) := by omega
      by_cases h3 : way < 0
      · clear ho
        go_enter Tryd.func5, Tryd.ntmps5
        go_wp2_with fail
        refine Calls.mono KW.out (fun e w1 hp => ?_)
        obtain ⟨rfl, hb1⟩ := hp
        have KB1 := Kept.mk hb1
        clear hb1
        go_wp2
        go_ret
        exact ⟨rfl, KB1.out⟩
      · have h4 : 2 < way := by
          unfold outZ at ho
          omega
        clear ho
        go_enter Tryd.func5, Tryd.ntmps5
        go_wp2_with fail
        refine Calls.mono KW.out (fun e w1 hp => ?_)
        obtain ⟨rfl, hb1⟩ := hp
        have KB1 := Kept.mk hb1
        clear hb1
        go_wp2
        go_ret
        exact ⟨rfl, KB1.out⟩

set_option maxHeartbeats 4000000 in
set_option maxRecDepth 100000 in
theorem zback_walk (v u : Value) (p more : List Int) (way turn by_ : Int) (w : World) (hT : Tab w) (h : Rd .u8 anyB w v p) (k : Rd .u8 anyB w u more) (ha : AllB p) (hm : AllB more) (bt : -9223372036854775808 ≤ turn ∧ turn ≤ 9223372036854775807) (bb : 0 ≤ by_ ∧ by_ ≤ 255) :
    Calls Tryd.prog 5 #[v, u, .int .i64 way, .int .i64 turn, .int .u8 by_] w fun e w' => e = .returned (.bool true) ∧ Below w.heap.size w w' := by
  by_cases ho : outZ p more way
  · exact zback_out v u p more way turn by_ w h k ho
  · unfold outZ at ho
    have hpl : p.length ≤ 3000 := by omega
    have hml : more.length ≤ 100 := by omega
    have hw0 : ¬ way < 0 := by omega
    have hw2 : ¬ 2 < way := by omega
    clear ho
    have KW := Kept.mk (awake_any w)
    obtain ⟨i0, z0, hi, hz, hs, hb0, hc⟩ := info8
    obtain ⟨va, vc, rfl, -, -, -⟩ := h.form
    obtain ⟨ua, uc, rfl, -, -, -⟩ := k.form
    have KH := Kept.mk h
    have KK := Kept.mk k
    have KA := Kept.mk (And.intro ha hm)
    have KT := Kept.mk hT
    have hok : wrpF p way = (wrF p way, 0) := by
      unfold wrpF
      rw [dflF_ok (by omega) (by omega) (by omega)]
      rfl
    have KD : Kept (∀ v2 w2, Rd .u8 anyB w2 v2 p → Calls Tryd.prog 15 #[v2, .int .i64 way] w2 fun e w' => ∃ v', e = .returned (.tuple #[v', .int .i64 0]) ∧ Own .u8 5 w' w2.heap.size v' (wrF p way) ∧ Below w2.heap.size w2 w') := ⟨fun v2 w2 h2 => by
      have d := wrap_any v2 p way w2 h2 ha
      rw [hok] at d
      exact d⟩
    have KI := Kept.mk (un_back way ha hm)
    have hDl := dfF_length (p := p) (by omega) way
    have hD2 := dfF_two p way
    have hWl := wrF_length p way
    have KSa := Kept.mk (wrF_all ha way)
    have KX : Kept (∀ j, j < 4 → ∃ x, (wrF p way).getD ((wrF p way).length - 4 + j) 0 = x ∧ (0 ≤ x ∧ x < 256) ∧ ∀ y, 0 ≤ y → y < 256 → ¬ y = x → unF ((wrF p way).set ((wrF p way).length - 4 + j) y) p.length = .error 6 ∧ AllB ((wrF p way).set ((wrF p way).length - 4 + j) y)) := ⟨fun j hj => by
      have e : (wrF p way).length - 4 + j = (dfF p way).length + 2 + j := by omega
      rw [e, wr_get p way hj]
      refine ⟨_, rfl, (sumL_all p).getD (by omega) j, fun y h0 h1 hne => ⟨?_, allB_set (wrF_all ha way) _ h0 h1⟩⟩
      rw [wr_set p way hj, un_sum way ha (allB_set (sumL_all p) j h0 h1), sm_bad p hj h0 h1 hne]
      rfl⟩
    have hR8 : 8 ≤ (wrF p way).length := by omega
    have hRl : (wrF p way).length ≤ 20000 := by omega
    clear h k ha hm hT hok hDl hD2 hWl
    generalize wrF p way = R at *
    have h1p : ¬ (3000 : Int) < (p.length : Int) := by omega
    have h2p : ¬ (100 : Int) < (more.length : Int) := by omega
    have h8 : ¬ (R.length : Int) < 8 := by omega
    go_enter Tryd.func5, Tryd.ntmps5
    go_wp2_with fail
    refine Calls.mono KW.out (fun e w1 hp => ?_)
    obtain ⟨rfl, hb1⟩ := hp
    have K2 := Kept.mk (twin_any _ p w1 (KH.out.later hb1 (Nat.le_refl _)) (by omega))
    have KB1 := Kept.mk hb1
    clear hb1
    go_wp2_with fail
    refine Calls.mono K2.out (fun e w2 hp => ?_)
    obtain ⟨v2, rfl, ho2, hb2⟩ := hp
    have KB2 := Kept.mk (KB1.out.trans (hb2.mono KB1.out.size))
    have K3 := Kept.mk (KD.out _ w2 ho2.rd.any)
    clear hb2 ho2 K2
    go_wp2_with fail
    refine Calls.mono K3.out (fun e w3 hp => ?_)
    obtain ⟨v3, rfl, ho3, hb3⟩ := hp
    have KB3 := Kept.mk (KB2.out.trans (hb3.mono KB2.out.size))
    obtain ⟨a3, c3, rfl, -, -, -⟩ := ho3.rd.form
    have Ka := Kept.mk ho3
    have K2 := Kept.mk (twin_any _ R w3 ho3.rd (by omega))
    clear hb3 ho3 K3 KD
    go_wp2_with fail
    refine Calls.mono K2.out (fun e w4 hp => ?_)
    obtain ⟨v4, rfl, ho4, hb4⟩ := hp
    have KB4 := Kept.mk (KB3.out.trans (hb4.mono KB3.out.size))
    have KO4 := Kept.mk ho4
    have KR4 := Kept.mk (KK.out.later KB4.out (Nat.le_refl _))
    have hb34 := Kept.mk hb4
    clear hb4 ho4 K2
    go_wp2_with (at_builtin; refine wpList_append_rd _ rfl _ _ 22 rfl .u8 anyB 1 w3.heap.size 5 i0 z0 Tryd.underlying22 hi hz hs hb0 hc (by omega) _ R rfl KO4.out _ more rfl KR4.out (by omega) hb34.out.size ?_; intro v5 w5 o5 g5 hat5; have hb35 := hb34.out.grown g5 hb34.out.size (own_ge KO4.out); have KB5 := Kept.mk (KB3.out.trans (hb35.mono KB3.out.size)); have Ka := Kept.mk (Ka.out.later hb35 (Nat.le_refl _)); have K2 := unwrap_any _ (R ++ more) p.length w5 (KT.out.far KB5.out) o5.rd (KSa.out.append KA.out.2) (by rw [List.length_append]; omega) (by omega); rw [KI.out] at K2; have K2 := Kept.mk K2; clear o5 g5 hat5 hb35)
    refine Calls.mono K2.out (fun e w6 hp => ?_)
    obtain ⟨v6, rfl, ho6, -, hb6⟩ := hp
    have KB6 := Kept.mk (KB5.out.trans (hb6.mono KB5.out.size))
    have Ka := Kept.mk (Ka.out.later hb6 (Nat.le_refl _))
    have S1 := same_any _ _ p p w6 ho6.rd (KH.out.later KB6.out (Nat.le_refl _)) KA.out.1 KA.out.1
    rw [decide_eq_true rfl] at S1
    have S1 := Kept.mk S1
    clear hb6 ho6 K2
    by_cases hby : by_ = 0
    · subst hby
      go_wp2_with fail
      refine Calls.mono S1.out (fun e wx hp => ?_)
      obtain ⟨rfl, rfl⟩ := hp
      go_wp2
      go_ret
      exact ⟨rfl, KB6.out⟩
    · have hbyd : (by_ == 0) = false := by simpa using hby
      by_cases htu : turn < 0
      · go_wp2_with fail
        refine Calls.mono S1.out (fun e wx hp => ?_)
        obtain ⟨rfl, rfl⟩ := hp
        go_wp2
        go_ret
        exact ⟨rfl, KB6.out⟩
      · obtain ⟨r, hr, hr4⟩ : ∃ r : Nat, turn % 4 = (r : Int) ∧ r < 4 := ⟨(turn % 4).toNat, by omega, by omega⟩
        have htm : Int.tmod turn 4 = (r : Int) := by rw [Int.tmod_eq_emod_of_nonneg (by omega)]; exact hr
        obtain ⟨x, hx, hxr, hX⟩ := KX.out (3 - r) (by omega)
        have hxo := xor_ne hxr.1 hxr.2 (b := by_) (by omega) (by omega)
        obtain ⟨g, hg, -, hgge, hglt, hgc, hgf⟩ := Ka.out.addrq (by omega)
        subst hg
        have hcx := hgc (R.length - 4 + (3 - r)) (by omega)
        rw [hx] at hcx
        have hfx := hgf (R.length - 4 + (3 - r))
        have hidx : ((R.length : Int) - 1 - (r : Int)).toNat = R.length - 4 + (3 - r) := by omega
        have hi0 : (0 : Int) ≤ (R.length : Int) - 1 - (r : Int) := by omega
        have hi1 : (R.length : Int) - 1 - (r : Int) < (R.length : Int) := by omega
        have hXY := hX _ hxo.2.1 hxo.2.2 hxo.1
        obtain ⟨y, hy⟩ : ∃ y, bits .xor .u8 x by_ = y := ⟨_, rfl⟩
        rw [hy] at hXY
        have hsw := Ka.out.setq (R.length - 4 + (3 - r)) y
        have hbs := KB6.out.setCell (p := ⟨g, R.length - 4 + (3 - r), none⟩) (by have := KB2.out.size; simp only; omega) (.int .u8 y)
        have KU := unwrap_any _ _ p.length _ (KT.out.far hbs) hsw.rd hXY.2 (by rw [List.length_set]; omega) (by omega)
        rw [hXY.1] at KU
        have KU := Kept.mk KU
        have KBs := Kept.mk hbs
        clear hX hxo hgc hgf hXY hsw hbs KX
        go_wp2_with fail
        refine Calls.mono S1.out (fun e wx hp => ?_)
        obtain ⟨rfl, rfl⟩ := hp
        go_wp2_with fail
        refine Calls.mono KU.out (fun e wx hp => ?_)
        obtain ⟨rfl, hbx⟩ := hp
        go_wp2
        go_ret
        exact ⟨rfl, KBs.out.trans (hbx.mono KBs.out.size)⟩
end Go.Proofs.YtjijkcmbbccfmaaDoor
