/-
  The plain mathematics of streams: where they end.
-/
import Derived.Test.YtjijkcmbbccfmaaDoorP2
import Derived.Test.YtjijkcmbbccfmaaDoorZ1
import Derived.Test.YtjijkcmbbccfmaaDoorI2
namespace Go.Proofs.YtjijkcmbbccfmaaDoor

theorem storedGo_le (p : List Int) (M : Nat) : ∀ (n : Nat) (out : List Int) (t : Nat) (o : List Int) (t' : Nat), t ≤ 8 * p.length → storedGo p M n out t = .ok o t' → t' ≤ 8 * p.length
  | 0, out, t, o, t', ht, h => by rw [storedGo] at h; cases h; omega
  | n + 1, out, t, o, t', ht, h => by
    rw [storedGo] at h
    rcases h1 : numF p 8 t with ⟨a, t1⟩ | er
    · rw [h1] at h
      dsimp only at h
      have := numF_ok h1
      split at h
      · cases h
      · exact storedGo_le p M n _ _ _ _ (by omega) h
    · rw [h1] at h; cases h
theorem wayF_le {p : List Int} {M : Nat} {y : Int} {out o : List Int} {t t' : Nat} (h : wayF p M y out t = .ok o t') : t' ≤ 8 * p.length := by
  unfold wayF at h
  split at h
  · unfold storedF at h
    rcases h1 : numF p 16 ((t + 7) / 8 * 8) with ⟨a, t1⟩ | er
    · rw [h1] at h
      dsimp only at h
      rcases h2 : numF p 16 t1 with ⟨b, t2⟩ | er
      · rw [h2] at h
        dsimp only at h
        have := numF_ok h2
        split at h
        · exact storedGo_le p M _ _ _ _ _ (by omega) h
        · cases h
      · rw [h2] at h; cases h
    · rw [h1] at h; cases h
  · split at h
    · exact (blockF_ok okL okD _ _ _ _ _ h).2.1
    · split at h
      · rcases h1 : toldF p t with ⟨⟨c, d⟩, t1⟩ | er
        · rw [h1] at h
          dsimp only at h
          obtain ⟨x1, x2, x3, x4⟩ := toldF_ok h1
          exact (blockF_ok x1 x2 _ _ _ _ _ h).2.1
        · rw [h1] at h; cases h
      · cases h
theorem streamF_le {p : List Int} {M : Nat} : ∀ (f : Nat) (out : List Int) (t : Nat) (o : List Int) (t' : Nat), streamF p M f out t = .ok o t' → t' ≤ 8 * p.length
  | 0, _, _, _, _, h => by rw [streamF] at h; cases h
  | f + 1, out, t, o, t', h => by
    rw [streamF] at h
    rcases h1 : headF p t with ⟨⟨l, y⟩, t1⟩ | er
    · rw [h1] at h
      dsimp only at h
      rcases h2 : wayF p M y out t1 with ⟨o2, t2⟩ | er
      · rw [h2] at h
        dsimp only at h
        split at h
        · exact streamF_le f _ _ _ _ h
        · cases h
          exact wayF_le h2
      · rw [h2] at h; cases h
    · rw [h1] at h; cases h
section
variable {p o : List Int} {M t : Nat}
theorem inflF_n (h : inflF p M = .ok o t) : 1 ≤ (t + 7) / 8 ∧ (t + 7) / 8 ≤ p.length := by
  have h1 := streamF_ok _ _ _ _ _ h
  have h2 := streamF_le _ _ _ _ _ h
  omega
theorem inflF_len (h : inflF p M = .ok o t) : o.length ≤ M := by
  have h2 := streamF_le _ _ _ _ _ h
  rcases Nat.lt_or_ge M o.length with hl | hl
  · have hc := (streamF_cut (p := p) (q := p) (B := 8 * p.length) (L := M) (M := M) ⟨fun _ _ => rfl, Nat.le_refl _⟩ (8 * p.length + 1) (8 * p.length + 1) [] 0 (by omega) (by simp) (by omega) o t h).2.1 h2 hl
    have h' : streamF p M (8 * p.length + 1) [] 0 = .ok o t := h
    rw [h'] at hc
    cases hc
  · exact hl
theorem agr_take (n : Nat) (hn : n ≤ p.length) (more : List Int) : Agr p (p.take n ++ more) (8 * n) := by
  refine ⟨fun i hi => ?_, by simp; omega⟩
  unfold bitF
  congr 2
  have h1 : i / 8 < n := by omega
  simp only [List.getD, List.getElem?_append, List.length_take, List.getElem?_take]
  rw [if_pos (by omega), if_pos h1]
/-- What stands behind a stream makes no difference. -/
theorem ends_more (h : inflF p M = .ok o t) (more : List Int) : inflF (p.take ((t + 7) / 8) ++ more) o.length = .ok o t := by
  have hn := inflF_n h
  exact (streamF_cut (L := o.length) (agr_take ((t + 7) / 8) hn.2 more) (8 * p.length + 1) _ [] 0 (by omega) (by simp) (by omega) o t h).1 (by omega) (Nat.le_refl _)
/-- With fewer bytes it is too short. -/
theorem ends_short (h : inflF p M = .ok o t) (k : Nat) (hk : k < (t + 7) / 8) : inflF (p.take k) M = .bad .short := by
  have hn := inflF_n h
  have hl := inflF_len h
  have ha := agr_take (p := p) k (by omega) []
  rw [List.append_nil] at ha
  exact (streamF_cut (L := M) ha (8 * p.length + 1) _ [] 0 (by omega) (by simp) (by omega) o t h).2.2 (by simp; omega) (by omega) hl
/-- With too little room it is refused. -/
theorem ends_limit (h : inflF p M = .ok o t) (L : Nat) (hL : L < o.length) : inflF (p.take ((t + 7) / 8)) L = .bad .limit := by
  have hn := inflF_n h
  have ha := agr_take (p := p) ((t + 7) / 8) hn.2 []
  rw [List.append_nil] at ha
  exact (streamF_cut (L := L) ha (8 * p.length + 1) _ [] 0 (by omega) (by simp) (by omega) o t h).2.1 (by omega) hL
end

open Go.RowKit

/-- What Unwrap answers. -/
def unF (p : List Int) (most : Nat) : Except Int (List Int × Nat) :=
  if hdF p ≠ 0 then .error (hdF p) else
  match inflF (p.drop 2) most with
  | .bad er => .error er.v
  | .ok o t => if smF (p.drop (2 + (t + 7) / 8)) (adlF o) ≠ 0 then .error (smF (p.drop (2 + (t + 7) / 8)) (adlF o)) else .ok (o, 2 + (t + 7) / 8 + 4)
def AfterU (w w' : World) (r : Except Int (List Int × Nat)) (e : Ending) : Prop :=
  match r with
  | .ok (o, n) => ∃ v, e = .returned (.tuple #[v, .int .i64 n, .int .i64 0]) ∧ Own .u8 5 w' w.heap.size v o ∧ AllB o ∧ Below w.heap.size w w'
  | .error c => e = .returned (.tuple #[.slice none 0 0, .int .i64 0, .int .i64 c]) ∧ Below w.heap.size w w'
theorem hdF_two {p : List Int} (h : hdF p = 0) : 2 ≤ p.length := by
  unfold hdF at h
  by_cases h2 : p.length < 2
  · rw [if_pos h2] at h
    cases h
  · omega
theorem infl_nil (most : Nat) : inflF [] most = .bad .short := rfl
theorem Rd.empty {k : IntKind} {S : Nat → Prop} {w : World} {b off c : Nat} (hc : c ≤ maxLen) : Rd k S w (.slice (some ⟨b, off, none⟩) 0 c) [] :=
  ⟨some ⟨b, off, none⟩, c, rfl, Nat.zero_le _, hc, (fun e => by cases e), fun h => by simp at h⟩

set_option maxHeartbeats 1000000 in
set_option maxRecDepth 100000 in
theorem unwrap_arg {v : Value} (w : World) (most : Int) (h : most < 0 ∨ 1048576 < most) :
    Calls Tryd.prog 16 #[v, .int .i64 most] w fun e w' => e = .returned (.tuple #[.slice none 0 0, .int .i64 0, .int .i64 1]) ∧ w' = w := by
  by_cases h0 : most < 0
  · clear h
    go_enter Tryd.func16, Tryd.ntmps16
    go_wp2
    go_ret3
    exact ⟨rfl, rfl⟩
  · have h1 : 1048576 < most := by omega
    clear h
    go_enter Tryd.func16, Tryd.ntmps16
    go_wp2
    go_ret3
    exact ⟨rfl, rfl⟩

set_option maxHeartbeats 400000 in
set_option maxRecDepth 100000 in
theorem unwrap_any {S : Nat → Prop} (v : Value) (p : List Int) (most : Nat) (w : World) (hT : Tab w) (hv : Rd .u8 S w v p) (hp : AllB p) (hl : p.length ≤ 1000000) (hm : most ≤ 1048576) :
    Calls Tryd.prog 16 #[v, .int .i64 most] w fun e w' => AfterU w w' (unF p most) e := by
  have hm0 : ¬ (most : Int) < 0 := by omega
  have hm1 : ¬ (1048576 : Int) < (most : Int) := by omega
  obtain ⟨va, vc, rfl, -, hlc, hcm⟩ := hv.form
  have KH := Kept.mk (checkHead_any w _ p hp hv)
  have KV := Kept.mk hv
  have KP := Kept.mk hp
  have KT := Kept.mk hT
  clear hv hp hT
  by_cases hh : hdF p = 0
  · have h2 := hdF_two hh
    obtain ⟨b, off, c, hvv, -, -⟩ := KV.out.two (by omega)
    injection hvv with hv1 hv2 hv3
    subst hv1 hv3
    have KHH := Kept.mk hh
    rw [hh] at KH
    clear hv2 hh
    have hx0 : (2 : Int) ≤ (p.length : Int) := by omega
    have hx1 : (2 : Int) ≤ (vc : Int) := by omega
    have hx2 : (p.length : Int) ≤ (vc : Int) := by omega
    by_cases hc2 : vc = 2
    · subst hc2
      have hp2 : p.length = 2 := by omega
      have hd : p.drop 2 = [] := List.eq_nil_of_length_eq_zero (by simp; omega)
      have hu : unF p most = .error 5 := by
        unfold unF
        rw [if_neg (by rw [KHH.out]; simp), hd, infl_nil]
        rfl
      rw [hu]
      have KL0 : Kept (p.length - 2 = 0) := ⟨by omega⟩
      clear hu hd hp2
      go_enter Tryd.func16, Tryd.ntmps16
      go_wp2_with fail
      refine Calls.mono KH.out (fun e w1 hp => ?_)
      obtain ⟨rfl, hb1⟩ := hp
      have KB1 := Kept.mk hb1
      clear hb1
      have CI := Kept.mk (inflate_any (.slice (some ⟨b, off, none⟩) 0 0) [] most w1 (KT.out.far KB1.out) (Rd.empty (S := anyB) (by unfold maxLen; omega)) AllIn.nil (by simp) hm)
      rw [infl_nil] at CI
      go_wp2_with fail
      refine Calls.mono CI.out (fun e w2 hp => ?_)
      obtain ⟨rfl, hb2⟩ := hp
      have KB2 := Kept.mk (KB1.out.trans (hb2.mono KB1.out.size))
      clear hb2
      go_wp2
      go_ret3
      exact ⟨rfl, KB2.out⟩
    · rcases hq : inflF (p.drop 2) most with ⟨o, t⟩ | er
      · have hn := inflF_n hq
        obtain ⟨n, hnn⟩ : ∃ n, (t + 7) / 8 = n := ⟨_, rfl⟩
        rw [hnn] at hn
        simp only [List.length_drop] at hn
        have hu : unF p most = if smF (p.drop (2 + n)) (adlF o) ≠ 0 then .error (smF (p.drop (2 + n)) (adlF o)) else .ok (o, 2 + n + 4) := by
          unfold unF
          rw [if_neg (by rw [KHH.out]; simp), hq]
          dsimp only
          rw [hnn]
        have KU := Kept.mk hu
        rw [hu]
        obtain ⟨hn1, hn2⟩ := hn
        have hy1 : (2 : Int) + (n : Int) ≤ (p.length : Int) := by omega
        have hy2 : (2 : Int) + (n : Int) ≤ (vc : Int) := by omega
        have hy3 : (n : Int) ≤ 1000000 := by omega
        have KQ := Kept.mk hq
        have KNN := Kept.mk hnn
        clear hu hq hnn
        have hsm : ∃ x, smF (p.drop (2 + n)) (adlF o) = x := ⟨_, rfl⟩
        obtain ⟨x, hx⟩ := hsm
        rw [hx]
        have KX := Kept.mk hx
        clear hx
        go_enter Tryd.func16, Tryd.ntmps16
        go_wp2_with fail
        refine Calls.mono KH.out (fun e w1 hp => ?_)
        obtain ⟨rfl, hb1⟩ := hp
        have KB1 := Kept.mk hb1
        clear hb1
        have CI := Kept.mk (inflate_any _ (p.drop 2) most w1 (KT.out.far KB1.out) ((KV.out.dropAt 2 h2).later KB1.out (Nat.le_refl _)) (KP.out.drop 2) (by simp; omega) hm)
        rw [KQ.out] at CI
        go_wp2_with fail
        refine Calls.mono CI.out (fun e w2 hp => ?_)
        obtain ⟨ov, rfl, ho2, hao, -, hb2⟩ := hp
        rw [KNN.out]
        have KB2 := Kept.mk (KB1.out.trans (hb2.mono KB1.out.size))
        have KO2 := Kept.mk ho2
        have KAO := Kept.mk hao
        have CA := Kept.mk (adler_any (w2.drewN 1) ov o hao (ho2.rd.later (below_drewN (Below.refl _ w2) 1) (Nat.le_refl _)))
        have KVD := Kept.mk ((KV.out.later KB2.out (Nat.le_refl _)).later (below_drewN (Below.refl _ w2) 1) (Nat.le_refl _))
        clear ho2 hao hb2 CI
        have htn : (2 + (n : Int)).toNat = 2 + n := by omega
        have hz0 : (0 : Int) ≤ 2 + (n : Int) := by omega
        by_cases hcE : vc = 2 + n
        · subst hcE
          have hd0 : p.drop (2 + n) = [] := List.eq_nil_of_length_eq_zero (by simp; omega)
          have CS := Kept.mk (checkSum_any (w2.drewN 1) (.slice (some ⟨b, off, none⟩) 0 0) (p.drop (2 + n)) (adlF o) (KP.out.drop _) (by rw [hd0]; exact Rd.empty (S := anyB) (by unfold maxLen; omega)))
          rw [KX.out] at CS
          clear hd0
          go_upto_region 10 with fail
          refine wp_region_noPanic (wp_region_any (by kernel_rfl) ?_)
          show wpAny _ _ _ _ _ _ _ (w2.drewN 1)
          refine wpAny_take (i := 0) (v := .slice (some ⟨b, off, none⟩) p.length (2 + n)) rfl (by kernel_rfl) (by kernel_rfl) (by kernel_rfl) (fun _ _ _ h => h) (Or.inl ⟨rfl, fun W => by rfl⟩) ?_
          simp only [Act.put]
          refine wpAny_take (i := 1) (v := .int .i64 (2 + (n : Int))) rfl (by kernel_rfl) (by kernel_rfl) (by kernel_rfl) (fun _ _ _ h => h) (Or.inl ⟨rfl, fun W => by rfl⟩) ?_
          simp only [Act.put]
          refine wpAny_take (i := 2) (v := .slice (some ⟨b, off, none⟩) (p.length - (2 + n)) 0) rfl (by kernel_rfl) (by kernel_rfl) (by kernel_rfl) (fun _ _ _ h => h) (Or.inl ⟨rfl, fun W => by go_simp⟩) ?_
          simp only [Act.put]
          refine wpAny_take (i := 3) (v := ov) rfl (by kernel_rfl) (by kernel_rfl) (by kernel_rfl) (fun _ _ _ h => h) (Or.inl ⟨rfl, fun W => by rfl⟩) ?_
          simp only [Act.put]
          refine wpAny_one (i := 4) (by kernel_rfl) rfl rfl (fun K hK => ?_)
          go_simp
          refine Calls.mono CA.out (fun e w3 hp => ?_)
          obtain ⟨rfl, hw3⟩ := hp
          subst hw3
          refine hK _ _ ?_
          clear hK K
          refine wpAny_one (i := 5) (by kernel_rfl) rfl rfl (fun K hK => ?_)
          go_simp
          refine Calls.mono CS.out (fun e w4 hp => ?_)
          obtain ⟨rfl, hb4⟩ := hp
          refine hK _ _ ?_
          clear hK K
          have KB4 := Kept.mk (KB2.out.trans ((below_drewN (Below.refl _ _) 1).trans hb4 |>.mono KB2.out.size))
          have KO4 := Kept.mk (KO2.out.later ((below_drewN (Below.refl _ _) 1).trans hb4) (Nat.le_refl _))
          clear hb4
          refine wpAny_one (i := 6) (by kernel_rfl) rfl rfl (fun K hK => ?_)
          go_simp
          refine hK _ _ ?_
          clear hK K
          refine wpAny_done (by kernel_rfl) (NoPanic.normal ?_) _
          by_cases hx00 : x = 0
          · subst hx00
            go_wp2
            go_ret3
            have hcast : ((2 + n + 4 : Nat) : Int) = 2 + (n : Int) + 4 := by omega
            exact ⟨_, by rw [hcast]; rfl, KO4.out.mono KB1.out.size, KAO.out, KB4.out⟩
          · go_wp2
            go_ret3
            exact ⟨rfl, KB4.out⟩
        · have hcEi : ¬ (vc : Int) = 2 + (n : Int) := by omega
          have CS := Kept.mk (checkSum_any (w2.drewN 1) _ (p.drop (2 + n)) (adlF o) (KP.out.drop _) (KVD.out.dropAt (2 + n) (by omega)))
          rw [KX.out] at CS
          go_upto_region 10 with fail
          refine wp_region_noPanic (wp_region_any (by kernel_rfl) ?_)
          show wpAny _ _ _ _ _ _ _ (w2.drewN 1)
          refine wpAny_take (i := 0) (v := .slice (some ⟨b, off, none⟩) p.length vc) rfl (by kernel_rfl) (by kernel_rfl) (by kernel_rfl) (fun _ _ _ h => h) (Or.inl ⟨rfl, fun W => by rfl⟩) ?_
          simp only [Act.put]
          refine wpAny_take (i := 1) (v := .int .i64 (2 + (n : Int))) rfl (by kernel_rfl) (by kernel_rfl) (by kernel_rfl) (fun _ _ _ h => h) (Or.inl ⟨rfl, fun W => by rfl⟩) ?_
          simp only [Act.put]
          refine wpAny_take (i := 2) (v := .slice (some ⟨b, off + (2 + n), none⟩) (p.length - (2 + n)) (vc - (2 + n))) rfl (by kernel_rfl) (by kernel_rfl) (by kernel_rfl) (fun _ _ _ h => h) (Or.inl ⟨rfl, fun W => by go_simp⟩) ?_
          simp only [Act.put]
          refine wpAny_take (i := 3) (v := ov) rfl (by kernel_rfl) (by kernel_rfl) (by kernel_rfl) (fun _ _ _ h => h) (Or.inl ⟨rfl, fun W => by rfl⟩) ?_
          simp only [Act.put]
          refine wpAny_one (i := 4) (by kernel_rfl) rfl rfl (fun K hK => ?_)
          go_simp
          refine Calls.mono CA.out (fun e w3 hp => ?_)
          obtain ⟨rfl, hw3⟩ := hp
          subst hw3
          refine hK _ _ ?_
          clear hK K
          refine wpAny_one (i := 5) (by kernel_rfl) rfl rfl (fun K hK => ?_)
          go_simp
          refine Calls.mono CS.out (fun e w4 hp => ?_)
          obtain ⟨rfl, hb4⟩ := hp
          refine hK _ _ ?_
          clear hK K
          have KB4 := Kept.mk (KB2.out.trans ((below_drewN (Below.refl _ _) 1).trans hb4 |>.mono KB2.out.size))
          have KO4 := Kept.mk (KO2.out.later ((below_drewN (Below.refl _ _) 1).trans hb4) (Nat.le_refl _))
          clear hb4
          refine wpAny_one (i := 6) (by kernel_rfl) rfl rfl (fun K hK => ?_)
          go_simp
          refine hK _ _ ?_
          clear hK K
          refine wpAny_done (by kernel_rfl) (NoPanic.normal ?_) _
          by_cases hx00 : x = 0
          · subst hx00
            go_wp2
            go_ret3
            have hcast : ((2 + n + 4 : Nat) : Int) = 2 + (n : Int) + 4 := by omega
            exact ⟨_, by rw [hcast]; rfl, KO4.out.mono KB1.out.size, KAO.out, KB4.out⟩
          · go_wp2
            go_ret3
            exact ⟨rfl, KB4.out⟩
      · have hu : unF p most = .error er.v := by
          unfold unF
          rw [if_neg (by rw [KHH.out]; simp), hq]
        rw [hu]
        have her := er.rng
        have hne : ¬ er.v = 0 := by omega
        have KQ := Kept.mk hq
        clear hu hq her
        go_enter Tryd.func16, Tryd.ntmps16
        go_wp2_with fail
        refine Calls.mono KH.out (fun e w1 hp => ?_)
        obtain ⟨rfl, hb1⟩ := hp
        have KB1 := Kept.mk hb1
        clear hb1
        have CI := Kept.mk (inflate_any _ (p.drop 2) most w1 (KT.out.far KB1.out) ((KV.out.dropAt 2 h2).later KB1.out (Nat.le_refl _)) (KP.out.drop 2) (by simp; omega) hm)
        rw [KQ.out] at CI
        go_wp2_with fail
        refine Calls.mono CI.out (fun e w2 hp => ?_)
        obtain ⟨rfl, hb2⟩ := hp
        have KB2 := Kept.mk (KB1.out.trans (hb2.mono KB1.out.size))
        clear hb2
        go_wp2
        go_ret3
        exact ⟨rfl, KB2.out⟩
  · have hu : unF p most = .error (hdF p) := by unfold unF; rw [if_pos hh]
    rw [hu]
    clear hu
    generalize hdF p = x at *
    go_enter Tryd.func16, Tryd.ntmps16
    go_wp2_with fail
    refine Calls.mono KH.out (fun e w1 hp => ?_)
    obtain ⟨rfl, hb1⟩ := hp
    have KB1 := Kept.mk hb1
    clear hb1
    go_wp2
    go_ret3
    exact ⟨rfl, KB1.out⟩
end Go.Proofs.YtjijkcmbbccfmaaDoor
