/-
  Walks: match.
-/
import Derived.Test.YtjijkcmbbccfmaaDoorR8
import Derived.Deep.CutRange
namespace Go.Proofs.YtjijkcmbbccfmaaDoor
open Go.RowKit

section
variable {W0 w : World} {rb : Nat} {ob : Option Nat} {inV : Value} {p out : List Int} {most t : Nat} {c : Cd} {cv sv : Value}
theorem length_ok {s v : Int} {t' : Nat} (hq : lengthF p s t = .ok v t') (h0 : 257 ≤ s) (h1 : s < 288) (h : Rdr W0 w rb ob inV p most out t) :
    Calls Tryd.prog 74 #[.pointer (some ⟨rb, 0, none⟩), .int .i64 s] w fun e w' => e = .returned (.tuple #[.int .i64 v, .int .i64 0]) ∧ Rdr W0 w' rb ob inV p most out t' ∧ Fr rb ob w w' := by
  have := length_any s h0 h1 h
  rw [hq] at this
  exact this
theorem length_bad {s : Int} {er : Er} (hq : lengthF p s t = .bad er) (h0 : 257 ≤ s) (h1 : s < 288) (h : Rdr W0 w rb ob inV p most out t) :
    Calls Tryd.prog 74 #[.pointer (some ⟨rb, 0, none⟩), .int .i64 s] w fun e w' => e = .returned (.tuple #[.int .i64 0, .int .i64 er.v]) ∧ Below W0.heap.size W0 w' ∧ Fr rb ob w w' := by
  have := length_any s h0 h1 h
  rw [hq] at this
  exact this
theorem distance_ok {v : Int} {t' : Nat} (hq : distF p c t = .ok v t') (hok : CdOk c 32) (hc : CdR rb ob w (.agg #[cv, sv]) c) (h : Rdr W0 w rb ob inV p most out t) :
    Calls Tryd.prog 75 #[.pointer (some ⟨rb, 0, none⟩), .agg #[cv, sv]] w fun e w' => e = .returned (.tuple #[.int .i64 v, .int .i64 0]) ∧ Rdr W0 w' rb ob inV p most out t' ∧ Fr rb ob w w' := by
  have := distance_any hok hc h
  rw [hq] at this
  exact this
theorem distance_bad {er : Er} (hq : distF p c t = .bad er) (hok : CdOk c 32) (hc : CdR rb ob w (.agg #[cv, sv]) c) (h : Rdr W0 w rb ob inV p most out t) :
    Calls Tryd.prog 75 #[.pointer (some ⟨rb, 0, none⟩), .agg #[cv, sv]] w fun e w' => e = .returned (.tuple #[.int .i64 0, .int .i64 er.v]) ∧ Below W0.heap.size W0 w' ∧ Fr rb ob w w' := by
  have := distance_any hok hc h
  rw [hq] at this
  exact this
theorem lengthF_ok {s v : Int} {t' : Nat} (hq : lengthF p s t = .ok v t') (h0 : 257 ≤ s) : 3 ≤ v ∧ v < 1000 ∧ t ≤ t' ∧ (t' ≤ 8 * p.length ∨ t' = t) := by
  unfold lengthF at hq
  split at hq
  · cases hq
  · split at hq
    · cases hq; omega
    · split at hq
      · cases hq; omega
      · rcases hn : numF p ((s - 257) / 4 - 1).toNat t with ⟨l, t1⟩ | er
        · rw [hn] at hq
          obtain ⟨a, b, c, d⟩ := numF_ok hn
          have hp : (2 : Int) ^ ((s - 257) / 4 - 1).toNat ≤ 64 := pow2_le (b := 6) (by omega)
          have hp0 : (0 : Int) < 2 ^ ((s - 257) / 4 - 1).toNat := Int.pow_pos (by omega)
          have hmu : (4 + (s - 257) % 4) * 2 ^ ((s - 257) / 4 - 1).toNat ≤ 7 * 64 := Int.mul_le_mul (by omega) hp (by omega) (by omega)
          have hmu0 : 0 ≤ (4 + (s - 257) % 4) * 2 ^ ((s - 257) / 4 - 1).toNat := Int.mul_nonneg (by omega) (by omega)
          cases hq
          omega
        · rw [hn] at hq; cases hq
theorem distF_ok {v : Int} {t' : Nat} (hok : CdOk c 32) (hq : distF p c t = .ok v t') : 1 ≤ v ∧ v ≤ 32769 ∧ t < t' ∧ t' ≤ 8 * p.length := by
  unfold distF at hq
  rcases hs : symF p c t with ⟨s, t1⟩ | er
  · rw [hs] at hq
    dsimp only at hq
    obtain ⟨s0, s1, s2, s3⟩ := symF_ok hok (by omega) hs
    split at hq
    · cases hq
    · split at hq
      · cases hq; omega
      · rcases hn : numF p (s / 2 - 1).toNat t1 with ⟨l, t2⟩ | er
        · rw [hn] at hq
          obtain ⟨a, b, c, d⟩ := numF_ok hn
          have hp : (2 : Int) ^ (s / 2 - 1).toNat ≤ 8192 := pow2_le (b := 13) (by omega)
          have hp0 : (0 : Int) < 2 ^ (s / 2 - 1).toNat := Int.pow_pos (by omega)
          have hmu : (2 + s % 2) * 2 ^ (s / 2 - 1).toNat ≤ 3 * 8192 := Int.mul_le_mul (by omega) hp (by omega) (by omega)
          have hmu0 : 0 ≤ (2 + s % 2) * 2 ^ (s / 2 - 1).toNat := Int.mul_nonneg (by omega) (by omega)
          cases hq
          omega
        · rw [hn] at hq; cases hq
  · rw [hs] at hq; cases hq
end

theorem Rdr.drewN {W0 w : World} {rb : Nat} {ob : Option Nat} {inV : Value} {p out : List Int} {most t : Nat} (h : Rdr W0 w rb ob inV p most out t) (m : Nat) : Rdr W0 (w.drewN m) rb ob inV p most out t := h.keep rfl (fun _ _ => rfl) (below_drewN h.bel m)

set_option maxHeartbeats 4000000 in
set_option maxRecDepth 100000 in
theorem match_any {W0 w : World} {rb : Nat} {ob : Option Nat} {inV : Value} {p out : List Int} {most t : Nat} {c : Cd} {cv sv : Value} (s : Int) (hs0 : 257 ≤ s) (hs1 : s < 288) (hok : CdOk c 32) (hc : CdR rb ob w (.agg #[cv, sv]) c) (h : Rdr W0 w rb ob inV p most out t) :
    Calls Tryd.prog 52 #[.pointer (some ⟨rb, 0, none⟩), .int .i64 s, .agg #[cv, sv]] w fun e w' => AfterO W0 w w' rb ob inV p most (matchF p most c s out t) e := by
  have hrb := h.rb_lt
  have KOB := Kept.mk h.ob_ge
  obtain ⟨cv', sv', hcs, hcv, hsv⟩ := hc.form
  cases hcs
  obtain ⟨ca, cc, rfl, -, -, -⟩ := hcv.form
  obtain ⟨sa, sc, rfl, -, -, -⟩ := hsv.form
  have KF : Kept (Fr rb ob w (w.alloc (.cells #[.slice ca c.counts.length cc, .slice sa c.symbols.length sc] 69))) := ⟨(Fr.refl rb ob w).alloc _⟩
  have KC := Kept.mk hc
  have KA := Kept.mk (h.far ((Below.refl w.heap.size w).alloc (Nat.le_refl _) (.cells #[.slice ca c.counts.length cc, .slice sa c.symbols.length sc] 69)))
  have KO := Kept.mk hok
  have KX : Kept (∀ w1, Fr rb ob (w.alloc (.cells #[.slice ca c.counts.length cc, .slice sa c.symbols.length sc] 69)) w1 → CB w1 w.heap.size (.slice ca c.counts.length cc) (.slice sa c.symbols.length sc) 69) := ⟨fun w1 hf => (show CB _ _ _ _ _ from heap_alloc_new w _).far (hf.block _ (by simp) (by omega) (fun e => by have := (KOB.out _ e.symm).2; omega))⟩
  clear h hcv hsv hc hok
  rcases hq : lengthF p s t with ⟨n2, t1⟩ | er
  · have K1 := Kept.mk (length_ok hq hs0 hs1 KA.out)
    obtain ⟨n0, n1, -, -⟩ := lengthF_ok hq hs0
    rcases hq2 : distF p c t1 with ⟨d2, t2⟩ | er2
    · have K2 : Kept (∀ w1, CdR rb ob w1 (.agg #[.slice ca c.counts.length cc, .slice sa c.symbols.length sc]) c → Rdr W0 w1 rb ob inV p most out t1 → _) := ⟨fun w1 hc1 h1 => distance_ok hq2 KO.out hc1 h1⟩
      obtain ⟨d0, d1, -, -⟩ := distF_ok KO.out hq2
      by_cases hd : (out.length : Int) < d2
      · have KE : Kept (matchF p most c s out t = .bad .form) := ⟨by unfold matchF; rw [hq]; dsimp only; rw [hq2]; dsimp only; rw [if_pos hd]⟩
        clear hq hq2
        go_enter Tryd.func52, Tryd.ntmps52
        go_wp2_with fail
        refine Calls.mono K1.out (fun e w1 hp => ?_)
        obtain ⟨rfl, hR1, hF1⟩ := hp
        have hx := KX.out w1 hF1
        have b0 := hx.c0
        have b1 := hx.c1
        have K3 := Kept.mk (K2.out w1 (KC.out.mv (KF.out.trans hF1).mv) hR1)
        have KF1 := Kept.mk (KF.out.trans hF1)
        clear hR1 hF1 hx
        go_wp2_with fail
        refine Calls.mono K3.out (fun e w2 hp => ?_)
        obtain ⟨rfl, hR2, hF2⟩ := hp
        obtain ⟨at2, held2, outV, hB2, -, -, -, own2, -⟩ := hR2.blk
        obtain ⟨oa, oc, rfl, -, -, -⟩ := own2.rd.form
        have c4 := hB2.c4
        have KR2 := Kept.mk hR2
        clear hR2 hF2 hB2 own2
        go_wp2
        go_ret
        unfold AfterO
        rw [KE.out]
        exact ⟨rfl, KR2.out.bel⟩
      · obtain ⟨n, rfl⟩ := Int.eq_ofNat_of_zero_le (show 0 ≤ n2 by omega)
        obtain ⟨d, rfl⟩ := Int.eq_ofNat_of_zero_le (show 0 ≤ d2 by omega)
        have hdn : ¬ out.length < d := by omega
        have KE : Kept (matchF p most c s out t = match copyF most d n out with | none => .bad .limit | some o => .ok o t2) := ⟨by unfold matchF; rw [hq]; dsimp only; rw [hq2]; dsimp only; rw [if_neg hd, Int.toNat_natCast, Int.toNat_natCast]; cases copyF most d n out <;> rfl⟩
        clear hq hq2
        go_enter Tryd.func52, Tryd.ntmps52
        go_wp2_with fail
        refine Calls.mono K1.out (fun e w1 hp => ?_)
        obtain ⟨rfl, hR1, hF1⟩ := hp
        have hx := KX.out w1 hF1
        have b0 := hx.c0
        have b1 := hx.c1
        have K3 := Kept.mk (K2.out w1 (KC.out.mv (KF.out.trans hF1).mv) hR1)
        have KF1 := Kept.mk (KF.out.trans hF1)
        clear hR1 hF1 hx
        go_wp2_with fail
        refine Calls.mono K3.out (fun e w2 hp => ?_)
        obtain ⟨rfl, hR2, hF2⟩ := hp
        obtain ⟨at2, held2, outV, hB2, -, -, -, own2, -⟩ := hR2.blk
        obtain ⟨oa, oc, rfl, -, -, -⟩ := own2.rd.form
        have c4 := hB2.c4
        have KR2 := Kept.mk hR2
        have KF2 := Kept.mk (KF1.out.trans hF2)
        clear hR2 hF2 hB2 own2
        go_wp2_with fail
        have hdo0 : Kept (d ≤ out.length) := ⟨by omega⟩
        clear c4 b0 b1 hd
        go_loopw [37, 10] (fun s37 _ wr => ∃ (i : Nat) (o : List Int) (ob' : Option Nat), s37 = .int .i64 i ∧ i ≤ n ∧ d ≤ o.length ∧ copyF most d (n - i) o = copyF most d n out ∧ Rdr W0 wr rb ob' inV p most o t2 ∧ Mv rb ob ob' w wr) (fun s37 _ _ => n - (intOf s37).toNat)
        case atStart => exact ⟨0, out, ob, rfl, by omega, hdo0.out, rfl, KR2.out, KF2.out.mv⟩
        case round =>
          obtain ⟨i, o, ob', rfl, hi, hdo, hgo, hR, hM⟩ := hrel
          have KGO := Kept.mk hgo
          have KM := Kept.mk hM
          have KR := Kept.mk hR
          have hlo := hR.lo
          have hmo := hR.hm
          clear hgo hM hR
          by_cases hlt : i < n
          · have hlti : (i : Int) < (n : Int) := by omega
            have hG := KGO.out
            rw [show n - i = (n - (i + 1)) + 1 from by omega, copyF] at hG
            obtain ⟨at3, held3, outV3, hB3, -, -, -, own3, hob3⟩ := KR.out.blk
            obtain ⟨ga, go, gc, rfl, hgl, hgc, -, -, hcells⟩ := own3.rd.open (by omega)
            have c4 := hB3.c4
            have hcd := hcells (o.length - d) (by omega)
            have hby := KR.out.ao.getD (by omega) (o.length - d)
            have hidx : (o.length : Int) - (d : Int) = ((o.length - d : Nat) : Int) := by omega
            have hidx2 : ((o.length - d : Nat) : Int) < (o.length : Int) := by omega
            clear hB3 own3 hob3 hcells
            by_cases hfull : most ≤ o.length
            · rw [if_pos hfull] at hG
              have KE2 : Kept (matchF p most c s out t = .bad .limit) := ⟨by rw [KE.out, ← hG]⟩
              generalize o.getD (o.length - d) 0 = y at *
              have KP : Kept (∀ m, Calls Tryd.prog 51 #[.pointer (some ⟨rb, 0, none⟩), .int .u8 y] (wr.drewN m) fun e w' => e = .returned (.int .i64 10) ∧ Below W0.heap.size W0 w') := ⟨fun m => put_bad y hby.1 hby.2 hfull (KR.out.drewN m)⟩
              clear hG hby
              go_upto_region 11 with fail
              refine wp_region_tail 0 14 1 (by kernel_rfl) (by kernel_rfl) ?_
              simp only [List.take_succ_cons, List.take_zero, List.drop_succ_cons, List.drop_zero, List.foldl_nil]
              repeat (go_big_quiet_step (fail))
              refine wpQuiet_nil ?_
              intro m
              refine wpTail_step (fun K hK => ?_)
              go_simp
              refine Calls.mono (KP.out m) (fun e wa hp => ?_)
              obtain ⟨rfl, hba⟩ := hp
              refine hK _ _ ?_
              clear hK K
              have KBA := Kept.mk hba
              clear hba
              refine wpTail_step (fun K hK => ?_)
              go_simp
              refine hK _ _ (wpTail_nil (NoPanic.normal ?_))
              clear hK K
              go_wp2
              go_ret
              unfold AfterO
              rw [KE2.out]
              exact ⟨rfl, KBA.out⟩
            · rw [if_neg hfull] at hG
              generalize o.getD (o.length - d) 0 = y at *
              have KG := Kept.mk hG
              have KP : Kept (∀ m, Calls Tryd.prog 51 #[.pointer (some ⟨rb, 0, none⟩), .int .u8 y] (wr.drewN m) fun e w' => e = .returned (.int .i64 0) ∧ ∃ ob2, Rdr W0 w' rb ob2 inV p most (o ++ [y]) t2 ∧ Mv rb ob' ob2 (wr.drewN m) w') := ⟨fun m => put_ok y hby.1 hby.2 hfull (KR.out.drewN m)⟩
              clear hG hby
              go_upto_region 11 with fail
              refine wp_region_tail 0 14 1 (by kernel_rfl) (by kernel_rfl) ?_
              simp only [List.take_succ_cons, List.take_zero, List.drop_succ_cons, List.drop_zero, List.foldl_nil]
              repeat (go_big_quiet_step (fail))
              refine wpQuiet_nil ?_
              intro m
              refine wpTail_step (fun K hK => ?_)
              go_simp
              refine Calls.mono (KP.out m) (fun e wa hp => ?_)
              obtain ⟨rfl, ob2, hRa, hMa⟩ := hp
              refine hK _ _ ?_
              clear hK K
              have KRA := Kept.mk hRa
              have KMA : Kept (Mv rb ob ob2 w wa) := ⟨KM.out.trans ⟨⟨hMa.fr.os, hMa.fr.tape, hMa.fr.output, hMa.fr.size, hMa.fr.block⟩, hMa.at_⟩⟩
              clear hRa hMa
              refine wpTail_step (fun K hK => ?_)
              go_simp
              refine hK _ _ (wpTail_nil (NoPanic.normal ?_))
              clear hK K
              go_wp2
              go_roundw
              case rel => exact ⟨i + 1, o ++ [y], ob2, by go_num, by omega, by simp; omega, KG.out, KRA.out, KMA.out⟩
              case measure => simp [intOf]; omega
          · have KE2 : Kept (matchF p most c s out t = .ok o t2) := ⟨by rw [KE.out, ← KGO.out, show n - i = 0 from by omega, copyF]⟩
            go_wp2
            go_ret
            unfold AfterO
            rw [KE2.out]
            exact ⟨rfl, ob', KR.out, KM.out⟩
    · have K2 : Kept (∀ w1, CdR rb ob w1 (.agg #[.slice ca c.counts.length cc, .slice sa c.symbols.length sc]) c → Rdr W0 w1 rb ob inV p most out t1 → _) := ⟨fun w1 hc1 h1 => distance_bad hq2 KO.out hc1 h1⟩
      have KE : Kept (matchF p most c s out t = .bad er2) := ⟨by unfold matchF; rw [hq]; dsimp only; rw [hq2]⟩
      have her := er2.rng
      have hne : ¬ er2.v = 0 := by omega
      clear hq hq2 her
      go_enter Tryd.func52, Tryd.ntmps52
      go_wp2_with fail
      refine Calls.mono K1.out (fun e w1 hp => ?_)
      obtain ⟨rfl, hR1, hF1⟩ := hp
      have hx := KX.out w1 hF1
      have b0 := hx.c0
      have b1 := hx.c1
      have K3 := Kept.mk (K2.out w1 (KC.out.mv (KF.out.trans hF1).mv) hR1)
      clear hR1 hF1 hx
      go_wp2_with fail
      refine Calls.mono K3.out (fun e w2 hp => ?_)
      obtain ⟨rfl, hR2, -⟩ := hp
      have KR2 := Kept.mk hR2
      clear hR2
      go_wp2
      go_ret
      unfold AfterO
      rw [KE.out]
      exact ⟨rfl, KR2.out⟩
  · have K1 := Kept.mk (length_bad hq hs0 hs1 KA.out)
    have KE : Kept (matchF p most c s out t = .bad er) := ⟨by unfold matchF; rw [hq]⟩
    have her := er.rng
    have hne : ¬ er.v = 0 := by omega
    clear hq her
    go_enter Tryd.func52, Tryd.ntmps52
    go_wp2_with fail
    refine Calls.mono K1.out (fun e w1 hp => ?_)
    obtain ⟨rfl, hR1, -⟩ := hp
    have KR2 := Kept.mk hR1
    clear hR1
    go_wp2
    go_ret
    unfold AfterO
    rw [KE.out]
    exact ⟨rfl, KR2.out⟩

open Go

section
variable {P : Program} {md : Region.Mode} {ops : Array Oper} {Q : Exit → Act → World → Prop} {fuel : Nat} {listed : Array Bool} {a : Act} {w : World} {i j : Nat} {o o' : Oper}
theorem wpAny_one (hr : Region.ready md ops listed = [i]) (ho : ops[i]? = some o) (hw : Region.wanted o (yielded ops a.tmps) = true)
    (h : ∀ K : Act → World → Prop, (∀ a' w', wpAny P md ops Q fuel (listed.setIfInBounds i true) a' w' → K a' w') → Oper.wp P o a w K Q) : wpAny P md ops Q (fuel + 1) listed a w := by
  refine wpAny_all hr (by simp) fun k hk => ?_
  obtain rfl : k = i := by simpa using hk
  unfold wpOp
  simp only [ho]
  rw [if_pos hw]
  exact .inl (h _ fun _ _ h => h)
theorem wpAny_two (hr : Region.ready md ops listed = [i, j]) (ho : ops[i]? = some o) (hw : Region.wanted o (yielded ops a.tmps) = true) (ho' : ops[j]? = some o') (hw' : Region.wanted o' (yielded ops a.tmps) = true)
    (h : ∀ K : Act → World → Prop, (∀ a' w', wpAny P md ops Q fuel (listed.setIfInBounds i true) a' w' → K a' w') → Oper.wp P o a w K Q)
    (h' : ∀ K : Act → World → Prop, (∀ a' w', wpAny P md ops Q fuel (listed.setIfInBounds j true) a' w' → K a' w') → Oper.wp P o' a w K Q) : wpAny P md ops Q (fuel + 1) listed a w := by
  refine wpAny_all hr (by simp) fun k hk => ?_
  rcases (by simpa using hk : k = i ∨ k = j) with rfl | rfl
  · unfold wpOp
    simp only [ho]
    rw [if_pos hw]
    exact .inl (h _ fun _ _ h => h)
  · unfold wpOp
    simp only [ho']
    rw [if_pos hw']
    exact .inl (h' _ fun _ _ h => h)
end
end Go.Proofs.YtjijkcmbbccfmaaDoor
