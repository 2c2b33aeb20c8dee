/-
  Walks: the document's DocText.
-/
import Derived.Test.YtjhcpmhjdhmjpaaDH2
namespace Go.Proofs.Ytjhcpmhjdhmjpaa
open Go.RowKit Go.Shelf

theorem tx_part {a b : List ByteArray} {W : List Pt} {L R : List UInt8} {t : List UInt8} {n : Nat} (h : L ++ t ++ R = txP a b W) (hT : (txP a b W).length ≤ n) : L.length + t.length ≤ n := by
  rw [← h, List.length_append, List.length_append] at hT
  omega
set_option maxHeartbeats 400000 in
set_option maxRecDepth 100000 in
theorem docText_long (v u : Value) (a b : List ByteArray) (w : World) (hv : RdS w v a) (hu : RdS w u b) (hL : longB a.length b.length = true) :
    Calls Try.prog 20 #[v, u] w fun e w' => Below w.heap.size w w' ∧ e = .returned (.tuple #[.string ⟨#[]⟩, .int .i64 2]) := by
  obtain ⟨pa, pc, rfl⟩ := hv.form
  obtain ⟨qa, qc, rfl⟩ := hu.form
  have K1 := Kept.mk (long_any pa qa a.length b.length pc qc w)
  rw [hL] at K1
  clear hv hu hL
  go_enter Try.func20, Try.ntmps20
  go_wp2_with fail
  refine Calls.mono K1.out (fun e w1 hp => ?_)
  obtain ⟨rfl, hw⟩ := hp
  subst w1
  clear K1
  go_wp2
  go_ret2
  exact ⟨Below.refl _ _, rfl⟩
set_option maxHeartbeats 4000000 in
set_option maxRecDepth 100000 in
theorem docText_any (v u : Value) (a b : List ByteArray) (w : World) (hv : RdS w v a) (hu : RdS w u b) (hal : a.length ≤ 1000) (hbl : b.length ≤ 1000) (has : ∀ s ∈ a, s.size ≤ 2000000) (hbs : ∀ s ∈ b, s.size ≤ 2000000) (hT : (txP a b (wayP a b 0 0)).length ≤ 1000000000) :
    Calls Try.prog 20 #[v, u] w fun e w' => Below w.heap.size w w' ∧ e = .returned (.tuple #[.string (mkB (txP a b (wayP a b 0 0))), .int .i64 0]) := by
  have K2 := Kept.mk (docWay_any v u a b w hv hu hal hbl)
  have KA := Kept.mk hv
  have KBB := Kept.mk hu
  obtain ⟨pa, pc, rfl⟩ := hv.form
  obtain ⟨qa, qc, rfl⟩ := hu.form
  have K1 := Kept.mk (long_any pa qa a.length b.length pc qc w)
  have hlb : longB a.length b.length = false := by unfold longB; rw [decide_eq_false (by omega), decide_eq_false (by omega)]; rfl
  rw [hlb] at K1
  have Kas := Kept.mk has
  have Kbs := Kept.mk hbs
  clear hv hu hlb has hbs
  go_enter Try.func20, Try.ntmps20
  go_wp2_with fail
  refine Calls.mono K1.out (fun e w1 hp => ?_)
  obtain ⟨rfl, hw⟩ := hp
  subst w1
  clear K1
  go_wp2_with fail
  refine Calls.mono K2.out (fun e w2 hp => ?_)
  obtain ⟨hB, v2, rfl, ho⟩ := hp
  have KB := Kept.mk hB
  obtain ⟨hok, -, hlen⟩ := way_all a b _ a b 0 0 (Nat.le_refl _) rfl rfl (Nat.zero_le _) (Nat.zero_le _)
  obtain ⟨r0, hr0⟩ := wayP_head a b 0 0
  have hne : wayP a b 0 0 ≠ [] := by rw [hr0]; simp
  have hpos : 0 < (wayP a b 0 0).length := by rw [hr0]; simp
  obtain ⟨g, cap, hv2, hgb, hcell⟩ := ho.open hne
  subst hv2
  have KRa := Kept.mk (KA.out.later KB.out (Nat.le_refl _))
  have KRb := Kept.mk (KBB.out.later KB.out (Nat.le_refl _))
  generalize hWe : wayP a b 0 0 = W at *
  have KW := Kept.mk hWe
  have Kok := Kept.mk hok
  have Kcell := Kept.mk hcell
  have KT := Kept.mk hT
  clear ho hok hcell hne hgb hT KA KBB hB K2 hr0 hWe
  go_upto_region 6 with fail
  go_loopw [7, 8] (fun sv iv wr => ∃ (j : Nat) (L : List UInt8), j < W.length ∧ iv = .int .i64 ((j : Int) + 1) ∧ sv = .string (mkB L) ∧ L ++ txP a b (W.drop j) = txP a b W ∧ Below w2.heap.size w2 wr) (fun _ iv _ => W.length + 1 - (intOf iv).toNat)
  case atStart => exact ⟨0, [], hpos, rfl, rfl, rfl, Below.refl _ _⟩
  case round =>
    obtain ⟨j, L, hjl, rfl, rfl, hL, hbr⟩ := hrel
    have KL := Kept.mk hL
    have KBr := Kept.mk hbr
    clear hL
    by_cases hlt : j + 1 < W.length
    · have hii : (j : Int) + 1 < (W.length : Int) := by omega
      have n0 : (0 : Int) ≤ (j : Int) := by omega
      have n1 : (j : Int) < (W.length : Int) := by omega
      have n2 : (0 : Int) ≤ (j : Int) + 1 := by omega
      have e0 : IntKind.i64.wrap ((j : Int) + 1 - 1) = (j : Int) := by rw [show (j : Int) + 1 - 1 = (j : Int) by omega]; exact wr64 (by omega) (by omega)
      have e1 : IntKind.i64.wrap ((j : Int) + 1 + 1) = (j : Int) + 1 + 1 := wr64 (by omega) (by omega)
      have e2 : ((j : Int) + 1).toNat = j + 1 := by omega
      have e3 : IntKind.i64.wrap (j : Int) = (j : Int) := wr64 (by omega) (by omega)
      obtain ⟨p, hp⟩ : ∃ p, W[j]? = some p := ⟨_, List.getElem?_eq_getElem (by omega)⟩
      obtain ⟨q, hq⟩ : ∃ q, W[j + 1]? = some q := ⟨_, List.getElem?_eq_getElem hlt⟩
      have hsk := Kok.out.steps j p q hp hq
      obtain ⟨p1, p2⟩ := Kok.out.small p (List.mem_of_getElem? hp)
      obtain ⟨x, y⟩ := p
      simp only at p1 p2
      obtain ⟨q1, q2⟩ := Kok.out.small q (List.mem_of_getElem? hq)
      have cp := Kcell.out wr hbr j (x, y) hp
      simp only at cp
      have Kcp : Kept (∀ W', Below w2.heap.size w2 W' → W'.cell? ⟨g, j, none⟩ = some (.complex .f64 (fl x) (fl y)) ∧ W'.cell? ⟨g, j + 1, none⟩ = some (.complex .f64 (fl q.1) (fl q.2))) := ⟨fun W' hW' => ⟨Kcell.out W' hW' j (x, y) hp, Kcell.out W' hW' (j + 1) q hq⟩⟩
      have htx := txP_drop (a := a) (b := b) hp hq
      have KX : Kept (L ++ tlS a b (x, y) q ++ txP a b (W.drop (j + 1)) = txP a b W) := ⟨by rw [← KL.out, htx, List.append_assoc]⟩
      have hcx := fun W' => c_int (x := x) (by omega) W'
      have hcy := fun W' => c_int (x := y) (by omega) W'
      try unfold pt at cp
      have x0 : (0 : Int) ≤ (x : Int) := by omega
      have y0 : (0 : Int) ≤ (y : Int) := by omega
      clear htx hp hq
      obtain ⟨FX, hFX⟩ : ∃ z, fl x = z := ⟨_, rfl⟩
      obtain ⟨FY, hFY⟩ : ∃ z, fl y = z := ⟨_, rfl⟩
      have KFX := Kept.mk hFX
      have KFY := Kept.mk hFY
      rw [hFX, hFY] at cp
      simp only [hFX] at hcx
      simp only [hFY] at hcy
      rw [hFX, hFY] at Kcp
      clear hFX hFY
      go_upto_region 8 with fail
      go_quiet (fail)
      generalize hwq : World.drewN wr _ = wq
      have KBq : Kept (Below w2.heap.size w2 wq) := ⟨by rw [← hwq]; exact below_drewN KBr.out _⟩
      clear hwq hcx hcy cp hbr
      obtain ⟨cp, cq⟩ := Kcp.out wq KBq.out
      rcases hsk with ⟨hd, s, hsa, hsb⟩ | hd | hd
      · skip
        have hsub := fun W' => c_sub (p := (x, y)) (q := q) (by simp; omega) (by simp; omega) (.inl ⟨hd, rfl, rfl⟩) W'
        simp only [KFX.out, KFY.out] at hsub
        have hxl : x < a.length := by rw [hd] at q1 q2; simp only at q1 q2; omega
        have hxi : (x : Int) < (a.length : Int) := by omega
        have hts : tlS a b (x, y) q = tl 32 s := by unfold tlS; rw [if_pos hd]; simp only; rw [hsa]; rfl
        rw [hts] at KX
        have hll : L.length + (tl 32 s).length ≤ 1000000000 := tx_part KX.out KT.out
        have hadd : ∀ W', (Op.stringOp .add (mkB L) (mkB (tl 32 s))).run Try.prog W' = .ok (.string (mkB (L ++ tl 32 s))) W' := fun W' => by
          rw [← mkB_app]; exact run_string_add_sum (P := Try.prog) W' _ _ (by rw [mkB_size, mkB_size]; omega)
        have hsz := Kas.out s (List.mem_of_getElem? hsa)
        obtain ⟨FX2, hFX2⟩ : ∃ z, fl q.1 = z := ⟨_, rfl⟩
        obtain ⟨FY2, hFY2⟩ : ∃ z, fl q.2 = z := ⟨_, rfl⟩
        rw [hFX2, hFY2] at cq
        simp only [hFX2, hFY2] at hsub
        clear hd hts hll hFX2 hFY2 q1 q2 KL
        go_upto_region 9 with fail
        go_quiet (fail)
        generalize hwq : World.drewN wq _ = wp
        have KBp : Kept (Below w2.heap.size w2 wp) := ⟨by rw [← hwq]; exact below_drewN KBq.out _⟩
        clear hwq hsub cp cq
        obtain ⟨p', c', he, -, hr⟩ := KRa.out.later KBp.out (Nat.le_refl _)
        rw [List.length_map] at he hr
        obtain ⟨b1, o1, hp1, -, hr1⟩ := hr (by omega)
        have hpa : pa = some ⟨b1, o1, none⟩ := by injection he with h1 h2 h3; rw [h1, hp1]
        subst hpa
        have cs : wp.cell? ⟨b1, o1 + x, none⟩ = some (.string s) := hr1 x _ (by rw [List.getElem?_map, hsa]; rfl)
        have K4 := Kept.mk (told_any 32 s wp (by omega))
        have a4 := hadd wp
        have h11 : FloatKind.f64.format.order 4607182418800017408 4607182418800017408 = some .eq := by kernel_rfl
        have h01 : FloatKind.f64.format.order 0 4607182418800017408 = some .lt := by kernel_rfl
        have h10 : FloatKind.f64.format.order 4607182418800017408 0 = some .gt := by kernel_rfl
        have h00 : FloatKind.f64.format.order 0 0 = some .eq := by kernel_rfl
        clear he hr hr1 hp1 hadd hsa hsb
        generalize hTL : mkB (tl 32 s) = TL at *
        generalize hLN : mkB (L ++ tl 32 s) = LN at *
        have KLN := Kept.mk hLN
        clear hTL hLN
        go_wp2_with fail
        refine Calls.mono K4.out (fun e w3 hp => ?_)
        obtain ⟨rfl, hw⟩ := hp
        subst w3
        clear K4
        go_wp2
        go_roundw
        case rel => exact ⟨j + 1, L ++ tl 32 s, hlt, by go_num, by rw [KLN.out], KX.out, KBp.out⟩
        case measure => simp [intOf]; omega
      · skip
        have hsub := fun W' => c_sub (p := (x, y)) (q := q) (by simp; omega) (by simp; omega) (.inr (.inl ⟨hd, rfl, rfl⟩)) W'
        simp only [KFX.out, KFY.out] at hsub
        have hxl : x < a.length := by rw [hd] at q1 q2; simp only at q1 q2; omega
        have hxi : (x : Int) < (a.length : Int) := by omega
        obtain ⟨s, hsa⟩ : ∃ s, a[x]? = some s := ⟨_, List.getElem?_eq_getElem hxl⟩
        have hts : tlS a b (x, y) q = tl 45 s := by unfold tlS; rw [if_neg (by rw [hd]; simp), if_pos hd]; simp only; rw [hsa]; rfl
        rw [hts] at KX
        have hll : L.length + (tl 45 s).length ≤ 1000000000 := tx_part KX.out KT.out
        have hadd : ∀ W', (Op.stringOp .add (mkB L) (mkB (tl 45 s))).run Try.prog W' = .ok (.string (mkB (L ++ tl 45 s))) W' := fun W' => by
          rw [← mkB_app]; exact run_string_add_sum (P := Try.prog) W' _ _ (by rw [mkB_size, mkB_size]; omega)
        have hsz := Kas.out s (List.mem_of_getElem? hsa)
        obtain ⟨FX2, hFX2⟩ : ∃ z, fl q.1 = z := ⟨_, rfl⟩
        obtain ⟨FY2, hFY2⟩ : ∃ z, fl q.2 = z := ⟨_, rfl⟩
        rw [hFX2, hFY2] at cq
        simp only [hFX2, hFY2] at hsub
        clear hd hts hll hFX2 hFY2 q1 q2 KL
        go_upto_region 9 with fail
        go_quiet (fail)
        generalize hwq : World.drewN wq _ = wp
        have KBp : Kept (Below w2.heap.size w2 wp) := ⟨by rw [← hwq]; exact below_drewN KBq.out _⟩
        clear hwq hsub cp cq
        obtain ⟨p', c', he, -, hr⟩ := KRa.out.later KBp.out (Nat.le_refl _)
        rw [List.length_map] at he hr
        obtain ⟨b1, o1, hp1, -, hr1⟩ := hr (by omega)
        have hpa : pa = some ⟨b1, o1, none⟩ := by injection he with h1 h2 h3; rw [h1, hp1]
        subst hpa
        have cs : wp.cell? ⟨b1, o1 + x, none⟩ = some (.string s) := hr1 x _ (by rw [List.getElem?_map, hsa]; rfl)
        have K4 := Kept.mk (told_any 45 s wp (by omega))
        have a4 := hadd wp
        have h11 : FloatKind.f64.format.order 4607182418800017408 4607182418800017408 = some .eq := by kernel_rfl
        have h01 : FloatKind.f64.format.order 0 4607182418800017408 = some .lt := by kernel_rfl
        have h10 : FloatKind.f64.format.order 4607182418800017408 0 = some .gt := by kernel_rfl
        have h00 : FloatKind.f64.format.order 0 0 = some .eq := by kernel_rfl
        clear he hr hr1 hp1 hadd hsa
        generalize hTL : mkB (tl 45 s) = TL at *
        generalize hLN : mkB (L ++ tl 45 s) = LN at *
        have KLN := Kept.mk hLN
        clear hTL hLN
        go_wp2_with fail
        refine Calls.mono K4.out (fun e w3 hp => ?_)
        obtain ⟨rfl, hw⟩ := hp
        subst w3
        clear K4
        go_wp2
        go_roundw
        case rel => exact ⟨j + 1, L ++ tl 45 s, hlt, by go_num, by rw [KLN.out], KX.out, KBp.out⟩
        case measure => simp [intOf]; omega
      · skip
        have hsub := fun W' => c_sub (p := (x, y)) (q := q) (by simp; omega) (by simp; omega) (.inr (.inr ⟨hd, rfl, rfl⟩)) W'
        simp only [KFX.out, KFY.out] at hsub
        have hxl : y < b.length := by rw [hd] at q1 q2; simp only at q1 q2; omega
        have hxi : (y : Int) < (b.length : Int) := by omega
        obtain ⟨s, hsa⟩ : ∃ s, b[y]? = some s := ⟨_, List.getElem?_eq_getElem hxl⟩
        have hts : tlS a b (x, y) q = tl 43 s := by unfold tlS; rw [if_neg (by rw [hd]; simp), if_neg (by rw [hd]; simp)]; simp only; rw [hsa]; rfl
        rw [hts] at KX
        have hll : L.length + (tl 43 s).length ≤ 1000000000 := tx_part KX.out KT.out
        have hadd : ∀ W', (Op.stringOp .add (mkB L) (mkB (tl 43 s))).run Try.prog W' = .ok (.string (mkB (L ++ tl 43 s))) W' := fun W' => by
          rw [← mkB_app]; exact run_string_add_sum (P := Try.prog) W' _ _ (by rw [mkB_size, mkB_size]; omega)
        have hsz := Kbs.out s (List.mem_of_getElem? hsa)
        obtain ⟨FX2, hFX2⟩ : ∃ z, fl q.1 = z := ⟨_, rfl⟩
        obtain ⟨FY2, hFY2⟩ : ∃ z, fl q.2 = z := ⟨_, rfl⟩
        rw [hFX2, hFY2] at cq
        simp only [hFX2, hFY2] at hsub
        clear hd hts hll hFX2 hFY2 q1 q2 KL
        go_upto_region 9 with fail
        go_quiet (fail)
        generalize hwq : World.drewN wq _ = wp
        have KBp : Kept (Below w2.heap.size w2 wp) := ⟨by rw [← hwq]; exact below_drewN KBq.out _⟩
        clear hwq hsub cp cq
        obtain ⟨p', c', he, -, hr⟩ := KRb.out.later KBp.out (Nat.le_refl _)
        rw [List.length_map] at he hr
        obtain ⟨b1, o1, hp1, -, hr1⟩ := hr (by omega)
        have hpa : qa = some ⟨b1, o1, none⟩ := by injection he with h1 h2 h3; rw [h1, hp1]
        subst hpa
        have cs : wp.cell? ⟨b1, o1 + y, none⟩ = some (.string s) := hr1 y _ (by rw [List.getElem?_map, hsa]; rfl)
        have K4 := Kept.mk (told_any 43 s wp (by omega))
        have a4 := hadd wp
        have h11 : FloatKind.f64.format.order 4607182418800017408 4607182418800017408 = some .eq := by kernel_rfl
        have h01 : FloatKind.f64.format.order 0 4607182418800017408 = some .lt := by kernel_rfl
        have h10 : FloatKind.f64.format.order 4607182418800017408 0 = some .gt := by kernel_rfl
        have h00 : FloatKind.f64.format.order 0 0 = some .eq := by kernel_rfl
        clear he hr hr1 hp1 hadd hsa
        generalize hTL : mkB (tl 43 s) = TL at *
        generalize hLN : mkB (L ++ tl 43 s) = LN at *
        have KLN := Kept.mk hLN
        clear hTL hLN
        go_wp2_with fail
        refine Calls.mono K4.out (fun e w3 hp => ?_)
        obtain ⟨rfl, hw⟩ := hp
        subst w3
        clear K4
        go_wp2
        go_roundw
        case rel => exact ⟨j + 1, L ++ tl 43 s, hlt, by go_num, by rw [KLN.out], KX.out, KBp.out⟩
        case measure => simp [intOf]; omega
    · have hii : ¬ (j : Int) + 1 < (W.length : Int) := by omega
      have hLE : L = txP a b W := by rw [← KL.out, txP_end (by omega), List.append_nil]
      have KLE := Kept.mk hLE
      have KBf := Kept.mk (KB.out.trans (KBr.out.mono KB.out.size))
      clear hLE hbr
      go_wp2
      go_ret2
      exact ⟨KBf.out, by rw [KW.out, ← KLE.out]; rfl⟩
end Go.Proofs.Ytjhcpmhjdhmjpaa
