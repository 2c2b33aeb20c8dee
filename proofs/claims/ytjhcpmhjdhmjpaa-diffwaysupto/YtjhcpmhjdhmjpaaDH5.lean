/-
  Walks: DocHunks, of, SameHunks.
-/
import Derived.Test.YtjhcpmhjdhmjpaaDH4
namespace Go.Proofs.Ytjhcpmhjdhmjpaa
open Go.RowKit Go.Shelf

set_option maxHeartbeats 400000 in
set_option maxRecDepth 100000 in
theorem docHunksE_any (v u : Value) (a b : List ByteArray) (w : World) (hv : RdS w v a) (hu : RdS w u b) :
    Calls Try.prog 16 #[v, u] w fun e w' => Below w.heap.size w w' ∧ ((longB a.length b.length = true ∧ e = .returned (.tuple #[.slice none 0 0, .int .i64 2])) ∨ (longB a.length b.length = false ∧ ∃ v', e = .returned (.tuple #[v', .int .i64 0]) ∧ OwnRk w' w.heap.size v' (hksF [] (wayP a b 0 0)))) := by
  have KV := Kept.mk hv
  have KU := Kept.mk hu
  obtain ⟨pa, pc, rfl⟩ := hv.form
  obtain ⟨qa, qc, rfl⟩ := hu.form
  have K1 := Kept.mk (long_any pa qa a.length b.length pc qc w)
  clear hv hu
  by_cases hL : longB a.length b.length = true
  · have KL := Kept.mk hL
    rw [hL] at K1
    clear hL
    go_enter Try.func16, Try.ntmps16
    go_wp2_with fail
    refine Calls.mono K1.out (fun e w1 hp => ?_)
    obtain ⟨rfl, hw⟩ := hp
    subst w1
    clear K1
    go_wp2
    go_ret2
    exact ⟨Below.refl _ _, .inl ⟨KL.out, rfl⟩⟩
  · have hL2 : longB a.length b.length = false := by simpa using hL
    have KL := Kept.mk hL2
    have la : a.length ≤ 1000 := by unfold longB at hL2; simp at hL2; omega
    have lb : b.length ≤ 1000 := by unfold longB at hL2; simp at hL2; omega
    have K2 := Kept.mk (docWay_any _ _ a b w KV.out KU.out la lb)
    rw [hL2] at K1
    clear hL hL2
    go_enter Try.func16, Try.ntmps16
    go_wp2_with fail
    refine Calls.mono K1.out (fun e w1 hp => ?_)
    obtain ⟨rfl, hw⟩ := hp
    subst w1
    clear K1
    go_wp2_with fail
    refine Calls.mono K2.out (fun e w1 hp => ?_)
    obtain ⟨hb, v', rfl, ho⟩ := hp
    have KB := Kept.mk hb
    have K3 := Kept.mk (refHunks_any v' a b w1 ho.rd la lb)
    obtain ⟨p', c', hv', -⟩ := row_open ho
    subst hv'
    clear hb ho K2
    go_wp2_with fail
    refine Calls.mono K3.out (fun e w2 hp => ?_)
    obtain ⟨v2, rfl, ho2, hb2⟩ := hp
    have KB2 := Kept.mk (KB.out.trans (hb2.mono KB.out.size))
    have KO := Kept.mk (ho2.mono KB.out.size)
    obtain ⟨a2, c2, hv2⟩ := ho2.form
    subst hv2
    clear ho2 hb2 K3
    go_wp2
    go_ret2
    exact ⟨KB2.out, .inr ⟨KL.out, _, rfl, KO.out⟩⟩
set_option maxHeartbeats 2000000 in
set_option maxRecDepth 100000 in
theorem of_any (v : Value) (hs : List (Pt × Pt)) (w : World) (hr : ∀ W, Below w.heap.size w W → RdHk W v hs) (hl : hs.length ≤ 100000) :
    Calls Try.prog 18 #[v] w fun e w' => ∃ v', e = .returned v' ∧ OwnRk w' w.heap.size v' hs ∧ Below w.heap.size w w' := by
  obtain ⟨i0, z0, hi, hz, hsz, hbt, hzc⟩ := info_rk
  obtain ⟨pa, pc, rfl, -⟩ := hr w (Below.refl _ _)
  have KR := Kept.mk hr
  have K0 : Kept (OwnRk w w.heap.size (.slice none 0 0) (hs.take 0)) := ⟨World.ownsRow_nil w w.heap.size 67 2⟩
  clear hr
  go_enter Try.func18, Try.ntmps18
  go_upto_region 3 with fail
  go_loopw [3, 8] (fun mv iv wr => ∃ k : Nat, k ≤ hs.length ∧ iv = .int .i64 k ∧ OwnRk wr w.heap.size mv (hs.take k) ∧ Below w.heap.size w wr) (fun _ iv _ => hs.length - (intOf iv).toNat)
  case atStart => exact ⟨0, Nat.zero_le _, rfl, K0.out, Below.refl _ _⟩
  case round =>
    obtain ⟨k, hk, rfl, hO, hbr⟩ := hrel
    have KBr := Kept.mk hbr
    have KO := Kept.mk hO
    obtain ⟨ma, mc, hmv⟩ := hO.form
    have htl : (hs.take k).length = k := by rw [List.length_take]; omega
    rw [htl] at hmv
    subst hmv
    clear K0 hO
    by_cases hlt : k < hs.length
    · have hki : (k : Int) < (hs.length : Int) := by omega
      have n0 : (0 : Int) ≤ (k : Int) := by omega
      have e1 : IntKind.i64.wrap ((k : Int) + 1) = (k : Int) + 1 := wr64 (by omega) (by omega)
      obtain ⟨h, hh⟩ : ∃ h, hs[k]? = some h := ⟨_, List.getElem?_eq_getElem hlt⟩
      obtain ⟨p', c', he, hr⟩ := KR.out wr hbr
      obtain ⟨b, o, hp1, hrow⟩ := hr (by omega)
      have hpa : pa = some ⟨b, o, none⟩ := by injection he with h1 h2 h3; rw [h1, hp1]
      subst hpa
      obtain ⟨g1, g2⟩ := hkV_get hh
      have r1 := hrow _ _ g1
      have r2 := hrow _ _ g2
      unfold pt at r1 r2
      have Kpt : Kept (Value.complex .f64 (fl h.1.1) (fl h.1.2) = pt h.1.1 h.1.2 ∧ Value.complex .f64 (fl h.2.1) (fl h.2.2) = pt h.2.1 h.2.2) := ⟨⟨rfl, rfl⟩⟩
      have Kn : Kept (hs.take (k + 1) = hs.take k ++ [h]) := ⟨by rw [List.take_add_one, hh]; rfl⟩
      generalize fl h.1.1 = X at *
      generalize fl h.1.2 = Y at *
      generalize fl h.2.1 = U at *
      generalize fl h.2.2 = V at *
      have hR : wr.rangeAt b (o + k * 2) [.complex .f64 X Y, .complex .f64 U V] := by
        intro j u hu
        match j, hu with
        | 0, hu => simp at hu; subst hu; exact r1
        | 1, hu => simp at hu; subst hu; rw [Nat.add_assoc]; exact r2
      have KRow := Kept.mk hR
      have KI : Kept ((Try.prog.info? 47).map (·.size) = some 2) := ⟨by kernel_rfl⟩
      have hB0 := Bk.new wr 47 [.complex .f64 0 0, .complex .f64 0 0]
      have hB1 := hB0.set 0 (.complex .f64 X Y)
      have hB2 := hB1.set 1 (.complex .f64 U V)
      have hst1 := run_store_c _ _ X Y _ (hB0.cell 0 _ rfl) (hB0.frozen 0)
      have hst2 := run_store_c _ _ U V _ (hB1.cell 1 _ rfl) (hB1.frozen 1)
      have hb1 : Below wr.heap.size wr ((((wr.alloc (.cells #[.complex .f64 0 0, .complex .f64 0 0] 47)).setCell ⟨wr.heap.size, 0, none⟩ (.complex .f64 X Y)).setCell ⟨wr.heap.size, 1, none⟩ (.complex .f64 U V))) := (((Below.refl _ wr).alloc (Nat.le_refl _) _).setCell (Nat.le_refl _) _).setCell (Nat.le_refl _) _
      have c0 := hB2.cell 0 (.complex .f64 X Y) rfl
      have c1 := hB2.cell 1 (.complex .f64 U V) rfl
      have ef : ([Value.complex .f64 0 0, .complex .f64 0 0] : List Value).toArray = #[.complex .f64 0 0, .complex .f64 0 0] := rfl
      rw [ef] at hst1 hst2 c0 c1
      obtain ⟨u1, hu1⟩ : ∃ x, ((((wr.alloc (.cells #[.complex .f64 0 0, .complex .f64 0 0] 47)).setCell ⟨wr.heap.size, 0, none⟩ (.complex .f64 X Y)).setCell ⟨wr.heap.size, 1, none⟩ (.complex .f64 U V))) = x := ⟨_, rfl⟩
      rw [hu1] at hst2 hb1 c0 c1
      obtain ⟨u0, hu0⟩ : ∃ x, ((wr.alloc (.cells #[.complex .f64 0 0, .complex .f64 0 0] 47)).setCell ⟨wr.heap.size, 0, none⟩ (.complex .f64 X Y)) = x := ⟨_, rfl⟩
      rw [hu0] at hst1 hst2
      have KBu := Kept.mk (hbr.trans (hb1.mono hbr.size))
      have KOu := Kept.mk (KO.out.later hb1 (Nat.le_refl _))
      have KOa : Kept ((u1.alloc (.cells #[.complex .f64 X Y, .complex .f64 U V] 67)).ownsRow w.heap.size 67 2 (.slice ma k mc) k (hkV (hs.take k))) := ⟨by
        have h9 := KOu.out
        unfold OwnRk at h9
        rw [htl] at h9
        exact World.ownsRow.alloc h9 _⟩
      have KBa := Kept.mk (KBu.out.alloc KBu.out.size (.cells #[.complex .f64 X Y, .complex .f64 U V] 67))
      have KCn : Kept (∀ j u, [Value.complex .f64 X Y, .complex .f64 U V][j]? = some u → (u1.alloc (.cells #[.complex .f64 X Y, .complex .f64 U V] 67)).cell? ((⟨u1.heap.size, 0, none⟩ : Addr).add j) = some u) := ⟨fun j u hu => by
        rw [add_plain, Nat.zero_add, cell_of_row _ _ j _ 67 (0, 0) (heap_alloc_new u1 _)]
        simpa using hu⟩
      have Ktl := Kept.mk htl
      clear hB0 hB1 hB2 hb1 hbr ef hu1 hu0 hR r1 r2 g1 g2 he hr hrow hp1 hh htl
      go_wp2_with (first | (refine wpList_load_mid rfl 47 _ rfl b (o + k * 2) rfl [.complex .f64 X Y, .complex .f64 U V] _ KRow.out Try.underlying47 rfl KI.out ?_) | (at_builtin; refine wpList_append_own_at _ rfl _ _ 35 rfl w.heap.size 67 i0 z0 2 32 Try.underlying35 hi hz hsz hbt hzc (by decide) (.slice ma k mc) k (hkV (hs.take k)) rfl KOa.out ⟨u1.heap.size, 0, none⟩ 1 1 [.complex .f64 X Y, .complex .f64 U V] rfl rfl KCn.out (by simp [Value.oneCell']) (by unfold maxLen; omega) (by omega) KBa.out.size ?_; intro v5 w5 hown5 hgrow5 _ hat5; have KB5 := Kept.mk (KBa.out.grown hgrow5 KBa.out.size (fun k hk => (KOu.out.lt k hk).1)); have KO5 := Kept.mk hown5; clear hown5 hgrow5 hat5))
      go_roundw
      case rel =>
        refine ⟨k + 1, hlt, by go_num, ?_, KB5.out⟩
        have h9 := KO5.out
        rw [Kn.out]
        unfold OwnRk
        rw [List.length_append, List.length_singleton, hkV_snoc]
        rw [Ktl.out]
        show w5.ownsRow w.heap.size 67 2 v5 (k + 1) (hkV (hs.take k) ++ [pt h.1.1 h.1.2, pt h.2.1 h.2.2])
        rw [← Kpt.out.1, ← Kpt.out.2]
        exact h9
      case measure => simp [intOf]; omega
    · have hki : ¬ (k : Int) < (hs.length : Int) := by omega
      obtain rfl : k = hs.length := by omega
      have KE : Kept (OwnRk wr w.heap.size (.slice ma hs.length mc) hs) := ⟨by have h := KO.out; rw [List.take_length] at h; exact h⟩
      clear hbr KO htl
      go_wp2
      go_ret
      exact ⟨_, rfl, KE.out, KBr.out⟩
/-- The document's hunks, read. -/
def RdRk (w : World) (v : Value) (hs : List (Pt × Pt)) : Prop :=
  ∃ a c, v = .slice a hs.length c ∧ (0 < hs.length → ∃ b, a = some ⟨b, 0, none⟩ ∧ b < w.heap.size ∧ w.rangeAt b 0 (hkV hs))
theorem OwnRk.rd {w : World} {base : Nat} {v : Value} {hs : List (Pt × Pt)} (h : OwnRk w base v hs) : RdRk w v hs := by
  have hlt := h.lt
  rcases h.2 with ⟨rfl, hn⟩ | ⟨g, cap, cur, rfl, hg, hh, hnc, hcm, hcs, htake⟩
  · exact ⟨none, 0, by rw [hn], fun h0 => by omega⟩
  · refine ⟨_, _, rfl, fun _ => ⟨g, rfl, (hlt g rfl).2, ?_⟩⟩
    intro j u hu
    rw [Nat.zero_add, cell_of_row _ _ j _ _ (0, 0) hh]
    have h1 : (cur.toList.take (hs.length * 2))[j]? = some u := by rw [htake]; exact hu
    rw [List.getElem?_take] at h1
    split at h1
    · simpa using h1
    · cases h1
theorem RdRk.later {B : Nat} {w w' : World} {v : Value} {hs : List (Pt × Pt)} (h : RdRk w v hs) (hb : Below B w w') (hB : w.heap.size ≤ B) : RdRk w' v hs := by
  obtain ⟨a, c, rfl, h2⟩ := h
  refine ⟨a, c, rfl, fun h0 => ?_⟩
  obtain ⟨b, rfl, hlt, hr⟩ := h2 h0
  refine ⟨b, rfl, Nat.lt_of_lt_of_le hlt (by have := hb.size; omega), fun j u hu => ?_⟩
  rw [hb.cell (p := ⟨b, 0 + j, none⟩) (Nat.lt_of_lt_of_le hlt hB)]
  exact hr j u hu
end Go.Proofs.Ytjhcpmhjdhmjpaa
