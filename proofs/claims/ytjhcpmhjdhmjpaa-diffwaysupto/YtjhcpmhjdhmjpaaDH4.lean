/-
  Walks: the document's Hunks.
-/
import Derived.Test.YtjhcpmhjdhmjpaaDH3
import Derived.Test.YtjhcpmhjdhmjpaaVE
namespace Go.Proofs.Ytjhcpmhjdhmjpaa
open Go.RowKit Go.Shelf

/-- Hunks in memory of the call's own. -/
def OwnRk (w : World) (base : Nat) (v : Value) (hs : List (Pt × Pt)) : Prop := w.ownsRow base 67 2 v hs.length (hkV hs)
theorem OwnRk.lt {w : World} {base : Nat} {v : Value} {hs : List (Pt × Pt)} (h : OwnRk w base v hs) : ∀ g, v.ownBlock = some g → base ≤ g ∧ g < w.heap.size := by
  intro g hg
  rcases h.2 with ⟨rfl, hn⟩ | ⟨g', cap, cur, rfl, hbg, hg', hnc, hcm, hcs, htake⟩
  · cases hg
  · have : g' = g := by simpa [Value.ownBlock] using hg
    subst this
    exact ⟨hbg, (Array.getElem?_eq_some_iff.1 hg').1⟩
theorem OwnRk.far {w w' : World} {base : Nat} {v : Value} {hs : List (Pt × Pt)} (h : OwnRk w base v hs) (hb : ∀ g, v.ownBlock = some g → w'.heap[g]? = w.heap[g]?) : OwnRk w' base v hs := by
  refine ⟨h.1, ?_⟩
  rcases h.2 with h2 | ⟨g, cap, cur, rfl, hg, hh, r⟩
  · exact Or.inl h2
  · exact Or.inr ⟨g, cap, cur, rfl, hg, by rw [hb g rfl]; exact hh, r⟩
theorem OwnRk.later {B : Nat} {w w' : World} {base : Nat} {v : Value} {hs : List (Pt × Pt)} (h : OwnRk w base v hs) (hb : Below B w w') (hB : w.heap.size ≤ B) : OwnRk w' base v hs :=
  h.far fun g hg => hb.block g (Nat.lt_of_lt_of_le (h.lt g hg).2 hB)
theorem OwnRk.mono {base' : Nat} {w : World} {base : Nat} {v : Value} {hs : List (Pt × Pt)} (h : OwnRk w base v hs) (hb : base' ≤ base) : OwnRk w base' v hs := by
  refine ⟨h.1, ?_⟩
  rcases h.2 with h2 | ⟨g, cap, cur, hv, hg, r⟩
  · exact Or.inl h2
  · exact Or.inr ⟨g, cap, cur, hv, Nat.le_trans hb hg, r⟩
/-- The last hunk's end. -/
theorem OwnRk.last {w : World} {base : Nat} {v : Value} {hs : List (Pt × Pt)} {h : Pt × Pt} (ho : OwnRk w base v (hs ++ [h])) : ∃ g cap, v = .slice (some ⟨g, 0, none⟩) (hs.length + 1) cap ∧ base ≤ g ∧ w.cell? ⟨g, hs.length * 2 + 1, none⟩ = some (pt h.2.1 h.2.2) ∧ w.frozen? ⟨g, hs.length * 2 + 1, none⟩ = false ∧ ∀ q : Pt, OwnRk (w.setCell ⟨g, hs.length * 2 + 1, none⟩ (pt q.1 q.2)) base v (hs ++ [(h.1, q)]) := by
  have ho' := ho
  unfold OwnRk at ho
  rcases ho.2 with ⟨rfl, hn⟩ | ⟨g, cap, cur, rfl, hbg, hg, hnc, hcm, hcs, htake⟩
  · simp at hn
  · refine ⟨g, cap, by simp, hbg, ?_, ?_, fun q => ?_⟩
    · have := World.ownsRow.cells ho (g := g) rfl (hs.length * 2 + 1) (pt h.2.1 h.2.2) (by rw [hkV_snoc, List.getElem?_append_right (by rw [hkV_len]; omega), hkV_len]; simp [hkC])
      rw [add_plain, Nat.zero_add] at this
      exact this
    · simp [World.frozen?, hg]
    · have := (World.ownsRow.stored ho (hs.length * 2 + 1) (pt q.1 q.2)).1
      have e : (hkV (hs ++ [h])).set (hs.length * 2 + 1) (pt q.1 q.2) = hkV (hs ++ [(h.1, q)]) := by
        rw [hkV_snoc, hkV_snoc, List.set_append_right _ _ (by rw [hkV_len]; omega), hkV_len]
        simp [hkC]
      rw [e] at this
      unfold OwnRk
      simpa using this
theorem OwnRk.form {w : World} {base : Nat} {v : Value} {hs : List (Pt × Pt)} (h : OwnRk w base v hs) : ∃ a c, v = .slice a hs.length c := by
  rcases h.2 with ⟨rfl, hn⟩ | ⟨g, cap, cur, rfl, -⟩
  · exact ⟨none, 0, by rw [hn]⟩
  · exact ⟨_, _, rfl⟩
set_option maxRecDepth 100000 in
theorem info_rk : ∃ i z, Try.prog.info? 67 = some i ∧ i.zero = some z ∧ i.size = 2 ∧ i.bytes = 32 ∧ z.cells.size = 2 := by
  refine ⟨_, _, rfl, rfl, rfl, rfl, rfl⟩
/-- Where the document's Hunks stands. -/
structure RkSt (w wr : World) (W : List Pt) (hv : Value) (hs : List (Pt × Pt)) (op : Bool) (j : Nat) (p : Pt) : Prop where
  own : OwnRk wr w.heap.size hv hs
  eq : hksF [] W = hksF hs (W.drop j)
  at_ : W[j]? = some p
  hl : hs.length ≤ j
  low : ∀ h ∈ hs, h.2.1 ≤ p.1 ∧ h.2.2 ≤ p.2
  yes : op = true → ∃ hs0 h, hs = hs0 ++ [h] ∧ h.2 = p
  no : op = false → ∀ hs0 h, hs = hs0 ++ [h] → h.2 ≠ p
  bel : Below w.heap.size w wr
theorem hk_drop {W : List Pt} {j : Nat} {p q : Pt} {hs : List (Pt × Pt)} (hp : W[j]? = some p) (hq : W[j + 1]? = some q) : hksF hs (W.drop j) = hksF (hstep hs p q) (W.drop (j + 1)) := by
  obtain ⟨h1, g1⟩ := List.getElem?_eq_some_iff.1 hp
  obtain ⟨h2, g2⟩ := List.getElem?_eq_some_iff.1 hq
  rw [List.drop_eq_getElem_cons h1, List.drop_eq_getElem_cons h2, g1, g2, hksF_two]
theorem RkSt.diag {w wr wr' : World} {W : List Pt} {hv : Value} {hs : List (Pt × Pt)} {op : Bool} {j : Nat} {p q : Pt} (h : RkSt w wr W hv hs op j p) (hq : W[j + 1]? = some q) (hd : q = (p.1 + 1, p.2 + 1)) (hb : Below wr.heap.size wr wr') : RkSt w wr' W hv hs false (j + 1) q := by
  have e : hstep hs p q = hs := by unfold hstep; rw [if_pos hd]
  refine ⟨h.own.later hb (Nat.le_refl _), by rw [h.eq, hk_drop h.at_ hq, e], hq, by have := h.hl; omega, fun k hk => ?_, (fun e => nomatch e), fun _ hs0 k hk => ?_, h.bel.trans (hb.mono h.bel.size)⟩
  · have := h.low k hk; rw [hd]; simp only; omega
  · have := h.low k (by rw [hk]; simp)
    intro e2
    rw [e2, hd] at this
    simp only at this
    omega
theorem RkSt.push {w wr wr' : World} {W : List Pt} {hv hv' : Value} {hs : List (Pt × Pt)} {j : Nat} {p q : Pt} (h : RkSt w wr W hv hs false j p) (hq : W[j + 1]? = some q) (hd : ¬ q = (p.1 + 1, p.2 + 1)) (hpq : p.1 ≤ q.1 ∧ p.2 ≤ q.2) (ho : OwnRk wr' w.heap.size hv' (hs ++ [(p, q)])) (hb : Below w.heap.size w wr') : RkSt w wr' W hv' (hs ++ [(p, q)]) true (j + 1) q := by
  have e : hstep hs p q = hs ++ [(p, q)] := by
    unfold hstep
    rw [if_neg hd]
    rcases List.eq_nil_or_concat hs with rfl | ⟨hs0, k, hk⟩
    · rfl
    · rw [List.concat_eq_append] at hk
      subst hk
      rw [List.getLast?_concat]
      simp only
      rw [if_neg (h.no rfl hs0 k rfl)]
  refine ⟨ho, by rw [h.eq, hk_drop h.at_ hq, e], hq, by rw [List.length_append, List.length_singleton]; have := h.hl; omega, fun k hk => ?_, fun _ => ⟨hs, (p, q), rfl, rfl⟩, (fun e => nomatch e), hb⟩
  rcases List.mem_append.1 hk with hk | hk
  · have := h.low k hk; omega
  · rw [List.mem_singleton.1 hk]; exact ⟨Nat.le_refl _, Nat.le_refl _⟩
theorem RkSt.grow {w wr wr' : World} {W : List Pt} {hv hv' : Value} {hs0 : List (Pt × Pt)} {k : Pt × Pt} {j : Nat} {p q : Pt} (h : RkSt w wr W hv (hs0 ++ [k]) true j p) (hk : k.2 = p) (hq : W[j + 1]? = some q) (hd : ¬ q = (p.1 + 1, p.2 + 1)) (hpq : p.1 ≤ q.1 ∧ p.2 ≤ q.2) (ho : OwnRk wr' w.heap.size hv' (hs0 ++ [(k.1, q)])) (hb : Below w.heap.size w wr') : RkSt w wr' W hv' (hs0 ++ [(k.1, q)]) true (j + 1) q := by
  have e : hstep (hs0 ++ [k]) p q = hs0 ++ [(k.1, q)] := by
    unfold hstep
    rw [if_neg hd, List.getLast?_concat]
    simp only
    rw [if_pos hk, List.dropLast_concat]
  refine ⟨ho, by rw [h.eq, hk_drop h.at_ hq, e], hq, by have := h.hl; rw [List.length_append, List.length_singleton] at this ⊢; omega, fun l hl => ?_, fun _ => ⟨hs0, (k.1, q), rfl, rfl⟩, (fun e => nomatch e), hb⟩
  rcases List.mem_append.1 hl with hl | hl
  · have := h.low l (List.mem_append_left _ hl); omega
  · rw [List.mem_singleton.1 hl]; exact ⟨Nat.le_refl _, Nat.le_refl _⟩
set_option maxHeartbeats 4000000 in
set_option maxRecDepth 100000 in
theorem refHunks_any (v : Value) (a b : List ByteArray) (w : World) (hv : RdV w v (ptsV (wayP a b 0 0))) (hal : a.length ≤ 1000) (hbl : b.length ≤ 1000) :
    Calls Try.prog 34 #[v] w fun e w' => ∃ v', e = .returned v' ∧ OwnRk w' w.heap.size v' (hksF [] (wayP a b 0 0)) ∧ Below w.heap.size w w' := by
  obtain ⟨i0, z0, hi, hz, hsz, hbt, hzc⟩ := info_rk
  obtain ⟨hok, -, hlen⟩ := way_all a b _ a b 0 0 (Nat.le_refl _) rfl rfl (Nat.zero_le _) (Nat.zero_le _)
  obtain ⟨r0, hr0⟩ := wayP_head a b 0 0
  have hpos : 0 < (wayP a b 0 0).length := by rw [hr0]; simp
  have hget0 : (wayP a b 0 0)[0]? = some (0, 0) := by rw [hr0]; rfl
  obtain ⟨pv, cap, hvE, hcap, hrd⟩ := hv
  rw [ptsV_len] at hvE hcap hrd
  obtain ⟨g, off, hpv, hglt, hrow⟩ := hrd hpos
  subst hpv hvE
  generalize hWe : wayP a b 0 0 = W at *
  have Kok := Kept.mk hok
  have Kcell : Kept (∀ W', Below w.heap.size w W' → ∀ j q, W[j]? = some q → W'.cell? ⟨g, off + j, none⟩ = some (.complex .f64 (fl q.1) (fl q.2))) := ⟨fun W' hW' j q hq => by
    rw [hW'.cell (p := ⟨g, off + j, none⟩) hglt]
    exact hrow j _ (by unfold ptsV; rw [List.getElem?_map, hq]; rfl)⟩
  have K0 : Kept (RkSt w w W (.slice none 0 0) [] false 0 (0, 0)) := ⟨⟨World.ownsRow_nil w w.heap.size 67 2, rfl, hget0, Nat.zero_le _, (fun h hh => nomatch hh), (fun e => nomatch e), (fun _ hs0 h e => by have := congrArg List.length e; simp at this), Below.refl _ _⟩⟩
  clear hok hrow hrd hr0 hWe hget0
  go_enter Try.func34, Try.ntmps34
  go_upto_region 4 with fail
  go_loopw [3, 4, 5] (fun lv ov iv wr => ∃ (j : Nat) (hs : List (Pt × Pt)) (op : Bool) (p : Pt), ov = .bool op ∧ iv = .int .i64 ((j : Int) + 1) ∧ RkSt w wr W lv hs op j p) (fun _ _ iv _ => W.length + 1 - (intOf iv).toNat)
  case atStart => exact ⟨0, [], false, (0, 0), rfl, rfl, K0.out⟩
  case round =>
    obtain ⟨j, hs, op, p, rfl, rfl, hst⟩ := hrel
    have KSt := Kept.mk hst
    have hjl : j < W.length := (List.getElem?_eq_some_iff.1 hst.at_).1
    have hhl := hst.hl
    have hbr := hst.bel
    obtain ⟨la, lc, hlv⟩ := hst.own.form
    subst hlv
    have hp := hst.at_
    clear K0 hst
    by_cases hlt : j + 1 < W.length
    · have hii : (j : Int) + 1 < (W.length : Int) := by omega
      have n0 : (0 : Int) ≤ (j : Int) := by omega
      have n1 : (j : Int) < (W.length : Int) := by omega
      have n2 : (0 : Int) ≤ (j : Int) + 1 := by omega
      have e0 : IntKind.i64.wrap ((j : Int) + 1 - 1) = (j : Int) := by rw [show (j : Int) + 1 - 1 = (j : Int) by omega]; exact wr64 (by omega) (by omega)
      have e1 : IntKind.i64.wrap ((j : Int) + 1 + 1) = (j : Int) + 1 + 1 := wr64 (by omega) (by omega)
      have e2 : ((j : Int) + 1).toNat = j + 1 := by omega
      have e3 : IntKind.i64.wrap (j : Int) = (j : Int) := wr64 (by omega) (by omega)
      obtain ⟨q, hq⟩ : ∃ q, W[j + 1]? = some q := ⟨_, List.getElem?_eq_getElem hlt⟩
      have hsk := Kok.out.steps j p q hp hq
      obtain ⟨p1, p2⟩ := Kok.out.small p (List.mem_of_getElem? hp)
      obtain ⟨q1, q2⟩ := Kok.out.small q (List.mem_of_getElem? hq)
      have hpq : p.1 ≤ q.1 ∧ p.2 ≤ q.2 := by
        rcases hsk with ⟨h, -⟩ | h | h <;> rw [h] <;> simp
      have cp := Kcell.out wr hbr j p hp
      have cq := Kcell.out wr hbr (j + 1) q hq
      have Kcp : Kept (∀ W', Below w.heap.size w W' → W'.cell? ⟨g, off + j, none⟩ = some (.complex .f64 (fl p.1) (fl p.2)) ∧ W'.cell? ⟨g, off + (j + 1), none⟩ = some (.complex .f64 (fl q.1) (fl q.2))) := ⟨fun W' hW' => ⟨Kcell.out W' hW' j p hp, Kcell.out W' hW' (j + 1) q hq⟩⟩
      have h11 : FloatKind.f64.format.order 4607182418800017408 4607182418800017408 = some .eq := by kernel_rfl
      have h01 : FloatKind.f64.format.order 0 4607182418800017408 = some .lt := by kernel_rfl
      have Kq := Kept.mk hq
      have Kpt : Kept (Value.complex .f64 (fl p.1) (fl p.2) = pt p.1 p.2 ∧ Value.complex .f64 (fl q.1) (fl q.2) = pt q.1 q.2) := ⟨⟨rfl, rfl⟩⟩
      by_cases hdg : q = (p.1 + 1, p.2 + 1)
      · have hsub := fun W' => c_sub (p := p) (q := q) (by omega) (by omega) (.inl ⟨hdg, rfl, rfl⟩) W'
        have Kn : Kept (∀ W', Below wr.heap.size wr W' → RkSt w W' W (.slice la hs.length lc) hs false (j + 1) q) := ⟨fun W' hW' => KSt.out.diag Kq.out hdg hW'⟩
        clear hsk hdg hp hq hpq Kcp Kpt
        generalize fl p.1 = FX at *
        generalize fl p.2 = FY at *
        generalize fl q.1 = FX2 at *
        generalize fl q.2 = FY2 at *
        go_upto_region 6 with fail
        go_quiet (fail)
        generalize hwq : World.drewN wr _ = wq
        have Kf : Kept (RkSt w wq W (.slice la hs.length lc) hs false (j + 1) q) := ⟨Kn.out wq (by rw [← hwq]; exact below_drewN (Below.refl _ _) _)⟩
        clear hwq hsub cp cq
        go_wp2
        go_roundw
        case rel => exact ⟨j + 1, hs, false, q, rfl, by go_num, Kf.out⟩
        case measure => simp [intOf]; omega
      · obtain ⟨d1, d2, hdd, hsub⟩ : ∃ d1 d2, ((d1 = 4607182418800017408 ∧ d2 = 0) ∨ (d1 = 0 ∧ d2 = 4607182418800017408)) ∧ ∀ W', (binOp .sub 45 (.complex .f64 (fl q.1) (fl q.2)) (.complex .f64 (fl p.1) (fl p.2))).run Try.prog W' = .ok (.complex .f64 d1 d2) W' := by
          rcases hsk with ⟨h1, -⟩ | h1 | h1
          · exact absurd h1 hdg
          · exact ⟨_, _, .inl ⟨rfl, rfl⟩, fun W' => c_sub (p := p) (q := q) (by omega) (by omega) (.inr (.inl ⟨h1, rfl, rfl⟩)) W'⟩
          · exact ⟨_, _, .inr ⟨rfl, rfl⟩, fun W' => c_sub (p := p) (q := q) (by omega) (by omega) (.inr (.inr ⟨h1, rfl, rfl⟩)) W'⟩
        have hnd : ((FloatKind.f64.format.order d1 4607182418800017408 == some .eq) && (FloatKind.f64.format.order d2 4607182418800017408 == some .eq)) = false := by
          rcases hdd with ⟨rfl, rfl⟩ | ⟨rfl, rfl⟩
          · rw [o01]; simp
          · rw [o01]; simp
        obtain ⟨t1, ht1⟩ : ∃ t1, (FloatKind.f64.format.order d1 4607182418800017408 == some .eq) = t1 := ⟨_, rfl⟩
        obtain ⟨t2, ht2⟩ : ∃ t2, (FloatKind.f64.format.order d2 4607182418800017408 == some .eq) = t2 := ⟨_, rfl⟩
        rw [ht1, ht2] at hnd
        have Kdg := Kept.mk hdg
        have Kpq := Kept.mk hpq
        clear hsk hdg hp hq hpq hdd h11 h01
        generalize fl p.1 = FX at *
        generalize fl p.2 = FY at *
        generalize fl q.1 = FX2 at *
        generalize fl q.2 = FY2 at *
        cases op with
        | true =>
          obtain ⟨hs0, h, hsE, hhp⟩ := KSt.out.yes rfl
          subst hsE
          go_upto_region 6 with fail
          go_quiet (fail)
          generalize hwq : World.drewN wr _ = wq
          have Kbq : Kept (Below w.heap.size w wq) := ⟨by rw [← hwq]; exact below_drewN hbr _⟩
          have Koq : Kept (OwnRk wq w.heap.size (.slice la (hs0 ++ [h]).length lc) (hs0 ++ [h])) := ⟨by rw [← hwq]; exact KSt.out.own⟩
          clear hwq hsub cp cq
          obtain ⟨cp, cq⟩ := Kcp.out wq Kbq.out
          obtain ⟨gh, ch, hvE, hgh, cT, fT, hstT⟩ := Koq.out.last
          have hla : la = some ⟨gh, 0, none⟩ := by injection hvE
          subst hla
          have hLn : (hs0 ++ [h]).length = hs0.length + 1 := by simp
          rw [hLn]
          rw [hLn] at hhl
          have el : IntKind.i64.wrap (((hs0.length + 1 : Nat) : Int) - 1) = (hs0.length : Int) := by rw [show ((hs0.length + 1 : Nat) : Int) - 1 = (hs0.length : Int) by omega]; exact wr64 (by omega) (by omega)
          have el2 : IntKind.i64.wrap (hs0.length : Int) = (hs0.length : Int) := wr64 (by omega) (by omega)
          have m0 : (0 : Int) ≤ (hs0.length : Int) := by omega
          have m1 : (hs0.length : Int) < ((hs0.length : Nat) : Int) + 1 := by omega
          unfold pt at cT
          have hsto := run_store_c wq _ FX2 FY2 _ cT fT
          have Kf : Kept (RkSt w (wq.setCell ⟨gh, hs0.length * 2 + 1, none⟩ (.complex .f64 FX2 FY2)) W (.slice (some ⟨gh, 0, none⟩) (hs0.length + 1) lc) (hs0 ++ [(h.1, q)]) true (j + 1) q) := ⟨by
            have h9 := KSt.out.grow hhp Kq.out Kdg.out Kpq.out (hstT q) (Kbq.out.setCell hgh _)
            rw [← Kpt.out.2] at h9
            rw [hLn] at h9
            exact h9⟩
          clear hvE hstT hLn KSt Koq
          go_wp2
          go_roundw
          case rel => exact ⟨j + 1, _, true, q, rfl, by go_num, Kf.out⟩
          case measure => simp [intOf]; omega
        | false =>
          go_upto_region 6 with fail
          go_quiet (fail)
          generalize hwq : World.drewN wr _ = wq
          have Kbq : Kept (Below w.heap.size w wq) := ⟨by rw [← hwq]; exact below_drewN hbr _⟩
          have Koq : Kept (OwnRk wq w.heap.size (.slice la hs.length lc) hs) := ⟨by rw [← hwq]; exact KSt.out.own⟩
          clear hwq hsub cp cq
          obtain ⟨cp, cq⟩ := Kcp.out wq Kbq.out
          have KOa := Kept.mk (World.ownsRow.alloc Koq.out (.cells #[.complex .f64 FX FY, .complex .f64 0 0] 67))
          have KBa := Kept.mk (Kbq.out.alloc Kbq.out.size (.cells #[.complex .f64 FX FY, .complex .f64 0 0] 67))
          have KCn : Kept (∀ j u, [Value.complex .f64 FX FY, .complex .f64 0 0][j]? = some u → (wq.alloc (.cells #[.complex .f64 FX FY, .complex .f64 0 0] 67)).cell? ((⟨wq.heap.size, 0, none⟩ : Addr).add j) = some u) := ⟨fun j u hu => by
            rw [add_plain, Nat.zero_add, cell_of_row _ _ j _ 67 (0, 0) (heap_alloc_new wq _)]
            simpa using hu⟩
          clear cq
          go_upto_region 10 with (at_builtin; refine wpList_append_own_at _ rfl _ _ 35 rfl w.heap.size 67 i0 z0 2 32 Try.underlying35 hi hz hsz hbt hzc (by decide) (.slice la hs.length lc) hs.length (hkV hs) rfl KOa.out ⟨wq.heap.size, 0, none⟩ 1 1 [.complex .f64 FX FY, .complex .f64 0 0] rfl rfl KCn.out (by simp [Value.oneCell']) (by unfold maxLen; omega) (by omega) KBa.out.size ?_; intro v5 w5 hown5 hgrow5 _ hat5; have KB5 := Kept.mk (KBa.out.grown hgrow5 KBa.out.size (fun k hk => (Koq.out.lt k hk).1)); have KO5 := Kept.mk hown5; clear hown5 hgrow5 hat5)
          have Ko5 : Kept (OwnRk w5 w.heap.size v5 (hs ++ [(p, (0, 0))])) := ⟨by
            have h9 := KO5.out
            unfold OwnRk
            rw [List.length_append, List.length_singleton, hkV_snoc]
            show w5.ownsRow w.heap.size 67 2 v5 (hs.length + 1) (hkV hs ++ [pt p.1 p.2, pt 0 0])
            rw [← Kpt.out.1]
            have e0 : pt 0 0 = .complex .f64 0 0 := by unfold pt; rw [fl_zero]
            rw [e0]
            exact h9⟩
          obtain ⟨gh, ch, hvE, hgh, cT, fT, hstT⟩ := Ko5.out.last
          subst hvE
          obtain ⟨-, cq⟩ := Kcp.out w5 KB5.out
          have el : IntKind.i64.wrap (((hs.length + 1 : Nat) : Int) - 1) = (hs.length : Int) := by rw [show ((hs.length + 1 : Nat) : Int) - 1 = (hs.length : Int) by omega]; exact wr64 (by omega) (by omega)
          have el2 : IntKind.i64.wrap (hs.length : Int) = (hs.length : Int) := wr64 (by omega) (by omega)
          have m0 : (0 : Int) ≤ (hs.length : Int) := by omega
          have m1 : (hs.length : Int) < ((hs.length : Nat) : Int) + 1 := by omega
          unfold pt at cT
          simp only at cT
          have hsto := run_store_c w5 _ FX2 FY2 _ cT fT
          have Kf : Kept (RkSt w (w5.setCell ⟨gh, hs.length * 2 + 1, none⟩ (.complex .f64 FX2 FY2)) W (.slice (some ⟨gh, 0, none⟩) (hs.length + 1) ch) (hs ++ [(p, q)]) true (j + 1) q) := ⟨by
            have h9 := KSt.out.push Kq.out Kdg.out Kpq.out (hstT q) (KB5.out.setCell hgh _)
            rw [← Kpt.out.2] at h9
            exact h9⟩
          clear hstT KSt Koq Ko5 KO5 KOa KCn cp
          go_wp2
          go_roundw
          case rel => exact ⟨j + 1, _, true, q, rfl, by go_num, Kf.out⟩
          case measure => simp [intOf]; omega
    · have hii : ¬ (j : Int) + 1 < (W.length : Int) := by omega
      have Kend : Kept (OwnRk wr w.heap.size (.slice la hs.length lc) (hksF [] W)) := ⟨by
        have hE := KSt.out.eq
        have hd : ∃ z, W.drop j = [z] := by
          refine ⟨W[j]'hjl, ?_⟩
          rw [List.drop_eq_getElem_cons hjl, List.drop_of_length_le (by omega)]
        obtain ⟨z, hd⟩ := hd
        rw [hE, hd, hksF_one]
        exact KSt.out.own⟩
      have KBf := Kept.mk hbr
      clear hbr hp
      go_wp2
      go_ret
      exact ⟨_, rfl, Kend.out, KBf.out⟩
end Go.Proofs.Ytjhcpmhjdhmjpaa
