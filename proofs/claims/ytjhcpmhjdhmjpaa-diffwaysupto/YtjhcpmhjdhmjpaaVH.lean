/-
  Walks: Hunks.
-/
import Derived.Test.YtjhcpmhjdhmjpaaVS
namespace Go.Proofs.Ytjhcpmhjdhmjpaa
open Go.RowKit

abbrev Pt := Nat × Nat
theorem run_store_c (w : World) (a : Addr) (X Y : Nat) (u : Value) (h : w.cell? a = some u) (hf : w.frozen? a = false) : (store a (.complex .f64 X Y)).run Try.prog w = .ok () (w.setCell a (.complex .f64 X Y)) := by
  rw [run_store Try.prog w a _ _ rfl]
  simp [h, hf]
/-- One step of the way among hunks. -/
def hstep (acc : List (Pt × Pt)) (p q : Pt) : List (Pt × Pt) :=
  if q = (p.1 + 1, p.2 + 1) then acc else match acc.getLast? with
    | some h => if h.2 = p then acc.dropLast ++ [(h.1, q)] else acc ++ [(p, q)]
    | none => [(p, q)]
/-- The hunks of a way. -/
def hksF : List (Pt × Pt) → List Pt → List (Pt × Pt)
  | acc, p :: q :: r => hksF (hstep acc p q) (q :: r)
  | acc, _ => acc
theorem hksF_two (acc : List (Pt × Pt)) (p q : Pt) (r : List Pt) : hksF acc (p :: q :: r) = hksF (hstep acc p q) (q :: r) := by rw [hksF]
theorem hksF_one (acc : List (Pt × Pt)) (p : Pt) : hksF acc [p] = acc := by rw [hksF]; intro _ _ _ h; cases h
theorem hstep_len (acc : List (Pt × Pt)) (p q : Pt) : (hstep acc p q).length ≤ acc.length + 1 := by
  unfold hstep
  split
  · omega
  · split
    · split
      · simp
      · simp
    · simp
def hkC (h : Pt × Pt) : List Value := [pt h.1.1 h.1.2, pt h.2.1 h.2.2]
def hkV (hs : List (Pt × Pt)) : List Value := hs.flatMap hkC
theorem hkV_len (hs : List (Pt × Pt)) : (hkV hs).length = hs.length * 2 := by
  induction hs with
  | nil => rfl
  | cons h hs ih => unfold hkV at ih ⊢; rw [List.flatMap_cons, List.length_append, ih, List.length_cons]; show 2 + _ = _; omega
theorem hkV_snoc (hs : List (Pt × Pt)) (h : Pt × Pt) : hkV (hs ++ [h]) = hkV hs ++ hkC h := by unfold hkV; rw [List.flatMap_append]; simp
/-- Hunks in memory of the call's own. -/
def OwnHk (w : World) (base : Nat) (v : Value) (hs : List (Pt × Pt)) : Prop := w.ownsRow base 47 2 v hs.length (hkV hs)
theorem OwnHk.lt {w : World} {base : Nat} {v : Value} {hs : List (Pt × Pt)} (h : OwnHk w base v hs) : ∀ g, v.ownBlock = some g → base ≤ g ∧ g < w.heap.size := by
  intro g hg
  rcases h.2 with ⟨rfl, hn⟩ | ⟨g', cap, cur, rfl, hbg, hg', hnc, hcm, hcs, htake⟩
  · cases hg
  · have : g' = g := by simpa [Value.ownBlock] using hg
    subst this
    exact ⟨hbg, (Array.getElem?_eq_some_iff.1 hg').1⟩
theorem OwnHk.far {w w' : World} {base : Nat} {v : Value} {hs : List (Pt × Pt)} (h : OwnHk w base v hs) (hb : ∀ g, v.ownBlock = some g → w'.heap[g]? = w.heap[g]?) : OwnHk w' base v hs := by
  refine ⟨h.1, ?_⟩
  rcases h.2 with h2 | ⟨g, cap, cur, rfl, hg, hh, r⟩
  · exact Or.inl h2
  · exact Or.inr ⟨g, cap, cur, rfl, hg, by rw [hb g rfl]; exact hh, r⟩
theorem OwnHk.later {B : Nat} {w w' : World} {base : Nat} {v : Value} {hs : List (Pt × Pt)} (h : OwnHk w base v hs) (hb : Below B w w') (hB : w.heap.size ≤ B) : OwnHk w' base v hs :=
  h.far fun g hg => hb.block g (Nat.lt_of_lt_of_le (h.lt g hg).2 hB)
theorem OwnHk.mono {base' : Nat} {w : World} {base : Nat} {v : Value} {hs : List (Pt × Pt)} (h : OwnHk w base v hs) (hb : base' ≤ base) : OwnHk w base' v hs := by
  refine ⟨h.1, ?_⟩
  rcases h.2 with h2 | ⟨g, cap, cur, hv, hg, r⟩
  · exact Or.inl h2
  · exact Or.inr ⟨g, cap, cur, hv, Nat.le_trans hb hg, r⟩
/-- The last hunk's end. -/
theorem OwnHk.last {w : World} {base : Nat} {v : Value} {hs : List (Pt × Pt)} {h : Pt × Pt} (ho : OwnHk w base v (hs ++ [h])) : ∃ g cap, v = .slice (some ⟨g, 0, none⟩) (hs.length + 1) cap ∧ base ≤ g ∧ w.cell? ⟨g, hs.length * 2 + 1, none⟩ = some (pt h.2.1 h.2.2) ∧ w.frozen? ⟨g, hs.length * 2 + 1, none⟩ = false ∧ ∀ q : Pt, OwnHk (w.setCell ⟨g, hs.length * 2 + 1, none⟩ (pt q.1 q.2)) base v (hs ++ [(h.1, q)]) := by
  have ho' := ho
  unfold OwnHk at ho
  rcases ho.2 with ⟨rfl, hn⟩ | ⟨g, cap, cur, rfl, hbg, hg, hnc, hcm, hcs, htake⟩
  · simp at hn
  · refine ⟨g, cap, by simp, hbg, ?_, ?_, fun q => ?_⟩
    · have := World.ownsRow.cells ho (g := g) rfl (hs.length * 2 + 1) (pt h.2.1 h.2.2) (by rw [hkV_snoc, List.getElem?_append_right (by rw [hkV_len]; omega), hkV_len]; simp [hkC])
      rw [add_plain, Nat.zero_add] at this
      exact this
    · simp [World.frozen?, hg]
    · have := (World.ownsRow.stored ho (hs.length * 2 + 1) (pt q.1 q.2)).1
      have e : (hkV (hs ++ [h])).set (hs.length * 2 + 1) (pt q.1 q.2) = hkV (hs ++ [(h.1, q)]) := by
        rw [hkV_snoc, hkV_snoc, List.set_append_right _ _ (by rw [hkV_len]; omega), hkV_len]
        simp [hkC]
      rw [e] at this
      unfold OwnHk
      simpa using this
theorem OwnHk.form {w : World} {base : Nat} {v : Value} {hs : List (Pt × Pt)} (h : OwnHk w base v hs) : ∃ a c, v = .slice a hs.length c := by
  rcases h.2 with ⟨rfl, hn⟩ | ⟨g, cap, cur, rfl, -⟩
  · exact ⟨none, 0, by rw [hn]⟩
  · exact ⟨_, _, rfl⟩
set_option maxRecDepth 100000 in
theorem info_hk : ∃ i z, Try.prog.info? 47 = some i ∧ i.zero = some z ∧ i.size = 2 ∧ i.bytes = 32 ∧ z.cells.size = 2 := by
  refine ⟨_, _, rfl, rfl, rfl, rfl, rfl⟩
theorem hstep_mem {acc : List (Pt × Pt)} {p q : Pt} (hp : p.1 ≤ 1000 ∧ p.2 ≤ 1000) (hq : q.1 ≤ 1000 ∧ q.2 ≤ 1000) (h : ∀ h ∈ acc, h.1.1 ≤ 1000 ∧ h.1.2 ≤ 1000 ∧ h.2.1 ≤ 1000 ∧ h.2.2 ≤ 1000) : ∀ h ∈ hstep acc p q, h.1.1 ≤ 1000 ∧ h.1.2 ≤ 1000 ∧ h.2.1 ≤ 1000 ∧ h.2.2 ≤ 1000 := by
  intro k hk
  unfold hstep at hk
  split at hk
  · exact h k hk
  · split at hk
    · rename_i l hl
      have hm := List.mem_of_getLast? hl
      split at hk
      · rcases List.mem_append.1 hk with hk | hk
        · exact h k ((List.dropLast_sublist acc).subset hk)
        · simp at hk; rw [hk]; exact ⟨(h l hm).1, (h l hm).2.1, hq⟩
      · rcases List.mem_append.1 hk with hk | hk
        · exact h k hk
        · simp at hk; rw [hk]; exact ⟨hp.1, hp.2, hq⟩
    · simp at hk; rw [hk]; exact ⟨hp.1, hp.2, hq⟩
/-- Where Hunks stands behind i steps. -/
structure HkSt (w2 wr : World) (W : List Pt) (hv : Value) (hs : List (Pt × Pt)) (i : Nat) : Prop where
  own : OwnHk wr w2.heap.size hv hs
  eq : hksF [] W = hksF hs (W.drop i)
  le : i < W.length
  hl : hs.length ≤ i
  sm : ∀ h ∈ hs, h.1.1 ≤ 1000 ∧ h.1.2 ≤ 1000 ∧ h.2.1 ≤ 1000 ∧ h.2.2 ≤ 1000
  bel : Below w2.heap.size w2 wr
theorem HkSt.step {w2 wr wr' : World} {W : List Pt} {hv hv' : Value} {hs : List (Pt × Pt)} {i : Nat} {p q : Pt} (h : HkSt w2 wr W hv hs i) (hp : W[i]? = some p) (hq : W[i + 1]? = some q) (ho : OwnHk wr' w2.heap.size hv' (hstep hs p q)) (hb : Below w2.heap.size w2 wr') (sp : p.1 ≤ 1000 ∧ p.2 ≤ 1000) (sq : q.1 ≤ 1000 ∧ q.2 ≤ 1000) : HkSt w2 wr' W hv' (hstep hs p q) (i + 1) := by
  have hl2 : i + 1 < W.length := (List.getElem?_eq_some_iff.1 hq).1
  have e1 : W.drop i = p :: q :: W.drop (i + 2) := by
    rw [List.drop_eq_getElem_cons (by omega), List.drop_eq_getElem_cons hl2]
    rw [List.getElem?_eq_getElem (by omega)] at hp
    rw [List.getElem?_eq_getElem hl2] at hq
    injection hp with hp
    injection hq with hq
    rw [hp, hq]
  have e2 : W.drop (i + 1) = q :: W.drop (i + 2) := by
    rw [List.drop_eq_getElem_cons hl2]
    rw [List.getElem?_eq_getElem hl2] at hq
    injection hq with hq
    rw [hq]
  exact ⟨ho, by rw [h.eq, e1, e2, hksF_two], hl2, by have := hstep_len hs p q; have := h.hl; omega, hstep_mem sp sq h.sm, hb⟩
set_option maxHeartbeats 4000000 in
set_option maxRecDepth 100000 in
theorem hunks_any (v u : Value) (a b : List ByteArray) (w : World) (hv : RdS w v a) (hu : RdS w u b) (ha : ∀ s ∈ a, s.size ≤ maxLen) (hb : ∀ s ∈ b, s.size ≤ maxLen) :
    Calls Try.prog 15 #[v, u] w fun e w' => Below w.heap.size w w' ∧ ((longB a.length b.length = true ∧ e = .returned (.tuple #[.slice none 0 0, .int .i64 2])) ∨ (longB a.length b.length = false ∧ ∃ v', e = .returned (.tuple #[v', .int .i64 0]) ∧ OwnHk w' w.heap.size v' (hksF [] (wayP a b 0 0)))) := by
  have K1 := Kept.mk (way_any v u a b w hv hu ha hb)
  obtain ⟨pa, pc, rfl⟩ := hv.form
  obtain ⟨qa, qc, rfl⟩ := hu.form
  obtain ⟨i0, z0, hi, hz, hsz, hbt, hzc⟩ := info_hk
  clear hv hu ha hb
  go_enter Try.func15, Try.ntmps15
  go_wp2_with fail
  refine Calls.mono K1.out (fun e w2 hp => ?_)
  obtain ⟨hB, hor⟩ := hp
  have KB := Kept.mk hB
  clear hB K1
  rcases hor with ⟨hL, rfl⟩ | ⟨hL, v2, rfl, ho⟩
  · have KL := Kept.mk hL
    clear hL
    go_wp2
    go_ret2
    exact ⟨KB.out, .inl ⟨KL.out, rfl⟩⟩
  · obtain ⟨hal, hbl⟩ : a.length ≤ 1000 ∧ b.length ≤ 1000 := by
      unfold longB at hL
      rw [Bool.or_eq_false_iff, decide_eq_false_iff_not, decide_eq_false_iff_not] at hL
      omega
    have KL := Kept.mk hL
    obtain ⟨hok, -, hlen⟩ := way_all a b _ a b 0 0 (Nat.le_refl _) rfl rfl (Nat.zero_le _) (Nat.zero_le _)
    obtain ⟨r0, hr0⟩ := wayP_head a b 0 0
    have hne : wayP a b 0 0 ≠ [] := by rw [hr0]; simp
    obtain ⟨g, cap, rfl, hgb, hcell⟩ := ho.open hne
    have hcl : (wayP a b 0 0).length ≤ cap := by
      rcases ho.2 with ⟨h1, -⟩ | ⟨g', cap', cur, h1, -, -, h2, -⟩
      · cases h1
      · injection h1 with _ _ h3; omega
    have hpos : 0 < (wayP a b 0 0).length := by rw [hr0]; simp
    have K0 : Kept (HkSt w2 w2 (wayP a b 0 0) (.slice none 0 0) [] 0) := ⟨⟨World.ownsRow_nil w2 w2.heap.size 47 2, rfl, hpos, Nat.zero_le _, (fun h hh => by cases hh), Below.refl _ _⟩⟩
    generalize hWe : wayP a b 0 0 = W at *
    have KW := Kept.mk hWe
    clear hWe
    have Kok := Kept.mk hok
    have Kcell := Kept.mk hcell
    clear hL ho hok hcell hr0 hne hgb
    obtain ⟨l1, hl1⟩ : ∃ l1, W.length = l1 + 1 := ⟨W.length - 1, by omega⟩
    by_cases hcap : cap = 1
    · subst hcap
      have hl0 : l1 = 0 := by omega
      subst hl0
      have KE : Kept (hksF [] W = []) := ⟨by
        cases W with
        | nil => simp at hpos
        | cons x r =>
          have : r = [] := List.eq_nil_of_length_eq_zero (by simpa using hl1)
          rw [this, hksF_one]⟩
      have Knil : Kept (OwnHk w2 w.heap.size (.slice none 0 0) []) := ⟨World.ownsRow_nil w2 w.heap.size 47 2⟩
      rw [hl1]
      clear hl1 hlen hpos hcl K0 Kok Kcell hi hz hsz hbt hzc
      go_upto_region 6 with fail
      go_loopw [8, 25] (fun hv iv wr => hv = .slice none 0 0 ∧ iv = .int .i64 0 ∧ wr = w2) (fun _ _ _ => 0)
      case atStart => exact ⟨rfl, rfl, rfl⟩
      case round =>
        obtain ⟨rfl, rfl, rfl⟩ := hrel
        go_wp2
        go_ret2
        exact ⟨KB.out, .inr ⟨KL.out, _, rfl, by rw [KW.out, KE.out]; exact Knil.out⟩⟩
    · have i1 : (1 : Int) ≤ (W.length : Int) := by omega
      have hcap2 : ¬ (cap - 1 = 0) := by omega
      rw [hl1]
      rw [hl1] at hlen hcl
      have Kl1 := Kept.mk hl1
      clear hl1 hpos i1
      go_upto_region 6 with fail
      have K0 : Kept (HkSt w2 w2 W (.slice none 0 0) [] 0) := K0
      go_loopw [8, 25] (fun hv iv wr => ∃ (i : Nat) (hs : List (Pt × Pt)), i ≤ l1 ∧ iv = .int .i64 i ∧ HkSt w2 wr W hv hs i) (fun _ iv _ => l1 - (intOf iv).toNat)
      case atStart => exact ⟨0, [], Nat.zero_le _, rfl, K0.out⟩
      case round =>
        obtain ⟨i, hs, hil, rfl, hst⟩ := hrel
        have KSt := Kept.mk hst
        have KBr := Kept.mk hst.bel
        have hO := Kept.mk hst.own
        have hhl := hst.hl
        obtain ⟨ha, hc, hfm⟩ := hst.own.form
        rw [hfm]
        rw [hfm] at KSt hO
        clear K0
        by_cases hlt : i < l1
        · have hii : (i : Int) < (l1 : Int) := by omega
          have n0 : (0 : Int) ≤ (i : Int) := by omega
          have n1 : (i : Int) < ((l1 : Nat) : Int) + 1 := by omega
          have e1 : IntKind.i64.wrap ((i : Int) + 1) = (i : Int) + 1 := wr64 (by omega) (by omega)
          have hWl := Kl1.out
          obtain ⟨p, hp⟩ : ∃ p, W[i]? = some p := ⟨_, List.getElem?_eq_getElem (by omega)⟩
          obtain ⟨q, hq⟩ : ∃ q, W[i + 1]? = some q := ⟨_, List.getElem?_eq_getElem (by omega)⟩
          have hsk := Kok.out.steps i p q hp hq
          obtain ⟨p1, p2⟩ := Kok.out.small p (List.mem_of_getElem? hp)
          have cp := Kcell.out wr hst.bel i p hp
          have cq := Kcell.out wr hst.bel (i + 1) q hq
          rw [Nat.add_comm i 1] at cq
          obtain ⟨x, y⟩ := p
          simp only at p1 p2 cp
          obtain ⟨q1, q2⟩ := Kok.out.small q (List.mem_of_getElem? hq)
          have Ksp : Kept ((x, y).1 ≤ 1000 ∧ (x, y).2 ≤ 1000) := ⟨⟨by show x ≤ 1000; omega, by show y ≤ 1000; omega⟩⟩
          have Ksq : Kept (q.1 ≤ 1000 ∧ q.2 ≤ 1000) := ⟨⟨by omega, by omega⟩⟩
          have Kp := Kept.mk hp
          have Kq := Kept.mk hq
          have h11 := o11
          have h01 := o01
          have h10 := o10
          have el : IntKind.i64.wrap ((hs.length : Int) - 1) = (hs.length : Int) - 1 := wr64 (by omega) (by omega)
          by_cases hdg : q = (x + 1, y + 1)
          · have hsub := c_sub (p := (x, y)) (q := q) (by simp; omega) (by simp; omega) (.inl ⟨hdg, rfl, rfl⟩) wr
            simp only at hsub
            have Kh : Kept (hstep hs (x, y) q = hs) := ⟨by unfold hstep; rw [if_pos hdg]⟩
            have Knew : Kept (HkSt w2 wr W (.slice ha hs.length hc) hs (i + 1)) := ⟨by have h := KSt.out.step hp hq (by rw [Kh.out]; exact hO.out) KBr.out Ksp.out Ksq.out; rw [Kh.out] at h; exact h⟩
            clear hst hdg hsk hp hq hfm
            generalize fl x = X at *
            generalize fl y = Y at *
            generalize fl q.1 = X2 at *
            generalize fl q.2 = Y2 at *
            go_wp2
            go_roundw
            case rel => exact ⟨i + 1, hs, hlt, by go_num, Knew.out⟩
            case measure => simp [intOf]; omega
          · obtain ⟨d1, d2, hdd, hsub⟩ : ∃ d1 d2, ((d1 = 4607182418800017408 ∧ d2 = 0) ∨ (d1 = 0 ∧ d2 = 4607182418800017408)) ∧ (binOp .sub 45 (.complex .f64 (fl q.1) (fl q.2)) (.complex .f64 (fl x) (fl y))).run Try.prog wr = .ok (.complex .f64 d1 d2) wr := by
              rcases hsk with ⟨h1, -⟩ | h1 | h1
              · exact absurd h1 hdg
              · exact ⟨_, _, .inl ⟨rfl, rfl⟩, c_sub (p := (x, y)) (q := q) (by simp; omega) (by simp; omega) (.inr (.inl ⟨h1, rfl, rfl⟩)) wr⟩
              · exact ⟨_, _, .inr ⟨rfl, rfl⟩, c_sub (p := (x, y)) (q := q) (by simp; omega) (by simp; omega) (.inr (.inr ⟨h1, rfl, rfl⟩)) wr⟩
            have hnd : ((FloatKind.f64.format.order d1 4607182418800017408 == some .eq) && (FloatKind.f64.format.order d2 4607182418800017408 == some .eq)) = false := by
              rcases hdd with ⟨rfl, rfl⟩ | ⟨rfl, rfl⟩
              · rw [o01]; simp
              · rw [o01]; simp
            obtain ⟨t1, ht1⟩ : ∃ t1, (FloatKind.f64.format.order d1 4607182418800017408 == some .eq) = t1 := ⟨_, rfl⟩
            obtain ⟨t2, ht2⟩ : ∃ t2, (FloatKind.f64.format.order d2 4607182418800017408 == some .eq) = t2 := ⟨_, rfl⟩
            rw [ht1, ht2] at hnd
            have KX : Kept (Value.complex .f64 (fl x) (fl y) = pt x y) := ⟨rfl⟩
            have KX2 : Kept (Value.complex .f64 (fl q.1) (fl q.2) = pt q.1 q.2) := ⟨rfl⟩
            rcases List.eq_nil_or_concat hs with hs0 | ⟨hs0, h, hsE⟩
            · subst hs0
              have Kh : Kept (hstep [] (x, y) q = [] ++ [((x, y), q)]) := ⟨by unfold hstep; rw [if_neg hdg]; rfl⟩
              have hge : decide (((0 : Nat) : Int) - 1 ≥ 0) = false := by decide
              clear hdg hsk hp hq hfm hdd h11 h01 h10
              generalize fl x = X at *
              generalize fl y = Y at *
              generalize fl q.1 = X2 at *
              generalize fl q.2 = Y2 at *
              have hOa := World.ownsRow.alloc hO.out (.cells #[.complex .f64 X Y, .complex .f64 X2 Y2] 47)
              have KOa := Kept.mk hOa
              have KO := hO
              have KBa := Kept.mk (KBr.out.alloc KBr.out.size (.cells #[.complex .f64 X Y, .complex .f64 X2 Y2] 47))
              have KCn : Kept (∀ j u, [Value.complex .f64 X Y, .complex .f64 X2 Y2][j]? = some u → (wr.alloc (.cells #[.complex .f64 X Y, .complex .f64 X2 Y2] 47)).cell? ((⟨wr.heap.size, 0, none⟩ : Addr).add j) = some u) := ⟨fun j u hu => by
                rw [add_plain, Nat.zero_add, cell_of_row _ _ j _ 47 (0, 0) (heap_alloc_new wr _)]
                simpa using hu⟩
              clear hOa hst
              go_wp2_with (at_builtin; refine wpList_append_own_at _ rfl _ _ 32 rfl w2.heap.size 47 i0 z0 2 32 Try.underlying32 hi hz hsz hbt hzc (by decide) (.slice ha ([] : List (Pt × Pt)).length hc) ([] : List (Pt × Pt)).length (hkV []) rfl KOa.out ⟨wr.heap.size, 0, none⟩ 1 1 [.complex .f64 X Y, .complex .f64 X2 Y2] rfl rfl KCn.out (by simp [Value.oneCell']) (by unfold maxLen; omega) (by omega) KBa.out.size ?_; intro v5 w5 hown5 hgrow5 _ hat5; have KB5 := Kept.mk (KBa.out.grown hgrow5 KBa.out.size (fun k hk => (KO.out.lt k hk).1)); have KO5 := Kept.mk hown5; clear hown5 hgrow5 hat5)
              go_roundw
              case rel =>
                refine ⟨i + 1, _, by omega, by go_num, KSt.out.step Kp.out Kq.out (?_ : OwnHk w5 w2.heap.size v5 (hstep [] (x, y) q)) KB5.out Ksp.out Ksq.out⟩
                have h := KO5.out
                rw [Kh.out]
                unfold OwnHk
                rw [List.length_append, List.length_singleton, hkV_snoc]
                show w5.ownsRow w2.heap.size 47 2 v5 (([] : List (Pt × Pt)).length + 1) (hkV [] ++ [pt x y, pt q.1 q.2])
                rw [← KX.out, ← KX2.out]
                exact h
              case measure => simp [intOf]; omega
            · rw [List.concat_eq_append] at hsE
              subst hsE
              obtain ⟨gh, ch, hvE, hgh, cT, fT, hstT⟩ := hO.out.last
              have hha : ha = some ⟨gh, 0, none⟩ := by injection hvE
              subst hha
              obtain ⟨-, -, s3, s4⟩ := hst.sm h (by simp)
              have ho1 := fl_order (x := h.2.1) (y := x) (by omega) (by omega)
              have ho2 := fl_order (x := h.2.2) (y := y) (by omega) (by omega)
              have hLn : (hs0 ++ [h]).length = hs0.length + 1 := by simp
              rw [hLn] at el hhl
              have hge : decide (((hs0.length + 1 : Nat) : Int) - 1 ≥ 0) = true := decide_eq_true (by omega)
              have eL : ((hs0.length + 1 : Nat) : Int) - 1 = (hs0.length : Int) := by omega
              rw [eL] at el hge
              have m0 : (0 : Int) ≤ (hs0.length : Int) := by omega
              have m1 : (hs0.length : Int) < ((hs0.length : Nat) : Int) + 1 := by omega
              have hOn : wr.ownsRow w2.heap.size 47 2 (.slice (some ⟨gh, 0, none⟩) (hs0.length + 1) hc) (hs0.length + 1) (hkV (hs0 ++ [h])) := by
                have h1 := hO.out
                unfold OwnHk at h1
                rw [hLn] at h1
                exact h1
              rw [hLn]
              rw [hLn] at KSt hO hstT
              have hLn2 := Kept.mk hLn
              by_cases hT : h.2 = (x, y)
              · have ho1' : (FloatKind.f64.format.order (fl h.2.1) (fl x) == some .eq) = true := by rw [ho1, hT]; simp
                have ho2' : (FloatKind.f64.format.order (fl h.2.2) (fl y) == some .eq) = true := by rw [ho2, hT]; simp
                have Kh : Kept (hstep (hs0 ++ [h]) (x, y) q = hs0 ++ [(h.1, q)]) := ⟨by
                  unfold hstep
                  rw [if_neg hdg, List.getLast?_concat]
                  simp only
                  rw [if_pos hT, List.dropLast_concat]⟩
                have Kn : Kept (HkSt w2 (wr.setCell ⟨gh, hs0.length * 2 + 1, none⟩ (.complex .f64 (fl q.1) (fl q.2))) W (.slice (some ⟨gh, 0, none⟩) (hs0.length + 1) hc) (hs0 ++ [(h.1, q)]) (i + 1)) := ⟨by
                  have h1 := KSt.out.step Kp.out Kq.out (by rw [Kh.out]; exact hstT q) (KBr.out.setCell hgh _) Ksp.out Ksq.out
                  rw [Kh.out] at h1
                  exact h1⟩
                unfold pt at cT
                have hsto := run_store_c wr _ (fl q.1) (fl q.2) _ cT fT
                clear hst hdg hsk hp hq hfm hdd h11 h01 h10 ho1 ho2 hT hOn hvE hstT hLn
                generalize fl x = X at *
                generalize fl y = Y at *
                generalize fl q.1 = X2 at *
                generalize fl q.2 = Y2 at *
                generalize fl h.2.1 = X3 at *
                generalize fl h.2.2 = Y3 at *
                go_wp2
                go_roundw
                case rel => exact ⟨i + 1, _, by omega, by go_num, Kn.out⟩
                case measure => simp [intOf]; omega
              · have hnT : ((FloatKind.f64.format.order (fl h.2.1) (fl x) == some .eq) && (FloatKind.f64.format.order (fl h.2.2) (fl y) == some .eq)) = false := by
                  rw [ho1, ho2]
                  simp
                  intro e1 e2
                  exact hT (Prod.ext e1 e2)
                obtain ⟨u1, hu1⟩ : ∃ u1, (FloatKind.f64.format.order (fl h.2.1) (fl x) == some .eq) = u1 := ⟨_, rfl⟩
                obtain ⟨u2, hu2⟩ : ∃ u2, (FloatKind.f64.format.order (fl h.2.2) (fl y) == some .eq) = u2 := ⟨_, rfl⟩
                rw [hu1, hu2] at hnT
                have Kh : Kept (hstep (hs0 ++ [h]) (x, y) q = (hs0 ++ [h]) ++ [((x, y), q)]) := ⟨by
                  unfold hstep
                  rw [if_neg hdg, List.getLast?_concat]
                  simp only
                  rw [if_neg hT]⟩
                unfold pt at cT
                clear hdg hsk hp hq hfm hdd h11 h01 h10 ho1 ho2 hT hvE hstT hLn
                generalize fl x = X at *
                generalize fl y = Y at *
                generalize fl q.1 = X2 at *
                generalize fl q.2 = Y2 at *
                generalize fl h.2.1 = X3 at *
                generalize fl h.2.2 = Y3 at *
                have hOa := World.ownsRow.alloc hOn (.cells #[.complex .f64 X Y, .complex .f64 X2 Y2] 47)
                have KOa := Kept.mk hOa
                have KO := hO
                have KBa := Kept.mk (KBr.out.alloc KBr.out.size (.cells #[.complex .f64 X Y, .complex .f64 X2 Y2] 47))
                have KCn : Kept (∀ j u, [Value.complex .f64 X Y, .complex .f64 X2 Y2][j]? = some u → (wr.alloc (.cells #[.complex .f64 X Y, .complex .f64 X2 Y2] 47)).cell? ((⟨wr.heap.size, 0, none⟩ : Addr).add j) = some u) := ⟨fun j u hu => by
                  rw [add_plain, Nat.zero_add, cell_of_row _ _ j _ 47 (0, 0) (heap_alloc_new wr _)]
                  simpa using hu⟩
                clear hOa hst
                go_wp2_with (at_builtin; refine wpList_append_own_at _ rfl _ _ 32 rfl w2.heap.size 47 i0 z0 2 32 Try.underlying32 hi hz hsz hbt hzc (by decide) (.slice (some ⟨gh, 0, none⟩) (hs0.length + 1) hc) (hs0.length + 1) (hkV (hs0 ++ [h])) rfl KOa.out ⟨wr.heap.size, 0, none⟩ 1 1 [.complex .f64 X Y, .complex .f64 X2 Y2] rfl rfl KCn.out (by simp [Value.oneCell']) (by unfold maxLen; omega) (by omega) KBa.out.size ?_; intro v5 w5 hown5 hgrow5 _ hat5; have KB5 := Kept.mk (KBa.out.grown hgrow5 KBa.out.size (fun k hk => (KO.out.lt k hk).1)); have KO5 := Kept.mk hown5; clear hown5 hgrow5 hat5)
                go_roundw
                case rel =>
                  refine ⟨i + 1, _, by omega, by go_num, KSt.out.step Kp.out Kq.out (?_ : OwnHk w5 w2.heap.size v5 (hstep (hs0 ++ [h]) (x, y) q)) KB5.out Ksp.out Ksq.out⟩
                  have h9 := KO5.out
                  rw [Kh.out]
                  unfold OwnHk
                  rw [List.length_append, List.length_singleton, hLn2.out, hkV_snoc]
                  show w5.ownsRow w2.heap.size 47 2 v5 (hs0.length + 1 + 1) (hkV (hs0 ++ [h]) ++ [pt x y, pt q.1 q.2])
                  rw [← KX.out, ← KX2.out]
                  exact h9
                case measure => simp [intOf]; omega
        · have hii : ¬ (i : Int) < (l1 : Int) := by omega
          have Kend : Kept (OwnHk wr w.heap.size (.slice ha hs.length hc) (hksF [] W)) := ⟨by
            have hE := KSt.out.eq
            have hle := KSt.out.le
            have hWl := Kl1.out
            have hiE : i = l1 := by omega
            have hd : ∃ z, W.drop i = [z] := by
              refine ⟨W[i]'hle, ?_⟩
              rw [List.drop_eq_getElem_cons hle, List.drop_of_length_le (by omega)]
            obtain ⟨z, hd⟩ := hd
            rw [hE, hd, hksF_one]
            exact hO.out.mono KB.out.size⟩
          have KBf := Kept.mk (KB.out.trans (KBr.out.mono KB.out.size))
          clear hst hfm
          go_wp2
          go_ret2
          exact ⟨KBf.out, .inr ⟨KL.out, _, rfl, by rw [KW.out]; exact Kend.out⟩⟩
end Go.Proofs.Ytjhcpmhjdhmjpaa
