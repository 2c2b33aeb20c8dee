/-
  Walks: Way.
-/
import Derived.Test.YtidpdhnbnecddaaV8
import Derived.Maps.AppendAt
namespace Go.Proofs.Ytidpdhnbnecddaa
open Go.RowKit

def ptsV (W : List (Nat × Nat)) : List Value := W.map fun q => pt q.1 q.2
theorem ptsV_len (W : List (Nat × Nat)) : (ptsV W).length = W.length := by unfold ptsV; simp
/-- Points in memory of the call's own. -/
def OwnW (w : World) (base : Nat) (v : Value) (W : List (Nat × Nat)) : Prop := w.ownsRow base 74 1 v W.length (ptsV W)
theorem OwnW.lt {w : World} {base : Nat} {v : Value} {W : List (Nat × Nat)} (h : OwnW w base v W) : ∀ g, v.ownBlock = some g → base ≤ g ∧ g < w.heap.size := by
  intro g hg
  rcases h.2 with ⟨rfl, hn⟩ | ⟨g', cap, cur, rfl, hbg, hg', hnc, hcm, hcs, htake⟩
  · cases hg
  · have : g' = g := by simpa [Value.ownBlock] using hg
    subst this
    exact ⟨hbg, (Array.getElem?_eq_some_iff.1 hg').1⟩
theorem OwnW.far {w w' : World} {base : Nat} {v : Value} {W : List (Nat × Nat)} (h : OwnW w base v W) (hb : ∀ g, v.ownBlock = some g → w'.heap[g]? = w.heap[g]?) : OwnW w' base v W := by
  refine ⟨h.1, ?_⟩
  rcases h.2 with h2 | ⟨g, cap, cur, rfl, hg, hh, r⟩
  · exact Or.inl h2
  · exact Or.inr ⟨g, cap, cur, rfl, hg, by rw [hb g rfl]; exact hh, r⟩
theorem OwnW.later {B : Nat} {w w' : World} {base : Nat} {v : Value} {W : List (Nat × Nat)} (h : OwnW w base v W) (hb : Below B w w') (hB : w.heap.size ≤ B) : OwnW w' base v W :=
  h.far fun g hg => hb.block g (Nat.lt_of_lt_of_le (h.lt g hg).2 hB)
theorem OwnW.mono {base' : Nat} {w : World} {base : Nat} {v : Value} {W : List (Nat × Nat)} (h : OwnW w base v W) (hb : base' ≤ base) : OwnW w base' v W := by
  refine ⟨h.1, ?_⟩
  rcases h.2 with h2 | ⟨g, cap, cur, hv, hg, r⟩
  · exact Or.inl h2
  · exact Or.inr ⟨g, cap, cur, hv, Nat.le_trans hb hg, r⟩
theorem ownsRow_rd {w : World} {base : Nat} {T : TypeId} {v : Value} {cs : List Value} (h : w.ownsRow base T 1 v cs.length cs) : RdV w v cs := by
  have h' := h
  rcases h.2 with ⟨rfl, hn⟩ | ⟨g, cap, cur, rfl, hbg, hg, hnc, hcm, hcs, htake⟩
  · have hx : cs = [] := List.eq_nil_of_length_eq_zero hn
    subst hx
    exact RdV.nil w
  · refine ⟨some ⟨g, 0, none⟩, cap, rfl, hnc, fun _ => ⟨g, 0, rfl, (Array.getElem?_eq_some_iff.1 hg).1, fun j u hu => ?_⟩⟩
    have := World.ownsRow.cells h' (g := g) rfl j u hu
    rw [add_plain, Nat.zero_add] at this
    rw [Nat.zero_add]
    exact this
theorem OwnW.rd {w : World} {base : Nat} {v : Value} {W : List (Nat × Nat)} (h : OwnW w base v W) : RdV w v (ptsV W) := ownsRow_rd (base := base) (T := 74) (by rw [ptsV_len]; exact h)
set_option maxRecDepth 100000 in
theorem info_c : ∃ i z, Try.prog.info? 74 = some i ∧ i.zero = some z ∧ i.size = 1 ∧ i.bytes = 16 ∧ z.cells.size = 1 := by
  refine ⟨_, _, rfl, rfl, rfl, rfl, rfl⟩
theorem pt_neq {x y n m : Nat} (hx : x < 1100) (hy : y < 1100) (hn : n < 1100) (hm : m < 1100) (w : World) : (binOp .neq 74 (pt x y) (pt n m)).run Try.prog w = .ok (.bool !(decide (x = n) && decide (y = m))) w := by
  unfold pt
  rw [run_neq_complex, fl_order hx hn, fl_order hy hm]
theorem stp_cases {α : Type} [DecidableEq α] (us vs : List α) : stp us vs = (1, 1) ∨ stp us vs = (1, 0) ∨ stp us vs = (0, 1) := by
  cases us with
  | nil => exact .inr (.inr rfl)
  | cons p us =>
    cases vs with
    | nil => exact .inr (.inl rfl)
    | cons q vs =>
      rw [stp_cons]
      split
      · exact .inl rfl
      · split
        · exact .inr (.inl rfl)
        · exact .inr (.inr rfl)
theorem stp_fit {α : Type} [DecidableEq α] {us vs : List α} (h : us ≠ [] ∨ vs ≠ []) : (stp us vs).1 ≤ us.length ∧ (stp us vs).2 ≤ vs.length := by
  cases us with
  | nil =>
    cases vs with
    | nil => simp at h
    | cons q vs => exact ⟨Nat.zero_le _, by show 1 ≤ _; simp⟩
  | cons p us =>
    cases vs with
    | nil => exact ⟨by show 1 ≤ _; simp, Nat.zero_le _⟩
    | cons q vs =>
      rw [stp_cons]
      split
      · exact ⟨by simp, by simp⟩
      · split
        · exact ⟨by simp, by simp⟩
        · exact ⟨by simp, by simp⟩
theorem add_stp {x y : Nat} (hx : x < 1100) (hy : y < 1100) {d : Nat × Nat} (hd : d = (1, 1) ∨ d = (1, 0) ∨ d = (0, 1)) (w : World) : (binOp .add 74 (pt x y) (pt d.1 d.2)).run Try.prog w = .ok (pt (x + d.1) (y + d.2)) w := by
  obtain ⟨h1, h2, h3⟩ := c_add hx hy w
  rcases hd with rfl | rfl | rfl
  · rw [pt11]; exact h3
  · rw [pt10]; exact h1
  · rw [pt01]; exact h2
/-- Where the way stands. -/
structure WySt (w1 wr : World) (a b : List ByteArray) (wv : Value) (x y : Nat) (pre : List (Nat × Nat)) : Prop where
  own : OwnW wr w1.heap.size wv (pre ++ [(x, y)])
  eq : wayP a b 0 0 = pre ++ wayP (a.drop x) (b.drop y) x y
  xl : x ≤ a.length
  yl : y ≤ b.length
  pl : pre.length ≤ x + y
  bel : Below w1.heap.size w1 wr
def slN : Value → Nat
  | .slice _ n _ => n
  | _ => 0
theorem OwnW.len {w : World} {base : Nat} {v : Value} {W : List (Nat × Nat)} (h : OwnW w base v W) : slN v = W.length := by
  rcases h.2 with ⟨rfl, hn⟩ | ⟨g, cap, cur, rfl, -⟩
  · exact hn.symm
  · rfl
def wayV (v : Value) (L : Bool) : Value := if L then .tuple #[.slice none 0 0, .int .i64 2] else .tuple #[v, .int .i64 0]
set_option maxHeartbeats 2000000 in
set_option maxRecDepth 100000 in
theorem way_any (v u : Value) (a b : List ByteArray) (w : World) (hv : RdS w v a) (hu : RdS w u b) (ha : ∀ s ∈ a, s.size ≤ maxLen) (hb : ∀ s ∈ b, s.size ≤ maxLen) :
    Calls Try.prog 42 #[v, u] w fun e w' => Below w.heap.size w w' ∧ ((longB a.length b.length = true ∧ e = .returned (.tuple #[.slice none 0 0, .int .i64 2])) ∨ (longB a.length b.length = false ∧ ∃ v', e = .returned (.tuple #[v', .int .i64 0]) ∧ OwnW w' w.heap.size v' (wayP a b 0 0))) := by
  have K1 := Kept.mk (newPlane_any v u a b w hv hu ha hb)
  obtain ⟨pa, pc, rfl⟩ := hv.form
  obtain ⟨qa, qc, rfl⟩ := hu.form
  obtain ⟨i0, z0, hi, hz, hsz, hbt, hzc⟩ := info_c
  clear hv hu ha hb
  go_enter Try.func42, Try.ntmps42
  go_wp2_with fail
  refine Calls.mono K1.out (fun e w1 hp => ?_)
  obtain ⟨hB, hor⟩ := hp
  have KB := Kept.mk hB
  clear hB K1
  rcases hor with ⟨hL, rfl⟩ | ⟨hL, p, hpw, rfl, hP⟩
  · have KL := Kept.mk hL
    clear hL
    go_wp2
    go_ret2
    exact ⟨KB.out, .inl ⟨KL.out, rfl⟩⟩
  · obtain ⟨hal, hbl⟩ : a.length ≤ 1000 ∧ b.length ≤ 1000 := by
      unfold longB at hL
      rw [Bool.or_eq_false_iff, decide_eq_false_iff_not, decide_eq_false_iff_not] at hL
      omega
    have KL := Kept.mk hL
    have KP := Kept.mk hP
    have K0 : Kept (WySt w1 (w1.alloc (.cells #[.complex .f64 0 0] 74)) a b (.slice (some ⟨w1.heap.size, 0, none⟩) 1 1) 0 0 []) := ⟨⟨by
        refine ⟨by simp [ptsV], Or.inr ⟨w1.heap.size, 1, #[.complex .f64 0 0], rfl, Nat.le_refl _, heap_alloc_new w1 _, Nat.le_refl _, by decide, rfl, ?_⟩⟩
        show [Value.complex .f64 0 0] = [pt 0 0]
        unfold pt
        rw [fl_zero], rfl, Nat.zero_le _, Nat.zero_le _, Nat.zero_le _, (Below.refl _ _).alloc (Nat.le_refl _) _⟩⟩
    have Kp0 : Kept (Value.complex .f64 0 0 = pt 0 0) := ⟨by unfold pt; rw [fl_zero]⟩
    clear hL hP hpw
    go_upto_region 6 with fail
    go_loopw [8, 9] (fun av wv wr => ∃ x y pre, av = pt x y ∧ WySt w1 wr a b wv x y pre) (fun _ wv _ => a.length + b.length + 2 - slN wv)
    case atStart => exact ⟨0, 0, [], Kp0.out, K0.out⟩
    case round =>
      obtain ⟨x, y, pre, rfl, hst⟩ := hrel
      have KSt := Kept.mk hst
      have hxl := hst.xl
      have hyl := hst.yl
      have hpl := hst.pl
      have hPr := KP.out.later hst.bel (Nat.le_refl _)
      have cp2 : wr.cell? ⟨p, 2, none⟩ = some (pt a.length b.length) := by
        obtain ⟨ga, gb, tb, M, N, -, h2, -⟩ := hPr
        exact h2.cell 2 _ rfl
      have ho1 := fl_order (x := x) (y := a.length) (by omega) (by omega)
      have ho2 := fl_order (x := y) (y := b.length) (by omega) (by omega)
      clear K0 hst
      by_cases hend : x = a.length ∧ y = b.length
      · obtain ⟨rfl, rfl⟩ := hend
        simp only [decide_true] at ho1 ho2
        have KO : Kept (OwnW wr w1.heap.size u9 (wayP a b 0 0)) := ⟨by
          have h1 := KSt.out.own
          have h2 := KSt.out.eq
          rw [List.drop_length, List.drop_length, wayP_end] at h2
          rw [h2]
          exact h1⟩
        have KBf := Kept.mk (KB.out.trans (KSt.out.bel.mono KB.out.size))
        have Kb1 := Kept.mk KB.out.size
        clear hPr
        unfold pt at cp2 ⊢
        generalize fl a.length = n1 at *
        generalize fl b.length = m1 at *
        go_wp2
        go_ret2
        exact ⟨KBf.out, .inr ⟨KL.out, _, rfl, KO.out.mono Kb1.out⟩⟩
      · obtain ⟨q1, hq1⟩ : ∃ q1, decide (x = a.length) = q1 := ⟨_, rfl⟩
        obtain ⟨q2, hq2⟩ : ∃ q2, decide (y = b.length) = q2 := ⟨_, rfl⟩
        have hq : (q1 && q2) = false := by rw [← hq1, ← hq2]; simp; omega
        rw [hq1] at ho1
        rw [hq2] at ho2
        clear hq1 hq2
        have hne : x < a.length ∨ y < b.length := by omega
        have KS := Kept.mk (step_any p a b wr hPr hal hbl x y hxl hyl hne)
        have hne2 : a.drop x ≠ [] ∨ b.drop y ≠ [] := by
          rcases hne with h' | h'
          · exact .inl (fun e => by have := congrArg List.length e; rw [List.length_drop] at this; simp at this; omega)
          · exact .inr (fun e => by have := congrArg List.length e; rw [List.length_drop] at this; simp at this; omega)
        have hfit := stp_fit hne2
        rw [List.length_drop, List.length_drop] at hfit
        have hcs := stp_cases (a.drop x) (b.drop y)
        have hws := wayP_step (a.drop x) (b.drop y) x y hne2
        rw [List.drop_drop, List.drop_drop] at hws
        obtain ⟨d1, d2, hd⟩ : ∃ d1 d2, stp (a.drop x) (b.drop y) = (d1, d2) := ⟨_, _, rfl⟩
        rw [hd] at hfit hcs hws KS
        simp only at hfit hws
        have hd12 : 1 ≤ d1 + d2 ∧ d1 ≤ 1 ∧ d2 ≤ 1 := by
          rcases hcs with h' | h' | h' <;> (injection h' with h1 h2; omega)
        have KA := Kept.mk (fun w => add_stp (x := x) (y := y) (by omega) (by omega) hcs w)
        obtain ⟨X, Y, hXY⟩ : ∃ X Y, pt (x + d1) (y + d2) = .complex .f64 X Y := ⟨_, _, rfl⟩
        have KXY := Kept.mk hXY
        simp only [hXY] at KA
        have KEq : Kept (wayP a b 0 0 = (pre ++ [(x, y)]) ++ wayP (a.drop (x + d1)) (b.drop (y + d2)) (x + d1) (y + d2)) := ⟨by rw [KSt.out.eq, hws]; simp⟩
        have Kfit := Kept.mk hfit
        have Kd12 := Kept.mk hd12
        have hsl := KSt.out.own.len
        rw [List.length_append, List.length_singleton] at hsl
        clear hPr hend hne hne2 hcs hws hd hXY hfit hd12
        unfold pt at KA KS cp2 ⊢
        generalize fl a.length = n1 at *
        generalize fl b.length = m1 at *
        generalize fl x = x1 at *
        generalize fl y = y1 at *
        generalize fl d1 = c1 at *
        generalize fl d2 = c2 at *
        go_wp2_with fail
        refine Calls.mono KS.out (fun e w2 hp => ?_)
        obtain ⟨rfl, hb2⟩ := hp
        have had := KA.out w2
        have hOa : (w2.alloc (.cells #[.complex .f64 X Y] 74)).ownsRow w1.heap.size 74 1 u9 (pre ++ [(x, y)]).length (ptsV (pre ++ [(x, y)])) := World.ownsRow.alloc (KSt.out.own.later hb2 (Nat.le_refl _)) _
        have hBw2 := KSt.out.bel.trans (hb2.mono KSt.out.bel.size)
        have KOa := Kept.mk hOa
        have KBa := Kept.mk (hBw2.alloc hBw2.size (.cells #[.complex .f64 X Y] 74))
        have KO := Kept.mk KSt.out.own
        have Kpl : Kept ((pre ++ [(x, y)]).length ≤ 2001) := ⟨by rw [List.length_append, List.length_singleton]; omega⟩
        clear hOa hBw2 hb2 KS cp2 ho1 ho2 hq
        go_wp2_with (at_builtin; refine wpList_append_own_at _ rfl _ _ 71 rfl w1.heap.size 74 i0 z0 1 16 Try.underlying71 hi hz hsz hbt hzc (by decide) u9 (pre ++ [(x, y)]).length (ptsV (pre ++ [(x, y)])) rfl KOa.out ⟨w2.heap.size, 0, none⟩ 1 1 [.complex .f64 X Y] rfl rfl (cell_one_new _ _ _) (by simp [Value.oneCell']) (by have := Kpl.out; unfold maxLen; omega) (by have := Kpl.out; omega) KBa.out.size ?_; intro v5 w5 hown5 hgrow5 _ hat5; have KB5 := Kept.mk (KBa.out.grown hgrow5 KBa.out.size (fun k hk => (KO.out.lt k hk).1)); have KO5 := Kept.mk hown5; clear hown5 hgrow5 hat5)
        go_roundw
        case rel =>
          refine ⟨x + d1, y + d2, pre ++ [(x, y)], KXY.out.symm, ?_, KEq.out, by have := Kfit.out; omega, by have := Kfit.out; omega, ?_, KB5.out⟩
          · have h := KO5.out
            unfold OwnW
            rw [List.length_append, List.length_singleton]
            have e : ptsV (pre ++ [(x, y)] ++ [(x + d1, y + d2)]) = ptsV (pre ++ [(x, y)]) ++ [.complex .f64 X Y] := by unfold ptsV; rw [List.map_append]; simp only [List.map_cons, List.map_nil]; rw [KXY.out]
            rw [e]
            exact h
          · rw [List.length_append, List.length_singleton]
            have := Kd12.out
            omega
        case measure =>
          have h5 : slN v5 = pre.length + 2 := by
            rcases KO5.out.2 with ⟨rfl, hn⟩ | ⟨g, cap, cur, rfl, -⟩
            · simp at hn
            · show (pre ++ [(x, y)]).length + 1 = _
              simp
          show a.length + b.length + 2 - slN v5 < a.length + b.length + 2 - slN u9
          omega
end Go.Proofs.Ytidpdhnbnecddaa
