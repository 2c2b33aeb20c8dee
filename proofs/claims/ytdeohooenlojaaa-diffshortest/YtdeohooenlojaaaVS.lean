/-
  The walk of DiffShortest.
-/
import Derived.Test.YtdeohooenlojaaaV11
import Derived.Test.YtdeohooenlojaaaVP
import Derived.Test.YtdeohooenlojaaaVT
namespace Go.Proofs.Ytdeohooenlojaaa
open Go.RowKit

theorem OwnW.open {w : World} {base : Nat} {v : Value} {W : List (Nat × Nat)} (h : OwnW w base v W) (h0 : W ≠ []) : ∃ g cap, v = .slice (some ⟨g, 0, none⟩) W.length cap ∧ base ≤ g ∧ ∀ w', Below w.heap.size w w' → ∀ j (q : Nat × Nat), W[j]? = some q → w'.cell? ⟨g, j, none⟩ = some (.complex .f64 (fl q.1) (fl q.2)) := by
  have hlt := h.lt
  rcases h.2 with ⟨rfl, hn⟩ | ⟨g, cap, cur, rfl, hbg, hg, hnc, hcm, hcs, htake⟩
  · exact absurd (List.eq_nil_of_length_eq_zero hn) h0
  · refine ⟨g, cap, rfl, hbg, fun w' hw' j q hq => ?_⟩
    have h2 := World.ownsRow.cells h (g := g) rfl j (pt q.1 q.2) (by unfold ptsV; rw [List.getElem?_map, hq]; rfl)
    rw [add_plain, Nat.zero_add] at h2
    rw [hw'.cell (p := ⟨g, j, none⟩) (hlt g rfl).2]
    exact h2
theorem o11 : (FloatKind.f64.format.order 4607182418800017408 4607182418800017408 == some .eq) = true := by kernel_rfl
theorem o01 : (FloatKind.f64.format.order 0 4607182418800017408 == some .eq) = false := by kernel_rfl
theorem o10 : (FloatKind.f64.format.order 4607182418800017408 0 == some .eq) = false := by kernel_rfl
theorem o00 : (FloatKind.f64.format.order 0 0 == some .eq) = true := by kernel_rfl
theorem chg_take {W : List (Nat × Nat)} {i : Nat} {p q : Nat × Nat} (hp : W[i]? = some p) (hq : W[i + 1]? = some q) : chg (W.take (i + 2)) = chg (W.take (i + 1)) + dg p q := by
  have e1 : W.take (i + 1) = W.take i ++ [p] := by rw [List.take_add_one, hp]; rfl
  have e2 : W.take (i + 2) = W.take i ++ [p, q] := by rw [List.take_add_one, hq, e1]; simp
  rw [e1, e2, chg_snoc]
theorem c_sub {p q : Nat × Nat} (hp1 : p.1 < 1100) (hp2 : p.2 < 1100) {d1 d2 : Nat} (h : (q = (p.1 + 1, p.2 + 1) ∧ d1 = 4607182418800017408 ∧ d2 = 4607182418800017408) ∨ (q = (p.1 + 1, p.2) ∧ d1 = 4607182418800017408 ∧ d2 = 0) ∨ (q = (p.1, p.2 + 1) ∧ d1 = 0 ∧ d2 = 4607182418800017408)) (w : World) :
    (binOp .sub 45 (.complex .f64 (fl q.1) (fl q.2)) (.complex .f64 (fl p.1) (fl p.2))).run Try.prog w = .ok (.complex .f64 d1 d2) w := by
  obtain ⟨-, -, -, a1, a2⟩ := fl_parts hp1
  obtain ⟨-, -, -, b1, b2⟩ := fl_parts hp2
  unfold one64 at a1 b1
  refine run_complex_sum w .sub (.inr rfl) _ _ _ _ _ _ _ _ ?_
  unfold cSumBits
  rcases h with ⟨rfl, rfl, rfl⟩ | ⟨rfl, rfl, rfl⟩ | ⟨rfl, rfl, rfl⟩
  · simp only; rw [a1, b1]; rfl
  · simp only; rw [a1, b2]; rfl
  · simp only; rw [a2, b1]; rfl
theorem c_int {x : Nat} (hx : x < 1100) (w : World) : (convert 46 3 (.float .f64 (fl x))).run Try.prog w = .ok (.int .i64 x) w :=
  run_convert_float_int (P := Try.prog) w 46 3 .f64 .i64 (fl x) x rfl Try.underlying3 (fl_parts hx).2.2.1
theorem selB_skip {α : Type} {p i : Nat} {s : α} {us L : List α} (h : L.drop i = s :: us) (hb : p / 2 ^ i % 2 = 0) : selB (p / 2 ^ i) (L.drop i) = selB (p / 2 ^ (i + 1)) (L.drop (i + 1)) := by
  have h2 := (drop_get h).2.2
  rw [h2, h, selB, if_neg (by omega), Nat.div_div_eq_div_mul, ← Nat.pow_succ]
theorem selB_take {α : Type} {p i : Nat} {s : α} {us L : List α} (h : L.drop i = s :: us) (hb : p / 2 ^ i % 2 = 1) : selB (p / 2 ^ i) (L.drop i) = s :: selB (p / 2 ^ (i + 1)) (L.drop (i + 1)) := by
  have h2 := (drop_get h).2.2
  rw [h2, h, selB, if_pos hb, Nat.div_div_eq_div_mul, ← Nat.pow_succ]
theorem grd_cons {α : Type} [DecidableEq α] (s : α) (us vs : List α) (k : Int) : grd (s :: us) vs k = if adv s vs = vs.length then -100 else grd us (vs.drop (adv s vs + 1)) (k + 1) := rfl
theorem adv_cons {α : Type} [DecidableEq α] (s y : α) (vs : List α) : adv s (y :: vs) = if y = s then 0 else adv s vs + 1 := rfl
set_option maxHeartbeats 4000000 in
set_option maxRecDepth 100000 in
theorem shortest_walk (va vb : Value) (a b : List ByteArray) (w : World) (ha : RdS w va a) (hb : RdS w vb b) (sa : ∀ s ∈ a, s.size ≤ maxLen) (sb : ∀ s ∈ b, s.size ≤ maxLen) :
    Calls Try.prog 5 #[va, vb] w fun e w' => e = .returned (.bool true) ∧ Below w.heap.size w w' := by
  have K0 := Kept.mk (awake_any w)
  have KW : Kept (∀ (W : World), Below w.heap.size w W → a.length ≤ 10 → b.length ≤ 10 → Calls Try.prog 10 #[va, vb] W fun e w' => Below W.heap.size W w' ∧ ∃ v', e = .returned (.tuple #[v', .int .i64 0]) ∧ OwnW w' W.heap.size v' (wayP a b 0 0)) := ⟨fun W hW la lb => (way_any va vb a b W (ha.later hW (Nat.le_refl _)) (hb.later hW (Nat.le_refl _)) sa sb).mono fun e w' hp => by
    obtain ⟨h1, h2⟩ := hp
    rcases h2 with ⟨h3, -⟩ | ⟨-, h4⟩
    · unfold longB at h3
      rw [Bool.or_eq_true, decide_eq_true_iff, decide_eq_true_iff] at h3
      omega
    · exact ⟨h1, h4⟩⟩
  have KR : Kept (∀ (W : World), Below w.heap.size w W → a.length ≤ 10 → b.length ≤ 10 → Calls Try.prog 13 #[va, vb] W fun e w' => e = .returned (.tuple #[.int .i64 (rst a b : Nat), .int .i64 0]) ∧ Below W.heap.size W w') := ⟨fun W hW lx ly => by
    have h := rest_any va vb a b W (ha.later hW (Nat.le_refl _)) (hb.later hW (Nat.le_refl _)) sa sb
    rw [if_neg (by unfold longB; simp; omega)] at h
    exact h⟩
  have KA : Kept (∀ (W : World) (i : Nat) (s : ByteArray), Below w.heap.size w W → a[i]? = some s → ∃ bb off, (∃ c, va = .slice (some ⟨bb, off, none⟩) a.length c) ∧ W.cell? ⟨bb, off + i, none⟩ = some (.string s)) := ⟨fun W i s hW hs => by
    obtain ⟨p, c, he, -, hr⟩ := ha.later hW (Nat.le_refl _)
    have hl : 0 < (a.map Value.string).length := by rw [List.length_map]; have := (List.getElem?_eq_some_iff.1 hs).1; omega
    obtain ⟨bb, off, hp, -, hr⟩ := hr hl
    exact ⟨bb, off, ⟨c, by rw [he, hp, List.length_map]⟩, hr i _ (by rw [List.getElem?_map, hs]; rfl)⟩⟩
  have KB : Kept (∀ (W : World) (i : Nat) (s : ByteArray), Below w.heap.size w W → b[i]? = some s → ∃ bb off, (∃ c, vb = .slice (some ⟨bb, off, none⟩) b.length c) ∧ W.cell? ⟨bb, off + i, none⟩ = some (.string s)) := ⟨fun W i s hW hs => by
    obtain ⟨p, c, he, -, hr⟩ := hb.later hW (Nat.le_refl _)
    have hl : 0 < (b.map Value.string).length := by rw [List.length_map]; have := (List.getElem?_eq_some_iff.1 hs).1; omega
    obtain ⟨bb, off, hp, -, hr⟩ := hr hl
    exact ⟨bb, off, ⟨c, by rw [he, hp, List.length_map]⟩, hr i _ (by rw [List.getElem?_map, hs]; rfl)⟩⟩
  obtain ⟨pa, ca, rfl⟩ := ha.form
  obtain ⟨pb, cb, rfl⟩ := hb.form
  clear ha hb sa sb
  go_enter Try.func5, Try.ntmps5
  go_wp2_with fail
  refine Calls.mono K0.out (fun e w1 hp => ?_)
  obtain ⟨rfl, hb1⟩ := hp
  have KB1 := Kept.mk hb1
  clear hb1 K0
  by_cases la : 10 < a.length
  · have g1 : decide ((10 : Int) < (a.length : Int)) = true := decide_eq_true (by omega)
    clear la
    go_wp2
    go_ret
    exact ⟨rfl, KB1.out⟩
  have g1 : decide ((10 : Int) < (a.length : Int)) = false := decide_eq_false (by omega)
  by_cases lb : 10 < b.length
  · have g2 : decide ((10 : Int) < (b.length : Int)) = true := decide_eq_true (by omega)
    clear lb
    go_wp2
    go_ret
    exact ⟨rfl, KB1.out⟩
  have g2 : decide ((10 : Int) < (b.length : Int)) = false := decide_eq_false (by omega)
  have la : a.length ≤ 10 := by omega
  have lb : b.length ≤ 10 := by omega
  have K2 := Kept.mk (KW.out w1 KB1.out la lb)
  clear KW
  go_wp2_with fail
  refine Calls.mono K2.out (fun e w2 hp => ?_)
  obtain ⟨hb2, v2, rfl, ho⟩ := hp
  obtain ⟨hok, hchg, hlen⟩ := way_all a b _ a b 0 0 (Nat.le_refl _) rfl rfl (Nat.zero_le _) (Nat.zero_le _)
  obtain ⟨r0, hr0⟩ := wayP_head a b 0 0
  obtain ⟨g, cap, rfl, hgb, hcell⟩ := ho.open (by rw [hr0]; simp)
  have h00 : (wayP a b 0 0)[0]? = some (0, 0) := by rw [hr0]; rfl
  have hlast := hok.last
  rw [List.getLast?_eq_getElem?] at hlast
  generalize wayP a b 0 0 = W at *
  have hpos : 0 < W.length := by rw [hr0]; simp
  have hB2 := KB1.out.trans (hb2.mono KB1.out.size)
  have KB2 := Kept.mk hB2
  have K3 := Kept.mk (KR.out w2 hB2 la lb)
  have Kok := Kept.mk hok
  have Kchg := Kept.mk hchg
  have Kcell := Kept.mk hcell
  have Kh0 := Kept.mk h00
  have Khl := Kept.mk hlast
  clear hb2 ho hok hchg hcell hB2 K2 hr0 hgb h00 hlast KR
  go_wp2_with fail
  refine Calls.mono K3.out (fun e w3 hp => ?_)
  obtain ⟨rfl, hb3⟩ := hp
  have KB3 := Kept.mk (KB2.out.trans (hb3.mono KB2.out.size))
  have Kcell : Kept (∀ w', Below w3.heap.size w3 w' → ∀ j (q : Nat × Nat), W[j]? = some q → w'.cell? ⟨g, j, none⟩ = some (.complex .f64 (fl q.1) (fl q.2))) := ⟨fun w' hw' => Kcell.out w' (hb3.trans (hw'.mono hb3.size))⟩
  have c0 := Kcell.out w3 (Below.refl _ _) 0 _ Kh0.out
  have cl := Kcell.out w3 (Below.refl _ _) _ _ Khl.out
  simp only [fl_zero] at c0
  have ho0 := o00
  have hoa := fl_order (x := a.length) (y := a.length) (by omega) (by omega)
  have hob := fl_order (x := b.length) (y := b.length) (by omega) (by omega)
  simp only [decide_true] at hoa hob
  unfold fl at hoa hob cl
  have hn0 : ((W.length : Int) == 0) = false := by rw [beq_eq_false_iff_ne]; omega
  have i1 : (0 : Int) < (W.length : Int) := by omega
  obtain ⟨l1, hl1⟩ : ∃ l1, W.length = l1 + 1 := ⟨W.length - 1, by omega⟩
  have e1 : IntKind.i64.wrap ((W.length : Int) - 1) = (l1 : Int) := by rw [wr64 (by omega) (by omega)]; omega
  have i2 : (0 : Int) ≤ (l1 : Int) := by omega
  have i3 : (l1 : Int) < (W.length : Int) := by omega
  rw [show W.length - 1 = l1 by omega] at cl
  have Kl1 := Kept.mk hl1
  clear hb3 K3 hl1
  go_upto_region 8 with fail
  clear c0 cl ho0 hoa hob hn0 i1 e1 i2 i3
  have KB3' := KB3
  go_loopw [9, 10] (fun cv iv wr => ∃ j : Nat, j + 1 ≤ W.length ∧ iv = .int .i64 ((j : Int) + 1) ∧ cv = .int .i64 (chg (W.take (j + 1)) : Nat) ∧ chg (W.take (j + 1)) ≤ j ∧ Below w3.heap.size w3 wr) (fun _ iv _ => W.length - (intOf iv).toNat)
  case atStart =>
    refine ⟨0, by omega, rfl, ?_, ?_, Below.refl _ _⟩
    · obtain ⟨x, r, hW⟩ : ∃ x r, W = x :: r := by
        cases W with
        | nil => simp at hpos
        | cons x r => exact ⟨x, r, rfl⟩
      rw [hW]; rfl
    · obtain ⟨x, r, hW⟩ : ∃ x r, W = x :: r := by
        cases W with
        | nil => simp at hpos
        | cons x r => exact ⟨x, r, rfl⟩
      rw [hW]; exact Nat.le_refl _
  case round =>
    obtain ⟨j, hjl, rfl, rfl, hcj, hbr⟩ := hrel
    have KBr := Kept.mk hbr
    by_cases hlt : j + 1 < W.length
    · have hi : (j : Int) + 1 < (W.length : Int) := by omega
      obtain ⟨p, hp⟩ : ∃ p, W[j]? = some p := ⟨_, List.getElem?_eq_getElem (by omega)⟩
      obtain ⟨q, hq⟩ : ∃ q, W[j + 1]? = some q := ⟨_, List.getElem?_eq_getElem hlt⟩
      have hst := Kok.out.steps j p q hp hq
      obtain ⟨p1, p2⟩ := Kok.out.small p (List.mem_of_getElem? hp)
      have cj := Kcell.out wr hbr j p hp
      have cq := Kcell.out wr hbr (j + 1) q hq
      have hch := chg_take hp hq
      have e1 : IntKind.i64.wrap ((j : Int) + 1 - 1) = (j : Int) := by rw [wr64 (by omega) (by omega)]; omega
      have e2 : IntKind.i64.wrap ((j : Int) + 1 + 1) = ((j + 1 : Nat) : Int) + 1 := by rw [wr64 (by omega) (by omega)]; omega
      have i0 : (0 : Int) ≤ (j : Int) := by omega
      have i1 : (j : Int) < (W.length : Int) := by omega
      have i2 : (0 : Int) ≤ (j : Int) + 1 := by omega
      have i3 : ((j : Int) + 1).toNat = j + 1 := by omega
      have x1 := c_int (x := p.1) (by omega)
      have y1 := c_int (x := p.2) (by omega)
      have h11 := o11
      have h01 := o01
      have h10 := o10
      have h00 := o00
      obtain ⟨x, y⟩ := p
      simp only at p1 p2 cj x1 y1
      rcases hst with ⟨hq1, s, hs1, hs2⟩ | hq1 | hq1
      · have hsub := c_sub (p := (x, y)) (q := q) (by simp; omega) (by simp; omega) (.inl ⟨hq1, rfl, rfl⟩)
        simp only at hs1 hs2 hsub
        have hdg : dg (x, y) q = 0 := by unfold dg; rw [if_pos hq1]
        rw [hdg] at hch
        have xl := (List.getElem?_eq_some_iff.1 hs1).1
        have yl := (List.getElem?_eq_some_iff.1 hs2).1
        obtain ⟨b1, o1, ⟨c1, he1⟩, cs1⟩ := KA.out wr x s (KB3.out.trans (hbr.mono KB3.out.size)) hs1
        obtain ⟨b2, o2, ⟨c2, he2⟩, cs2⟩ := KB.out wr y s (KB3.out.trans (hbr.mono KB3.out.size)) hs2
        have hpa : pa = some ⟨b1, o1, none⟩ := by injection he1
        have hpb : pb = some ⟨b2, o2, none⟩ := by injection he2
        subst hpa hpb
        have n1 : (0 : Int) ≤ (x : Int) := by omega
        have n2 : (x : Int) < (a.length : Int) := by omega
        have n3 : (0 : Int) ≤ (y : Int) := by omega
        have n4 : (y : Int) < (b.length : Int) := by omega
        have m1 : decide ((x : Int) < 0) = false := decide_eq_false (by omega)
        have m2 : decide ((y : Int) < 0) = false := decide_eq_false (by omega)
        have m3 : decide ((x : Int) ≥ (a.length : Int)) = false := decide_eq_false (by omega)
        have m4 : decide ((y : Int) ≥ (b.length : Int)) = false := decide_eq_false (by omega)
        clear hs1 hs2 he1 he2 hq1 hdg hp hq
        generalize fl x = X at *
        generalize fl y = Y at *
        generalize fl q.1 = X2 at *
        generalize fl q.2 = Y2 at *
        go_upto_region 13 with fail
        go_quiet (fail)
        go_upto_region 14 with fail
        go_quiet (fail)
        go_upto_region 17 with fail
        go_quiet (fail)
        generalize hw5 : World.drewN (World.drewN wr _) _ = w5
        have KB5 : Kept (Below w3.heap.size w3 w5) := ⟨by rw [← hw5]; exact below_drewN (below_drewN KBr.out _) _⟩
        clear hw5 cj cq cs1 cs2 x1 y1 hsub hbr
        have Kch := Kept.mk hch
        clear hch
        go_wp2
        go_roundw
        case rel => exact ⟨j + 1, hlt, by go_num, by rw [Kch.out]; rfl, by rw [Kch.out]; omega, KB5.out⟩
        case measure => simp [intOf]; omega
      · have hsub := c_sub (p := (x, y)) (q := q) (by simp; omega) (by simp; omega) (.inr (.inl ⟨hq1, rfl, rfl⟩))
        simp only at hsub
        have hdg : dg (x, y) q = 1 := by unfold dg; rw [if_neg (by rw [hq1]; simp)]
        rw [hdg] at hch
        have e5 : IntKind.i64.wrap ((chg (W.take (j + 1)) : Nat) + 1 : Int) = ((chg (W.take (j + 1)) + 1 : Nat) : Int) := by rw [wr64 (by omega) (by omega)]; omega
        have Kch := Kept.mk hch
        clear hq1 hdg hp hq hch
        generalize fl x = X at *
        generalize fl y = Y at *
        generalize fl q.1 = X2 at *
        generalize fl q.2 = Y2 at *
        generalize chg (W.take (j + 1)) = cg at *
        go_upto_region 13 with fail
        go_quiet (fail)
        go_upto_region 14 with fail
        go_quiet (fail)
        generalize hw5 : World.drewN (World.drewN wr _) _ = w5
        have KB5 : Kept (Below w3.heap.size w3 w5) := ⟨by rw [← hw5]; exact below_drewN (below_drewN KBr.out _) _⟩
        clear hw5 cj cq x1 y1 hsub hbr
        go_wp2
        go_roundw
        case rel => exact ⟨j + 1, hlt, by go_num, by rw [Kch.out]; simp, by rw [Kch.out]; omega, KB5.out⟩
        case measure => simp [intOf]; omega
      · have hsub := c_sub (p := (x, y)) (q := q) (by simp; omega) (by simp; omega) (.inr (.inr ⟨hq1, rfl, rfl⟩))
        simp only at hsub
        have hdg : dg (x, y) q = 1 := by unfold dg; rw [if_neg (by rw [hq1]; simp)]
        rw [hdg] at hch
        have e5 : IntKind.i64.wrap ((chg (W.take (j + 1)) : Nat) + 1 : Int) = ((chg (W.take (j + 1)) + 1 : Nat) : Int) := by rw [wr64 (by omega) (by omega)]; omega
        have Kch := Kept.mk hch
        clear hq1 hdg hp hq hch
        generalize fl x = X at *
        generalize fl y = Y at *
        generalize fl q.1 = X2 at *
        generalize fl q.2 = Y2 at *
        generalize chg (W.take (j + 1)) = cg at *
        go_upto_region 13 with fail
        go_quiet (fail)
        go_upto_region 14 with fail
        go_quiet (fail)
        generalize hw5 : World.drewN (World.drewN wr _) _ = w5
        have KB5 : Kept (Below w3.heap.size w3 w5) := ⟨by rw [← hw5]; exact below_drewN (below_drewN KBr.out _) _⟩
        clear hw5 cj cq x1 y1 hsub hbr
        go_wp2
        go_roundw
        case rel => exact ⟨j + 1, hlt, by go_num, by rw [Kch.out]; simp, by rw [Kch.out]; omega, KB5.out⟩
        case measure => simp [intOf]; omega
    · have hi : ¬ (j : Int) + 1 < (W.length : Int) := by omega
      have hj1 : W.length = j + 1 := by omega
      have Kc : Kept (chg (W.take (j + 1)) = rst a b) := ⟨by rw [← hj1, List.take_length]; exact Kchg.out⟩
      rw [Kc.out]
      clear Kc hcj
      have KB4 := Kept.mk (KB3.out.trans (hbr.mono KB3.out.size))
      clear hbr KBr Kchg Kok Kcell KB3 KB3' KB1 KB2 Kh0 Khl
      have hmx := mxB_full a b
      have Kmx := Kept.mk hmx
      have hrl := rst_le _ a b (Nat.le_refl _)
      clear hmx
      generalize rst a b = rr at *
      have hsh := sh_ok a.length (by omega)
      have hT := pow_le a.length (by omega)
      obtain ⟨T, hTe⟩ : ∃ T, 2 ^ a.length = T := ⟨_, rfl⟩
      rw [hTe] at hsh hT Kmx
      go_upto_region 24 with fail
      clear hTe
      have Kup : Kept (∀ n, mxB a b n ≤ 20 ∧ 0 ≤ mxB a b n) := ⟨fun n => by have := mxB_upper a b n; omega⟩
      go_loopw [13, 143] (fun mv iv wr2 => ∃ p : Nat, p ≤ T ∧ iv = .int .i64 p ∧ mv = .int .i64 (mxB a b p) ∧ Below w.heap.size w wr2) (fun _ iv _ => T - (intOf iv).toNat)
      case atStart => exact ⟨0, Nat.zero_le _, rfl, rfl, KB4.out⟩
      case round =>
        obtain ⟨p, hpl, rfl, rfl, hbr⟩ := hrel
        have KBp := Kept.mk hbr
        clear KB4
        by_cases hpt : p < T
        · have hpi : (p : Int) < (T : Int) := by omega
          have e9 : IntKind.i64.wrap ((p : Int) + 1) = ((p + 1 : Nat) : Int) := by rw [wr64 (by omega) (by omega)]; omega
          obtain ⟨F, hF⟩ : ∃ F, grd (selB p a) b 0 = F := ⟨_, rfl⟩
          have Kmax : Kept (mxB a b (p + 1) = max (mxB a b p) F) := ⟨by rw [mxB_succ, hF]⟩
          have KF := Kept.mk hF
          clear hF hbr
          go_upto_region 28 with fail
          go_loopw [15, 16, 148] (fun sv av iv wr3 => ∃ (i t k : Nat), i ≤ a.length ∧ t ≤ b.length ∧ iv = .int .i64 i ∧ av = .int .i64 t ∧ sv = .int .i64 k ∧ k ≤ i ∧ grd (selB (p / 2 ^ i) (a.drop i)) (b.drop t) k = F ∧ Below w.heap.size w wr3) (fun _ _ iv _ => a.length - (intOf iv).toNat)
          case atStart => exact ⟨0, 0, 0, Nat.zero_le _, Nat.zero_le _, rfl, rfl, rfl, Nat.le_refl _, by simpa using KF.out, KBp.out⟩
          case round =>
            obtain ⟨i, t, k, hil, htl, rfl, rfl, rfl, hki, hgr, hb3⟩ := hrel
            have KB5 := Kept.mk hb3
            by_cases hit : i < a.length
            · have hii : (i : Int) < (a.length : Int) := by omega
              have e8 : IntKind.i64.wrap ((i : Int) + 1) = ((i + 1 : Nat) : Int) := by rw [wr64 (by omega) (by omega)]; omega
              obtain ⟨s, hs⟩ : ∃ s, a[i]? = some s := ⟨_, List.getElem?_eq_getElem hit⟩
              obtain ⟨b1, o1, ⟨c1, he1⟩, cs1⟩ := KA.out _ i s hb3 hs
              have hpa : pa = some ⟨b1, o1, none⟩ := by injection he1
              subst hpa
              have n1 : (0 : Int) ≤ (i : Int) := by omega
              have hdr := drop_line hs
              by_cases hbit : p / 2 ^ i % 2 = 0
              · have hb0 : (bits .and .i64 ((p : Int) / (2 : Int) ^ i) 1 == 0) = true := by rw [bit_set (by omega)]; exact decide_eq_true hbit
                have Kg : Kept (grd (selB (p / 2 ^ (i + 1)) (a.drop (i + 1))) (b.drop t) k = F) := ⟨by rw [← selB_skip hdr hbit]; exact hgr⟩
                clear hgr hs he1 hdr hbit hb3
                go_wp2
                go_roundw
                case rel => exact ⟨i + 1, t, k, hit, htl, by go_num, rfl, rfl, by omega, Kg.out, KB5.out⟩
                case measure => simp [intOf]; omega
              · have hb0 : (bits .and .i64 ((p : Int) / (2 : Int) ^ i) 1 == 0) = false := by rw [bit_set (by omega)]; exact decide_eq_false hbit
                have hgr2 := hgr
                rw [selB_take hdr (by omega), grd_cons] at hgr2
                have Kg := Kept.mk hgr2
                have Kdb : Kept ((b.drop t).length = b.length - t) := ⟨List.length_drop⟩
                clear hgr hgr2 hs he1 hdr hbit hb3
                go_upto_region 31 with fail
                clear hb0 cs1
                go_loopw [16] (fun av wr4 => ∃ t2 : Nat, t ≤ t2 ∧ t2 ≤ b.length ∧ av = .int .i64 t2 ∧ adv s (b.drop t) = (t2 - t) + adv s (b.drop t2) ∧ Below w.heap.size w wr4) (fun av _ => b.length - (intOf av).toNat)
                case atStart => exact ⟨t, Nat.le_refl _, htl, rfl, by omega, KB5.out⟩
                case round =>
                  obtain ⟨t2, ht2, ht2l, rfl, hadv, hb6⟩ := hrel
                  have KB6 := Kept.mk hb6
                  clear KB5
                  by_cases htb : t2 < b.length
                  · have g5 : decide ((t2 : Int) < (b.length : Int)) = true := decide_eq_true (by omega)
                    have e7 : IntKind.i64.wrap ((t2 : Int) + 1) = ((t2 + 1 : Nat) : Int) := by rw [wr64 (by omega) (by omega)]; omega
                    obtain ⟨u, hu⟩ : ∃ u, b[t2]? = some u := ⟨_, List.getElem?_eq_getElem htb⟩
                    obtain ⟨b2, o2, ⟨c2, he2⟩, cs2⟩ := KB.out _ t2 u hb6 hu
                    have hpb : pb = some ⟨b2, o2, none⟩ := by injection he2
                    subst hpb
                    have n3 : (0 : Int) ≤ (t2 : Int) := by omega
                    have n4 : (t2 : Int) < (b.length : Int) := by omega
                    have hdu := drop_line hu
                    rw [hdu, adv_cons] at hadv
                    by_cases hus : u = s
                    · subst hus
                      rw [if_pos rfl] at hadv
                      have hsn : (u.toList == u.toList) = true := by simp
                      have g6 : ((t2 : Int) == (b.length : Int)) = false := by rw [beq_eq_false_iff_ne]; omega
                      have Kg2 : Kept (grd (selB (p / 2 ^ (i + 1)) (a.drop (i + 1))) (b.drop (t2 + 1)) (((k + 1 : Nat)) : Int) = F) := ⟨by
                        have h := Kg.out
                        have hdl := Kdb.out
                        rw [hadv, if_neg (by omega), List.drop_drop, show t + (t2 - t + 0 + 1) = t2 + 1 by omega] at h
                        exact h⟩
                      have e6 : IntKind.i64.wrap ((k : Int) + 1) = ((k + 1 : Nat) : Int) := by rw [wr64 (by omega) (by omega)]; omega
                      clear hadv Kg Kdb hu he2 hdu hb6
                      go_wp2
                      go_roundw
                      case rel => exact ⟨i + 1, t2 + 1, k + 1, hit, htb, by go_num, by go_num, by go_num, by omega, Kg2.out, KB6.out⟩
                      case measure => simp [intOf]; omega
                    · rw [if_neg hus] at hadv
                      have hsn : (u.toList == s.toList) = false := by
                        rw [beq_eq_false_iff_ne]
                        intro h
                        apply hus
                        rw [Lib.toList_data, Lib.toList_data] at h
                        apply ByteArray.ext
                        exact Array.ext' h
                      have Kadv : Kept (adv s (b.drop t) = (t2 + 1 - t) + adv s (b.drop (t2 + 1))) := ⟨by rw [hadv]; omega⟩
                      clear hadv hu he2 hdu hb6 hus
                      go_wp2
                      go_roundw
                      case rel => exact ⟨t2 + 1, by omega, htb, by go_num, Kadv.out, KB6.out⟩
                      case measure => simp [intOf]; omega
                  · have g5 : decide ((t2 : Int) < (b.length : Int)) = false := decide_eq_false (by omega)
                    obtain rfl : t2 = b.length := by omega
                    have g6 : ((b.length : Int) == (b.length : Int)) = true := by simp
                    have hF : F = -100 := by
                      have h := Kg.out
                      have hdl := Kdb.out
                      rw [List.drop_length] at hadv
                      have h0 : adv s ([] : List ByteArray) = 0 := rfl
                      rw [h0] at hadv
                      rw [if_pos (by omega)] at h
                      exact h.symm
                    subst hF
                    obtain ⟨m0, hm0⟩ : ∃ m0, mxB a b p = m0 := ⟨_, rfl⟩
                    rw [hm0] at Kmax
                    rw [hm0]
                    have hm0p : 0 ≤ m0 := by have := (Kup.out p).2; rw [hm0] at this; exact this
                    have Kfin : Kept (m0 = mxB a b (p + 1)) := ⟨by rw [Kmax.out]; omega⟩
                    have hgt : ¬ ((-100 : Int) > m0) := by omega
                    clear hadv Kg Kdb hb6 hm0
                    go_wp2
                    go_roundw
                    case rel => exact ⟨p + 1, hpt, by go_num, by first | (rw [← Kfin.out]) | (rw [if_neg hgt, ← Kfin.out]), KB6.out⟩
                    case measure => simp [intOf]; omega
            · have hii : ¬ (i : Int) < (a.length : Int) := by omega
              obtain rfl : i = a.length := by omega
              rw [List.drop_length] at hgr
              have hkF : (k : Int) = F := hgr
              obtain ⟨m0, hm0⟩ : ∃ m0, mxB a b p = m0 := ⟨_, rfl⟩
              rw [hm0] at Kmax
              rw [hm0]
              have KkF := Kept.mk hkF
              have KB6 := KB5
              clear hgr hb3 hm0 hkF
              go_wp2
              go_roundw
              case rel => exact ⟨p + 1, hpt, by go_num, by rw [Kmax.out, ← KkF.out]; congr 1; split <;> omega, KB6.out⟩
              case measure => simp [intOf]; omega
        · have hpi : ¬ (p : Int) < (T : Int) := by omega
          obtain rfl : p = T := by omega
          obtain ⟨m0, hm0⟩ : ∃ m0, mxB a b p = m0 := ⟨_, rfl⟩
          rw [hm0] at Kmx
          rw [hm0]
          have hup := Kup.out p
          rw [hm0] at hup
          have hmx := Kmx.out
          have e5 : IntKind.i64.wrap ((a.length : Int) + (b.length : Int)) = (a.length : Int) + (b.length : Int) := wr64 (by omega) (by omega)
          have e6 : IntKind.i64.wrap (2 * m0) = 2 * m0 := wr64 (by omega) (by omega)
          have e7 : IntKind.i64.wrap ((a.length : Int) + (b.length : Int) - 2 * m0) = (rr : Int) := by rw [wr64 (by omega) (by omega)]; omega
          clear hmx hm0 hup hbr
          go_wp2
          go_ret
          exact ⟨rfl, KBp.out⟩
end Go.Proofs.Ytdeohooenlojaaa
