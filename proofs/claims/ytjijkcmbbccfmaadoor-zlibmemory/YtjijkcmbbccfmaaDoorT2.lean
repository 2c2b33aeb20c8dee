/-
  Walks: toldCodes.
-/
import Derived.Test.YtjijkcmbbccfmaaDoorT1
namespace Go.Proofs.YtjijkcmbbccfmaaDoor
open Go.RowKit

theorem Rd.dropAt {k : IntKind} {S : Nat → Prop} {w : World} {b off n c : Nat} {xs : List Int} (h : Rd k S w (.slice (some ⟨b, off, none⟩) n c) xs) (i : Nat) (hi : i ≤ xs.length) : Rd k S w (.slice (some ⟨b, off + i, none⟩) (xs.length - i) (c - i)) (xs.drop i) := by
  obtain ⟨a0, c0, hv, h1, h2, h3, h4⟩ := h
  cases hv
  have hlen : (xs.drop i).length = xs.length - i := by simp
  refine ⟨some ⟨b, off + i, none⟩, c - i, by rw [hlen], by omega, by omega, (fun e => by cases e), fun h0 => ?_⟩
  obtain ⟨b', off', ha, hlt, hs, hc⟩ := h4 (by omega)
  cases ha
  refine ⟨b, off + i, rfl, hlt, hs, fun q hq => ?_⟩
  have := hc (i + q) (by omega)
  rw [show off + i + q = off + (i + q) from by omega, this]
  congr 2
  simp only [List.getD, List.getElem?_drop]

theorem Rdr.set4 {W0 w : World} {rb : Nat} {ob : Option Nat} {inV : Value} {p out : List Int} {most t : Nat} (h : Rdr W0 w rb ob inV p most out t) {b : Nat} (hb : W0.heap.size ≤ b) (h1 : b ≠ rb) (h2 : some b ≠ ob) (y0 y1 y2 y3 : Value) : Rdr W0 ((((w.setCell ⟨b, 0, none⟩ y0).setCell ⟨b, 1, none⟩ y1).setCell ⟨b, 2, none⟩ y2).setCell ⟨b, 3, none⟩ y3) rb ob inV p most out t :=
  (((h.set hb h1 h2 0 y0).set hb h1 h2 1 y1).set hb h1 h2 2 y2).set hb h1 h2 3 y3

/-- The four tables that region 11 makes, and the block that holds them. -/
def Told (w3 wx : World) (nb : Nat) (L : List Int) (k1 : Nat) (cv sv dv tv : Value) : Prop :=
  B4 wx nb cv sv dv tv ∧ w3.heap.size ≤ nb ∧ Below w3.heap.size w3 wx ∧
    Rd .i64 (fun g => w3.heap.size ≤ g) wx cv (mkCd (L.take k1)).counts ∧ Rd .i64 (fun g => w3.heap.size ≤ g) wx sv (mkCd (L.take k1)).symbols ∧
    Rd .i64 (fun g => w3.heap.size ≤ g) wx dv (mkCd (L.drop k1)).counts ∧ Rd .i64 (fun g => w3.heap.size ≤ g) wx tv (mkCd (L.drop k1)).symbols
theorem told_set {w3 X : World} {nb : Nat} {L : List Int} {k1 : Nat} {cv sv dv tv x0 x1 x2 x3 : Value} (hB : B4 X nb x0 x1 x2 x3) (hn : w3.heap.size ≤ nb) (hb : Below w3.heap.size w3 X)
    (h1 : Rd .i64 (fun g => w3.heap.size ≤ g ∧ g ≠ nb) X cv (mkCd (L.take k1)).counts) (h2 : Rd .i64 (fun g => w3.heap.size ≤ g ∧ g ≠ nb) X sv (mkCd (L.take k1)).symbols)
    (h3 : Rd .i64 (fun g => w3.heap.size ≤ g ∧ g ≠ nb) X dv (mkCd (L.drop k1)).counts) (h4 : Rd .i64 (fun g => w3.heap.size ≤ g ∧ g ≠ nb) X tv (mkCd (L.drop k1)).symbols) :
    Told w3 ((((X.setCell ⟨nb, 0, none⟩ cv).setCell ⟨nb, 1, none⟩ sv).setCell ⟨nb, 2, none⟩ dv).setCell ⟨nb, 3, none⟩ tv) nb L k1 cv sv dv tv := by
  have far : ∀ {v : Value} {xs : List Int}, Rd .i64 (fun g => w3.heap.size ≤ g ∧ g ≠ nb) X v xs → Rd .i64 (fun g => w3.heap.size ≤ g) ((((X.setCell ⟨nb, 0, none⟩ cv).setCell ⟨nb, 1, none⟩ sv).setCell ⟨nb, 2, none⟩ dv).setCell ⟨nb, 3, none⟩ tv) v xs := fun h =>
    h.far (by simp [World.setCell]) fun b' _ hS => ⟨hS.1, by
      rw [Below.heap_setCell _ _ _ _ (show b' ≠ nb from hS.2), Below.heap_setCell _ _ _ _ (show b' ≠ nb from hS.2), Below.heap_setCell _ _ _ _ (show b' ≠ nb from hS.2), Below.heap_setCell _ _ _ _ (show b' ≠ nb from hS.2)]⟩
  exact ⟨hB.all _ _ _ _, hn, Below.set4 hb hn _ _ _ _, far h1, far h2, far h3, far h4⟩
theorem told_new {w3 X : World} {L : List Int} {k1 : Nat} {cv sv dv tv : Value} (hb : Below w3.heap.size w3 X)
    (h1 : Rd .i64 (fun g => w3.heap.size ≤ g) X cv (mkCd (L.take k1)).counts) (h2 : Rd .i64 (fun g => w3.heap.size ≤ g) X sv (mkCd (L.take k1)).symbols)
    (h3 : Rd .i64 (fun g => w3.heap.size ≤ g) X dv (mkCd (L.drop k1)).counts) (h4 : Rd .i64 (fun g => w3.heap.size ≤ g) X tv (mkCd (L.drop k1)).symbols) :
    Told w3 (X.alloc (.cells #[cv, sv, dv, tv] 71)) X.heap.size L k1 cv sv dv tv :=
  ⟨heap_alloc_new X _, hb.size, hb.alloc hb.size _, h1.later ((Below.refl _ X).alloc (Nat.le_refl _) _) (Nat.le_refl _), h2.later ((Below.refl _ X).alloc (Nat.le_refl _) _) (Nat.le_refl _), h3.later ((Below.refl _ X).alloc (Nat.le_refl _) _) (Nat.le_refl _), h4.later ((Below.refl _ X).alloc (Nat.le_refl _) _) (Nat.le_refl _)⟩

set_option maxHeartbeats 4000000 in
set_option maxRecDepth 100000 in
theorem toldCodes_any {W0 w : World} {rb : Nat} {ob : Option Nat} {inV : Value} {p out : List Int} {most t : Nat} (hT : Tab W0) (h : Rdr W0 w rb ob inV p most out t) :
    Calls Tryd.prog 49 #[.pointer (some ⟨rb, 0, none⟩)] w fun e w' => AfterT W0 w w' rb ob inV p most out (toldF p t) e := by
  have hrb := h.rb_lt
  have hbs := h.bel.size
  have hrb0 := h.hb
  have KOB := Kept.mk h.ob_ge
  have KT := Kept.mk hT
  have hobk : ∀ j, w.heap.size ≤ j → some j ≠ ob := fun j hj e => by have := (KOB.out j e.symm).2; omega
  have KOJ := Kept.mk hobk
  have KA := Kept.mk (h.far ((Below.refl w.heap.size w).alloc (Nat.le_refl _) (.cells #[.slice none 0 0, .slice none 0 0, .slice none 0 0, .slice none 0 0] 71)))
  have KF : Kept (Fr rb ob w (w.alloc (.cells #[.slice none 0 0, .slice none 0 0, .slice none 0 0, .slice none 0 0] 71))) := ⟨(Fr.refl rb ob w).alloc _⟩
  have KX : Kept (∀ w1, Fr rb ob (w.alloc (.cells #[.slice none 0 0, .slice none 0 0, .slice none 0 0, .slice none 0 0] 71)) w1 → B4 w1 w.heap.size (.slice none 0 0) (.slice none 0 0) (.slice none 0 0) (.slice none 0 0)) := ⟨fun w1 hf => (show B4 _ _ _ _ _ _ from heap_alloc_new w _).far (hf.block _ (by simp) (by omega) (KOJ.out _ (Nat.le_refl _)))⟩
  clear h hT hobk
  rcases hq : countsF p t with ⟨⟨a, b, k⟩, t3⟩ | er
  · have K1 := Kept.mk (toldCounts_ok hq KA.out)
    obtain ⟨a0, a1, b0, b1, k0, k15, -, -⟩ := countsF_ok hq
    obtain ⟨n1, hn1⟩ : ∃ n1 : Nat, k + 4 = n1 := ⟨(k + 4).toNat, by omega⟩
    have hn19 : n1 ≤ 19 := by omega
    rcases hq2 : lcF p n1 t3 with ⟨y, t4⟩ | er2
    · obtain ⟨hok, -, -⟩ := lcF_ok hq2
      obtain ⟨n, hn⟩ : ∃ n : Nat, a + 257 + b + 1 = n := ⟨(a + 257 + b + 1).toNat, by omega⟩
      have K2 : Kept (∀ w1, Rdr W0 w1 rb ob inV p most out t3 → _) := ⟨fun w1 h1 => lengthsCode_ok KT.out n1 hq2 hn19 h1⟩
      rcases hq3 : lensF p y n t4 with ⟨L, t5⟩ | er3
      · obtain ⟨hLn, hLi, -, -⟩ := lensF_ok hok hq3
        have K3 : Kept (∀ w1 cv sv, CdR rb ob w1 (.agg #[cv, sv]) y → Rdr W0 w1 rb ob inV p most out t4 → _) := ⟨fun w1 cv sv hc1 h1 => lengths_ok n hq3 (by omega) hok hc1 h1⟩
        obtain ⟨k1, hk1⟩ : ∃ k1 : Nat, a + 257 = k1 := ⟨(a + 257).toNat, by omega⟩
        have hk2 : k1 < L.length := by omega
        have hk3 : 256 < k1 := by omega
        have hk4 : L.length ≤ 400 := by omega
        have KE : Kept (toldF p t = if L.getD 256 0 = 0 ∨ rightF (mkCd (L.take k1)) = false then .bad .form else if rightF (mkCd (L.drop k1)) = false ∧ (mkCd (L.drop k1)).symbols ≠ [] then .bad .form else .ok (mkCd (L.take k1), mkCd (L.drop k1)) t5) := ⟨by
          unfold toldF
          rw [hq]
          dsimp only
          rw [hn1, hn, hk1, Int.toNat_natCast, hq2]
          dsimp only
          rw [Int.toNat_natCast, hq3]
          dsimp only
          rw [Int.toNat_natCast]⟩
        have KLI := Kept.mk hLi
        have KHN := Kept.mk hLn
        have hn2 : (k1 : Int) + b + 1 = n := by omega
        clear hq hq2 hq3 hLi hLn hn
        go_enter Tryd.func49, Tryd.ntmps49
        go_wp2_with fail
        refine Calls.mono K1.out (fun e w1 hp => ?_)
        obtain ⟨rfl, hR1, hF1⟩ := hp
        have C2 := Kept.mk (K2.out w1 hR1)
        have F1 := Kept.mk hF1
        clear hR1 hF1
        go_wp2_with fail
        refine Calls.mono C2.out (fun e w2 hp => ?_)
        obtain ⟨cv, sv, rfl, hC2, hR2, hF2⟩ := hp
        obtain ⟨cv', sv', hcs, hcv, hsv⟩ := hC2.form
        cases hcs
        obtain ⟨ca, cc, rfl, -, -, -⟩ := hcv.form
        obtain ⟨sa, sc, rfl, -, -, -⟩ := hsv.form
        have F2 := Kept.mk (F1.out.trans hF2)
        have C3 := Kept.mk (K3.out _ _ _ (hC2.mv ((Fr.refl rb ob w2).alloc (.cells #[.slice ca y.counts.length cc, .slice sa y.symbols.length sc] 69)).mv) (hR2.far ((Below.refl _ w2).alloc (Nat.le_refl _) _)))
        clear hR2 hF2 hC2 hcv hsv
        go_wp2_with fail
        refine Calls.mono C3.out (fun e w3 hp => ?_)
        obtain ⟨lv, rfl, hlv, hR3, hF3⟩ := hp
        obtain ⟨lb, lo, lc, rfl, hlb, hlc, hlm, -, hcells⟩ := hlv.open (by omega)
        have hx := KX.out w3 ((F2.out.alloc _).trans hF3)
        have hxl := hx.lt
        have F3 := Kept.mk ((F2.out.alloc (.cells #[.slice ca y.counts.length cc, .slice sa y.symbols.length sc] 69)).trans hF3)
        have R3 := Kept.mk hR3
        have KB := Kept.mk hx
        have KM1 : Kept (∀ W, Below w3.heap.size w3 W → Calls Tryd.prog 67 #[.slice (some ⟨lb, lo, none⟩) k1 lc] W fun e w' => ∃ cv sv, e = .returned (.agg #[cv, sv]) ∧ Rd .i64 (fun b => W.heap.size ≤ b) w' cv (mkCd (L.take k1)).counts ∧ Rd .i64 (fun b => W.heap.size ≤ b) w' sv (mkCd (L.take k1)).symbols ∧ Below W.heap.size W w') := ⟨fun W hW => makeCode_any _ (L.take k1) W ((hlv.cut k1 (by omega)).later hW (Nat.le_refl _)) (by simp; omega) (KLI.out.take _)⟩
        have KM2 : Kept (∀ W, Below w3.heap.size w3 W → Calls Tryd.prog 67 #[.slice (some ⟨lb, lo + k1, none⟩) (L.length - k1) (lc - k1)] W fun e w' => ∃ cv sv, e = .returned (.agg #[cv, sv]) ∧ Rd .i64 (fun b => W.heap.size ≤ b) w' cv (mkCd (L.drop k1)).counts ∧ Rd .i64 (fun b => W.heap.size ≤ b) w' sv (mkCd (L.drop k1)).symbols ∧ Below W.heap.size W w') := ⟨fun W hW => makeCode_any _ (L.drop k1) W ((hlv.dropAt k1 (by omega)).later hW (Nat.le_refl _)) (by simp; omega) (KLI.out.drop _)⟩
        have KCL : Kept (∀ W, Below w3.heap.size w3 W → W.cell? ⟨lb, lo + 256, none⟩ = some (.int .i64 (L.getD 256 0))) := ⟨fun W hW => by rw [hW.cell (p := ⟨lb, lo + 256, none⟩) hlb]; exact hcells 256 (by omega)⟩
        have hlk : ¬ lc = k1 := by omega
        have hx1 : (k1 : Int) ≤ (lc : Int) := by omega
        have hx2 : (k1 : Int) ≤ (L.length : Int) := by omega
        have hx3 : (L.length : Int) ≤ (lc : Int) := by omega
        clear hR3 hF3 hx hlv hcells hlm
        go_upto_region 11 with fail
        go_cut [11] from 50 to 58 (fun s11 wx => ∃ nb cv sv dv tv, s11 = .pointer (some ⟨nb, 0, none⟩) ∧ Told w3 wx nb L k1 cv sv dv tv)
        case first =>
          have hD : Below w3.heap.size w3 (w3.drewN 1) := below_drewN (Below.refl _ _) 1
          refine wp_region_noPanic (wp_region_any (by kernel_rfl) ?_)
          show wpAny _ _ _ _ _ _ _ (w3.drewN 1)
          refine wpAny_take (i := 0) (v := .slice (some ⟨lb, lo, none⟩) L.length lc) rfl (by kernel_rfl) (by kernel_rfl) (by kernel_rfl) (fun _ _ _ h => h) (Or.inl ⟨rfl, fun W => by rfl⟩) ?_
          simp only [Act.put]
          refine wpAny_take (i := 1) (v := .int .i64 k1) rfl (by kernel_rfl) (by kernel_rfl) (by kernel_rfl) (fun _ _ _ h => h) (Or.inl ⟨rfl, fun W => by rfl⟩) ?_
          simp only [Act.put]
          refine wpAny_take (i := 2) (v := .slice (some ⟨lb, lo, none⟩) k1 lc) rfl (by kernel_rfl) (by kernel_rfl) (by kernel_rfl) (fun _ _ _ h => h) (Or.inl ⟨rfl, fun W => by go_simp⟩) ?_
          simp only [Act.put]
          refine wpAny_take (i := 4) (v := .slice (some ⟨lb, lo, none⟩) L.length lc) rfl (by kernel_rfl) (by kernel_rfl) (by kernel_rfl) (fun _ _ _ h => h) (Or.inl ⟨rfl, fun W => by rfl⟩) ?_
          simp only [Act.put]
          refine wpAny_take (i := 5) (v := .int .i64 k1) rfl (by kernel_rfl) (by kernel_rfl) (by kernel_rfl) (fun _ _ _ h => h) (Or.inl ⟨rfl, fun W => by rfl⟩) ?_
          simp only [Act.put]
          refine wpAny_take (i := 6) (v := .slice (some ⟨lb, lo + k1, none⟩) (L.length - k1) (lc - k1)) rfl (by kernel_rfl) (by kernel_rfl) (by kernel_rfl) (fun _ _ _ h => h) (Or.inl ⟨rfl, fun W => by go_simp⟩) ?_
          simp only [Act.put]
          refine wpAny_two (i := 3) (j := 9) (by kernel_rfl) rfl rfl rfl rfl (fun K hK => ?_) (fun K hK => ?_)
          · go_simp
            refine Calls.mono (KM1.out _ hD) (fun e W1 hp => ?_)
            obtain ⟨cv, sv, rfl, hc, hs, hbW1⟩ := hp
            obtain ⟨c1, c2, rfl, -, -, -⟩ := hc.form
            obtain ⟨s1, s2, rfl, -, -, -⟩ := hs.form
            refine hK _ _ ?_
            clear hK K
            have hB1 : Below w3.heap.size w3 W1 := hD.trans hbW1
            have hz1 := hB1.size
            refine wpAny_two (i := 7) (j := 9) (by kernel_rfl) rfl rfl rfl rfl (fun K hK => ?_) (fun K hK => ?_)
            · go_simp
              refine Calls.mono (KM2.out _ hB1) (fun e W2 hp => ?_)
              obtain ⟨dv, tv, rfl, hd, ht, hbW2⟩ := hp
              obtain ⟨d1, d2, rfl, -, -, -⟩ := hd.form
              obtain ⟨t1, t2, rfl, -, -, -⟩ := ht.form
              refine hK _ _ ?_
              clear hK K
              have hB2 : Below w3.heap.size w3 W2 := hB1.trans (hbW2.mono hz1)
              have hz2 := hbW2.size
              have e1 := (hc.weak (fun g _ hg => hg) : Rd .i64 (fun g => w3.heap.size ≤ g) W1 _ _).later hbW2 (Nat.le_refl _)
              have e2 := (hs.weak (fun g _ hg => hg) : Rd .i64 (fun g => w3.heap.size ≤ g) W1 _ _).later hbW2 (Nat.le_refl _)
              have e3 : Rd .i64 (fun g => w3.heap.size ≤ g) W2 _ _ := hd.weak (fun g _ hg => Nat.le_trans hz1 hg)
              have e4 : Rd .i64 (fun g => w3.heap.size ≤ g) W2 _ _ := ht.weak (fun g _ hg => Nat.le_trans hz1 hg)
              have KTN := Kept.mk (told_new hB2 e1 e2 e3 e4)
              clear e1 e2 e3 e4 hc hs hd ht
              refine wpAny_two (i := 8) (j := 9) (by kernel_rfl) rfl rfl rfl rfl (fun K hK => ?_) (fun K hK => ?_)
              · go_simp
                refine hK _ _ ?_
                clear hK K
                refine wpAny_one (i := 9) (by kernel_rfl) rfl rfl (fun K hK => ?_)
                go_simp
                refine hK _ _ ?_
                clear hK K
                refine wpAny_one (i := 10) (by kernel_rfl) rfl rfl (fun K hK => ?_)
                go_simp
                refine hK _ _ ?_
                clear hK K
                refine wpAny_done (by kernel_rfl) (NoPanic.normal ?_) _
                go_wp2_with fail
                go_meet
                case rel => exact ⟨W2.heap.size, _, _, _, _, rfl, KTN.out⟩
              · go_simp
                refine hK _ _ ?_
                clear hK K
                refine wpAny_one (i := 8) (by kernel_rfl) rfl rfl (fun K hK => ?_)
                go_simp
                refine hK _ _ ?_
                clear hK K
                refine wpAny_one (i := 10) (by kernel_rfl) rfl rfl (fun K hK => ?_)
                go_simp
                refine hK _ _ ?_
                clear hK K
                refine wpAny_done (by kernel_rfl) (NoPanic.normal ?_) _
                go_wp2_with fail
                go_meet
                case rel => exact ⟨W2.heap.size, _, _, _, _, rfl, KTN.out⟩
            · go_simp
              refine hK _ _ ?_
              clear hK K
              refine wpAny_one (i := 7) (by kernel_rfl) rfl rfl (fun K hK => ?_)
              go_simp
              refine Calls.mono (KM2.out _ (hB1.alloc hB1.size _)) (fun e W2 hp => ?_)
              obtain ⟨dv, tv, rfl, hd, ht, hbW2⟩ := hp
              obtain ⟨d1, d2, rfl, -, -, -⟩ := hd.form
              obtain ⟨t1, t2, rfl, -, -, -⟩ := ht.form
              refine hK _ _ ?_
              clear hK K
              have hz2 := hbW2.size
              simp at hz2
              have hBa : Below W1.heap.size W1 W2 := ((Below.refl _ W1).alloc (Nat.le_refl _) _).trans (hbW2.mono (by simp))
              have hB2 : Below w3.heap.size w3 W2 := hB1.trans (hBa.mono hz1)
              have hB : B4 W2 W1.heap.size (.slice none 0 0) (.slice none 0 0) (.slice none 0 0) (.slice none 0 0) := (show B4 _ _ _ _ _ _ from heap_alloc_new W1 (.cells #[.slice none 0 0, .slice none 0 0, .slice none 0 0, .slice none 0 0] 71)).far (hbW2.block _ (by simp))
              have e1 := ((hc.weak (fun g hl hg => ⟨hg, by omega⟩) : Rd .i64 (fun g => w3.heap.size ≤ g ∧ g ≠ W1.heap.size) W1 _ _).later hBa (Nat.le_refl _))
              have e2 := ((hs.weak (fun g hl hg => ⟨hg, by omega⟩) : Rd .i64 (fun g => w3.heap.size ≤ g ∧ g ≠ W1.heap.size) W1 _ _).later hBa (Nat.le_refl _))
              have e3 : Rd .i64 (fun g => w3.heap.size ≤ g ∧ g ≠ W1.heap.size) W2 _ _ := hd.weak (fun g _ hg => by simp at hg; omega)
              have e4 : Rd .i64 (fun g => w3.heap.size ≤ g ∧ g ≠ W1.heap.size) W2 _ _ := ht.weak (fun g _ hg => by simp at hg; omega)
              have KTN := Kept.mk (told_set hB hz1 hB2 e1 e2 e3 e4)
              have q0 := hB.c0
              have q1 := hB.c1
              have q2 := hB.c2
              have q3 := hB.c3
              have g0 := hB.fz 0
              have g1 := hB.fz 1
              have g2 := hB.fz 2
              have g3 := hB.fz 3
              clear e1 e2 e3 e4 hc hs hd ht hB hBa
              refine wpAny_one (i := 8) (by kernel_rfl) rfl rfl (fun K hK => ?_)
              go_simp
              refine hK _ _ ?_
              clear hK K
              refine wpAny_one (i := 10) (by kernel_rfl) rfl rfl (fun K hK => ?_)
              go_simp
              refine hK _ _ ?_
              clear hK K
              refine wpAny_done (by kernel_rfl) (NoPanic.normal ?_) _
              go_wp2_with fail
              go_meet
              case rel => exact ⟨W1.heap.size, _, _, _, _, rfl, KTN.out⟩
          · go_simp
            refine hK _ _ ?_
            clear hK K
            refine wpAny_one (i := 3) (by kernel_rfl) rfl rfl (fun K hK => ?_)
            go_simp
            refine Calls.mono (KM1.out _ (hD.alloc hD.size _)) (fun e W1 hp => ?_)
            obtain ⟨cv, sv, rfl, hc, hs, hbW1⟩ := hp
            obtain ⟨c1, c2, rfl, -, -, -⟩ := hc.form
            obtain ⟨s1, s2, rfl, -, -, -⟩ := hs.form
            refine hK _ _ ?_
            clear hK K
            have hz1 := hbW1.size
            simp at hz1
            have hB1 : Below w3.heap.size w3 W1 := (hD.alloc hD.size _).trans (hbW1.mono (by simp))
            refine wpAny_one (i := 7) (by kernel_rfl) rfl rfl (fun K hK => ?_)
            go_simp
            refine Calls.mono (KM2.out _ hB1) (fun e W2 hp => ?_)
            obtain ⟨dv, tv, rfl, hd, ht, hbW2⟩ := hp
            obtain ⟨d1, d2, rfl, -, -, -⟩ := hd.form
            obtain ⟨t1, t2, rfl, -, -, -⟩ := ht.form
            refine hK _ _ ?_
            clear hK K
            have hz2 := hbW2.size
            have hB2 : Below w3.heap.size w3 W2 := hB1.trans (hbW2.mono hB1.size)
            have hB : B4 W2 w3.heap.size (.slice none 0 0) (.slice none 0 0) (.slice none 0 0) (.slice none 0 0) := ((show B4 _ _ _ _ _ _ from heap_alloc_new (w3.drewN 1) (.cells #[.slice none 0 0, .slice none 0 0, .slice none 0 0, .slice none 0 0] 71)).far (hbW1.block _ (by simp))).far (hbW2.block _ (by show w3.heap.size < _; omega))
            have e1 := ((hc.weak (fun g hl hg => by simp at hg; exact ⟨by omega, by omega⟩) : Rd .i64 (fun g => w3.heap.size ≤ g ∧ g ≠ w3.heap.size) W1 _ _).later hbW2 (Nat.le_refl _))
            have e2 := ((hs.weak (fun g hl hg => by simp at hg; exact ⟨by omega, by omega⟩) : Rd .i64 (fun g => w3.heap.size ≤ g ∧ g ≠ w3.heap.size) W1 _ _).later hbW2 (Nat.le_refl _))
            have e3 : Rd .i64 (fun g => w3.heap.size ≤ g ∧ g ≠ w3.heap.size) W2 _ _ := hd.weak (fun g _ hg => by omega)
            have e4 : Rd .i64 (fun g => w3.heap.size ≤ g ∧ g ≠ w3.heap.size) W2 _ _ := ht.weak (fun g _ hg => by omega)
            have KTN := Kept.mk (told_set hB (Nat.le_refl _) hB2 e1 e2 e3 e4)
            have q0 := hB.c0
            have q1 := hB.c1
            have q2 := hB.c2
            have q3 := hB.c3
            have g0 := hB.fz 0
            have g1 := hB.fz 1
            have g2 := hB.fz 2
            have g3 := hB.fz 3
            clear e1 e2 e3 e4 hc hs hd ht hB
            refine wpAny_one (i := 8) (by kernel_rfl) rfl rfl (fun K hK => ?_)
            go_simp
            refine hK _ _ ?_
            clear hK K
            refine wpAny_one (i := 10) (by kernel_rfl) rfl rfl (fun K hK => ?_)
            go_simp
            refine hK _ _ ?_
            clear hK K
            refine wpAny_done (by kernel_rfl) (NoPanic.normal ?_) _
            go_wp2_with fail
            go_meet
            case rel => exact ⟨w3.heap.size, _, _, _, _, rfl, KTN.out⟩
        case rest =>
          obtain ⟨nb, cv, sv, dv, tv, rfl, hnb, hnl, hbw, hc1, hc2, hc3, hc4⟩ := hcut
          obtain ⟨c1, c2, rfl, -, -, -⟩ := hc1.form
          obtain ⟨s1, s2, rfl, -, -, -⟩ := hc2.form
          obtain ⟨d1, d2, rfl, -, -, -⟩ := hc3.form
          obtain ⟨t1, t2, rfl, -, -, -⟩ := hc4.form
          have hrs := KB.out.far (hbw.block _ hxl)
          have hcl := KCL.out _ hbw
          have m0 := hnb.c0
          have m1 := hnb.c1
          have m2 := hnb.c2
          have m3 := hnb.c3
          have q0 := hrs.c0
          have q1 := hrs.c1
          have q2 := hrs.c2
          have q3 := hrs.c3
          have g0 := hrs.fz 0
          have g1 := hrs.fz 1
          have g2 := hrs.fz 2
          have g3 := hrs.fz 3
          have KBw := Kept.mk hbw
          have KNB := Kept.mk hnb
          have KBx := Kept.mk hrs
          have KC1 := Kept.mk hc1
          have KC2 := Kept.mk hc2
          have KC3 := Kept.mk hc3
          have KC4 := Kept.mk hc4
          have KRx := Kept.mk (R3.out.far hbw)
          have KFx : Kept (Fr rb ob w _) := ⟨(KF.out.trans F3.out).trans ⟨hbw.os, hbw.tape, hbw.output, hbw.size, fun k hk _ _ => hbw.block k hk⟩⟩
          have KBE := Kept.mk KRx.out.bel
          have hok1 := mkCd_ok (L.take k1) (by simp; omega) 288 (by simp; omega)
          have hok2 := mkCd_ok (L.drop k1) (by simp; omega) 400 (by simp; omega)
          have KO1 := Kept.mk hok1
          have KO2 := Kept.mk hok2
          clear hbw hnb hrs hc1 hc2 hc3 hc4 hok1 hok2 KM1 KM2 KCL K1 K2 K3 C2 C3
          generalize L.getD 256 0 = z at *
          generalize mkCd (L.take k1) = A at *
          generalize mkCd (L.drop k1) = D at *
          by_cases hz : z = 0
          · have KE2 : Kept (toldF p t = .bad .form) := ⟨by rw [KE.out, if_pos (Or.inl hz)]⟩
            subst hz
            go_wp2
            unfold AfterT
            rw [KE2.out]
            exact bodyPost_ret (results_told rfl rfl (KBx.out.all _ _ _ _)) rfl ⟨rfl, Below.set4 KBE.out hbs _ _ _ _, KFx.out.set4 (Nat.le_refl _) _ _ _ _⟩
          · have KRC := Kept.mk (right_any (n := 288) _ _ A _ KO1.out KC1.out KC2.out)
            rcases hr1 : rightF A with _ | _
            · have KE2 : Kept (toldF p t = .bad .form) := ⟨by rw [KE.out, if_pos (Or.inr hr1)]⟩
              rw [hr1] at KRC
              clear hr1
              go_wp2_with fail
              refine Calls.mono KRC.out (fun e w4 hp => ?_)
              obtain ⟨rfl, hbN⟩ := hp
              clear m0 m1 m2 m3 q0 q1 q2 q3 g0 g1 g2 g3 hcl KRx KBE
              have hbw : Below w3.heap.size w3 w4 := KBw.out.trans (hbN.mono KBw.out.size)
              have hnb := KNB.out.far (hbN.block _ KNB.out.lt)
              have hrs := KBx.out.far (hbN.block _ KBx.out.lt)
              have m0 := hnb.c0
              have m1 := hnb.c1
              have m2 := hnb.c2
              have m3 := hnb.c3
              have q0 := hrs.c0
              have q1 := hrs.c1
              have q2 := hrs.c2
              have q3 := hrs.c3
              have g0 := hrs.fz 0
              have g1 := hrs.fz 1
              have g2 := hrs.fz 2
              have g3 := hrs.fz 3
              have hc1 := KC1.out.later hbN (Nat.le_refl _)
              have hc2 := KC2.out.later hbN (Nat.le_refl _)
              have hc3 := KC3.out.later hbN (Nat.le_refl _)
              have hc4 := KC4.out.later hbN (Nat.le_refl _)
              clear KBw KNB KBx KC1 KC2 KC3 KC4
              have KBw := Kept.mk hbw
              have KNB := Kept.mk hnb
              have KBx := Kept.mk hrs
              have KC1 := Kept.mk hc1
              have KC2 := Kept.mk hc2
              have KC3 := Kept.mk hc3
              have KC4 := Kept.mk hc4
              have KRx := Kept.mk (R3.out.far KBw.out)
              have KBE := Kept.mk KRx.out.bel
              have KFx : Kept (Fr rb ob w w4) := ⟨(KF.out.trans F3.out).trans ⟨KBw.out.os, KBw.out.tape, KBw.out.output, KBw.out.size, fun k hk _ _ => KBw.out.block k hk⟩⟩
              clear hbw hnb hrs hc1 hc2 hc3 hc4 hbN
              go_wp2
              unfold AfterT
              rw [KE2.out]
              exact bodyPost_ret (results_told rfl rfl (KBx.out.all _ _ _ _)) rfl ⟨rfl, Below.set4 KBE.out hbs _ _ _ _, KFx.out.set4 (Nat.le_refl _) _ _ _ _⟩
            · rw [hr1] at KRC
              go_wp2_with fail
              refine Calls.mono KRC.out (fun e w4 hp => ?_)
              obtain ⟨rfl, hbN⟩ := hp
              clear m0 m1 m2 m3 q0 q1 q2 q3 g0 g1 g2 g3 hcl KRx KBE
              have hbw : Below w3.heap.size w3 w4 := KBw.out.trans (hbN.mono KBw.out.size)
              have hnb := KNB.out.far (hbN.block _ KNB.out.lt)
              have hrs := KBx.out.far (hbN.block _ KBx.out.lt)
              have m0 := hnb.c0
              have m1 := hnb.c1
              have m2 := hnb.c2
              have m3 := hnb.c3
              have q0 := hrs.c0
              have q1 := hrs.c1
              have q2 := hrs.c2
              have q3 := hrs.c3
              have g0 := hrs.fz 0
              have g1 := hrs.fz 1
              have g2 := hrs.fz 2
              have g3 := hrs.fz 3
              have hc1 := KC1.out.later hbN (Nat.le_refl _)
              have hc2 := KC2.out.later hbN (Nat.le_refl _)
              have hc3 := KC3.out.later hbN (Nat.le_refl _)
              have hc4 := KC4.out.later hbN (Nat.le_refl _)
              clear KBw KNB KBx KC1 KC2 KC3 KC4
              have KBw := Kept.mk hbw
              have KNB := Kept.mk hnb
              have KBx := Kept.mk hrs
              have KC1 := Kept.mk hc1
              have KC2 := Kept.mk hc2
              have KC3 := Kept.mk hc3
              have KC4 := Kept.mk hc4
              have KRx := Kept.mk (R3.out.far KBw.out)
              have KBE := Kept.mk KRx.out.bel
              have KFx : Kept (Fr rb ob w w4) := ⟨(KF.out.trans F3.out).trans ⟨KBw.out.os, KBw.out.tape, KBw.out.output, KBw.out.size, fun k hk _ _ => KBw.out.block k hk⟩⟩
              clear hbw hnb hrs hc1 hc2 hc3 hc4 hbN
              have KRD := Kept.mk (right_any (n := 400) _ _ D w4 KO2.out KC3.out KC4.out)
              rcases hr2 : rightF D with _ | _
              · rw [hr2] at KRD
                go_wp2_with fail
                refine Calls.mono KRD.out (fun e w5 hp => ?_)
                obtain ⟨rfl, hbN⟩ := hp
                clear m0 m1 m2 m3 q0 q1 q2 q3 g0 g1 g2 g3 KRx KBE KFx
                have hbw : Below w3.heap.size w3 w5 := KBw.out.trans (hbN.mono KBw.out.size)
                have hnb := KNB.out.far (hbN.block _ KNB.out.lt)
                have hrs := KBx.out.far (hbN.block _ KBx.out.lt)
                have m0 := hnb.c0
                have m1 := hnb.c1
                have m2 := hnb.c2
                have m3 := hnb.c3
                have q0 := hrs.c0
                have q1 := hrs.c1
                have q2 := hrs.c2
                have q3 := hrs.c3
                have g0 := hrs.fz 0
                have g1 := hrs.fz 1
                have g2 := hrs.fz 2
                have g3 := hrs.fz 3
                have hc1 := KC1.out.later hbN (Nat.le_refl _)
                have hc2 := KC2.out.later hbN (Nat.le_refl _)
                have hc3 := KC3.out.later hbN (Nat.le_refl _)
                have hc4 := KC4.out.later hbN (Nat.le_refl _)
                clear KBw KNB KBx KC1 KC2 KC3 KC4
                have KBw := Kept.mk hbw
                have KNB := Kept.mk hnb
                have KBx := Kept.mk hrs
                have KC1 := Kept.mk hc1
                have KC2 := Kept.mk hc2
                have KC3 := Kept.mk hc3
                have KC4 := Kept.mk hc4
                have KRx := Kept.mk (R3.out.far KBw.out)
                have KBE := Kept.mk KRx.out.bel
                have KFx : Kept (Fr rb ob w w5) := ⟨(KF.out.trans F3.out).trans ⟨KBw.out.os, KBw.out.tape, KBw.out.output, KBw.out.size, fun k hk _ _ => KBw.out.block k hk⟩⟩
                clear hbw hnb hrs hc1 hc2 hc3 hc4 hbN
                have KNN := Kept.mk (none_any (.slice d1 D.counts.length d2) _ D w5 KC4.out)
                by_cases hs0 : D.symbols.length = 0
                · have KE2 : Kept (toldF p t = .ok (A, D) t5) := ⟨by rw [KE.out, if_neg (by rw [hr1]; simp [hz]), if_neg (fun h => h.2 (List.eq_nil_of_length_eq_zero hs0))]⟩
                  rw [show decide (D.symbols.length = 0) = true from decide_eq_true hs0] at KNN
                  clear hs0
                  clear hr1 hr2
                  go_wp2_with fail
                  refine Calls.mono KNN.out (fun e w6 hp => ?_)
                  obtain ⟨rfl, hbN⟩ := hp
                  clear m0 m1 m2 m3 q0 q1 q2 q3 g0 g1 g2 g3 KRx KBE KFx
                  have hbw : Below w3.heap.size w3 w6 := KBw.out.trans (hbN.mono KBw.out.size)
                  have hnb := KNB.out.far (hbN.block _ KNB.out.lt)
                  have hrs := KBx.out.far (hbN.block _ KBx.out.lt)
                  have m0 := hnb.c0
                  have m1 := hnb.c1
                  have m2 := hnb.c2
                  have m3 := hnb.c3
                  have q0 := hrs.c0
                  have q1 := hrs.c1
                  have q2 := hrs.c2
                  have q3 := hrs.c3
                  have g0 := hrs.fz 0
                  have g1 := hrs.fz 1
                  have g2 := hrs.fz 2
                  have g3 := hrs.fz 3
                  have hc1 := KC1.out.later hbN (Nat.le_refl _)
                  have hc2 := KC2.out.later hbN (Nat.le_refl _)
                  have hc3 := KC3.out.later hbN (Nat.le_refl _)
                  have hc4 := KC4.out.later hbN (Nat.le_refl _)
                  clear KBw KNB KBx KC1 KC2 KC3 KC4
                  have KBw := Kept.mk hbw
                  have KNB := Kept.mk hnb
                  have KBx := Kept.mk hrs
                  have KC1 := Kept.mk hc1
                  have KC2 := Kept.mk hc2
                  have KC3 := Kept.mk hc3
                  have KC4 := Kept.mk hc4
                  have KRx := Kept.mk (R3.out.far KBw.out)
                  have KBE := Kept.mk KRx.out.bel
                  have KFx : Kept (Fr rb ob w w6) := ⟨(KF.out.trans F3.out).trans ⟨KBw.out.os, KBw.out.tape, KBw.out.output, KBw.out.size, fun k hk _ _ => KBw.out.block k hk⟩⟩
                  clear hbw hnb hrs hc1 hc2 hc3 hc4 hbN
                  go_wp2
                  unfold AfterT
                  rw [KE2.out]
                  exact bodyPost_ret (results_told rfl rfl (KBx.out.all _ _ _ _)) rfl ⟨_, _, _, _, rfl, four_far KC1.out hxl (Nat.le_refl _) _ _ _ _, four_far KC2.out hxl (Nat.le_refl _) _ _ _ _, four_far KC3.out hxl (Nat.le_refl _) _ _ _ _, four_far KC4.out hxl (Nat.le_refl _) _ _ _ _, KRx.out.set4 hbs (by omega) (KOJ.out _ (Nat.le_refl _)) _ _ _ _, (KFx.out).set4 (Nat.le_refl _) _ _ _ _⟩
                · have KE2 : Kept (toldF p t = .bad .form) := ⟨by rw [KE.out, if_neg (by rw [hr1]; simp [hz]), if_pos ⟨hr2, fun h => hs0 (by rw [h]; rfl)⟩]⟩
                  rw [show decide (D.symbols.length = 0) = false from decide_eq_false hs0] at KNN
                  clear hs0
                  clear hr1 hr2
                  go_wp2_with fail
                  refine Calls.mono KNN.out (fun e w6 hp => ?_)
                  obtain ⟨rfl, hbN⟩ := hp
                  clear m0 m1 m2 m3 q0 q1 q2 q3 g0 g1 g2 g3 KRx KBE KFx
                  have hbw : Below w3.heap.size w3 w6 := KBw.out.trans (hbN.mono KBw.out.size)
                  have hnb := KNB.out.far (hbN.block _ KNB.out.lt)
                  have hrs := KBx.out.far (hbN.block _ KBx.out.lt)
                  have m0 := hnb.c0
                  have m1 := hnb.c1
                  have m2 := hnb.c2
                  have m3 := hnb.c3
                  have q0 := hrs.c0
                  have q1 := hrs.c1
                  have q2 := hrs.c2
                  have q3 := hrs.c3
                  have g0 := hrs.fz 0
                  have g1 := hrs.fz 1
                  have g2 := hrs.fz 2
                  have g3 := hrs.fz 3
                  have hc1 := KC1.out.later hbN (Nat.le_refl _)
                  have hc2 := KC2.out.later hbN (Nat.le_refl _)
                  have hc3 := KC3.out.later hbN (Nat.le_refl _)
                  have hc4 := KC4.out.later hbN (Nat.le_refl _)
                  clear KBw KNB KBx KC1 KC2 KC3 KC4
                  have KBw := Kept.mk hbw
                  have KNB := Kept.mk hnb
                  have KBx := Kept.mk hrs
                  have KC1 := Kept.mk hc1
                  have KC2 := Kept.mk hc2
                  have KC3 := Kept.mk hc3
                  have KC4 := Kept.mk hc4
                  have KRx := Kept.mk (R3.out.far KBw.out)
                  have KBE := Kept.mk KRx.out.bel
                  have KFx : Kept (Fr rb ob w w6) := ⟨(KF.out.trans F3.out).trans ⟨KBw.out.os, KBw.out.tape, KBw.out.output, KBw.out.size, fun k hk _ _ => KBw.out.block k hk⟩⟩
                  clear hbw hnb hrs hc1 hc2 hc3 hc4 hbN
                  go_wp2
                  unfold AfterT
                  rw [KE2.out]
                  exact bodyPost_ret (results_told rfl rfl (KBx.out.all _ _ _ _)) rfl ⟨rfl, Below.set4 KBE.out hbs _ _ _ _, KFx.out.set4 (Nat.le_refl _) _ _ _ _⟩
              · have KE2 : Kept (toldF p t = .ok (A, D) t5) := ⟨by rw [KE.out, if_neg (by rw [hr1]; simp [hz]), if_neg (by rw [hr2]; simp)]⟩
                rw [hr2] at KRD
                clear hr1 hr2
                go_wp2_with fail
                refine Calls.mono KRD.out (fun e w5 hp => ?_)
                obtain ⟨rfl, hbN⟩ := hp
                clear m0 m1 m2 m3 q0 q1 q2 q3 g0 g1 g2 g3 KRx KBE KFx
                have hbw : Below w3.heap.size w3 w5 := KBw.out.trans (hbN.mono KBw.out.size)
                have hnb := KNB.out.far (hbN.block _ KNB.out.lt)
                have hrs := KBx.out.far (hbN.block _ KBx.out.lt)
                have m0 := hnb.c0
                have m1 := hnb.c1
                have m2 := hnb.c2
                have m3 := hnb.c3
                have q0 := hrs.c0
                have q1 := hrs.c1
                have q2 := hrs.c2
                have q3 := hrs.c3
                have g0 := hrs.fz 0
                have g1 := hrs.fz 1
                have g2 := hrs.fz 2
                have g3 := hrs.fz 3
                have hc1 := KC1.out.later hbN (Nat.le_refl _)
                have hc2 := KC2.out.later hbN (Nat.le_refl _)
                have hc3 := KC3.out.later hbN (Nat.le_refl _)
                have hc4 := KC4.out.later hbN (Nat.le_refl _)
                clear KBw KNB KBx KC1 KC2 KC3 KC4
                have KBw := Kept.mk hbw
                have KNB := Kept.mk hnb
                have KBx := Kept.mk hrs
                have KC1 := Kept.mk hc1
                have KC2 := Kept.mk hc2
                have KC3 := Kept.mk hc3
                have KC4 := Kept.mk hc4
                have KRx := Kept.mk (R3.out.far KBw.out)
                have KBE := Kept.mk KRx.out.bel
                have KFx : Kept (Fr rb ob w w5) := ⟨(KF.out.trans F3.out).trans ⟨KBw.out.os, KBw.out.tape, KBw.out.output, KBw.out.size, fun k hk _ _ => KBw.out.block k hk⟩⟩
                clear hbw hnb hrs hc1 hc2 hc3 hc4 hbN
                go_wp2
                unfold AfterT
                rw [KE2.out]
                exact bodyPost_ret (results_told rfl rfl (KBx.out.all _ _ _ _)) rfl ⟨_, _, _, _, rfl, four_far KC1.out hxl (Nat.le_refl _) _ _ _ _, four_far KC2.out hxl (Nat.le_refl _) _ _ _ _, four_far KC3.out hxl (Nat.le_refl _) _ _ _ _, four_far KC4.out hxl (Nat.le_refl _) _ _ _ _, KRx.out.set4 hbs (by omega) (KOJ.out _ (Nat.le_refl _)) _ _ _ _, (KFx.out).set4 (Nat.le_refl _) _ _ _ _⟩
      · have K3 : Kept (∀ w1 cv sv, CdR rb ob w1 (.agg #[cv, sv]) y → Rdr W0 w1 rb ob inV p most out t4 → _) := ⟨fun w1 cv sv hc1 h1 => lengths_bad n hq3 (by omega) hok hc1 h1⟩
        have KE : Kept (toldF p t = .bad er3) := ⟨by simp only [toldF, hq, hn1, hn, Int.toNat_natCast, hq2, hq3]⟩
        have her := er3.rng
        have hne : ¬ er3.v = 0 := by omega
        clear hq hq2 hq3 her
        go_enter Tryd.func49, Tryd.ntmps49
        go_wp2_with fail
        refine Calls.mono K1.out (fun e w1 hp => ?_)
        obtain ⟨rfl, hR1, hF1⟩ := hp
        have C2 := Kept.mk (K2.out w1 hR1)
        have F1 := Kept.mk hF1
        clear hR1 hF1
        go_wp2_with fail
        refine Calls.mono C2.out (fun e w2 hp => ?_)
        obtain ⟨cv, sv, rfl, hC2, hR2, hF2⟩ := hp
        obtain ⟨cv', sv', hcs, hcv, hsv⟩ := hC2.form
        cases hcs
        obtain ⟨ca, cc, rfl, -, -, -⟩ := hcv.form
        obtain ⟨sa, sc, rfl, -, -, -⟩ := hsv.form
        have F2 := Kept.mk (F1.out.trans hF2)
        have C3 := Kept.mk (K3.out _ _ _ (hC2.mv ((Fr.refl rb ob w2).alloc (.cells #[.slice ca y.counts.length cc, .slice sa y.symbols.length sc] 69)).mv) (hR2.far ((Below.refl _ w2).alloc (Nat.le_refl _) _)))
        clear hR2 hF2 hC2 hcv hsv
        go_wp2_with fail
        refine Calls.mono C3.out (fun e w3 hp => ?_)
        obtain ⟨rfl, hR3, hF3⟩ := hp
        have hx := KX.out w3 ((F2.out.alloc _).trans hF3)
        have q0 := hx.c0
        have q1 := hx.c1
        have q2 := hx.c2
        have q3 := hx.c3
        have g0 := hx.fz 0
        have g1 := hx.fz 1
        have g2 := hx.fz 2
        have g3 := hx.fz 3
        have R3 := Kept.mk hR3
        have KB := Kept.mk hx
        have F3 := Kept.mk (KF.out.trans ((F2.out.alloc _).trans hF3))
        clear hR3 hF3 hx
        go_wp2
        unfold AfterT
        rw [KE.out]
        exact bodyPost_ret (results_told rfl rfl (KB.out.all _ _ _ _)) rfl ⟨rfl, Below.set4 R3.out hbs _ _ _ _, F3.out.set4 (Nat.le_refl _) _ _ _ _⟩
    · have K2 : Kept (∀ w1, Rdr W0 w1 rb ob inV p most out t3 → _) := ⟨fun w1 h1 => lengthsCode_bad KT.out n1 hq2 hn19 h1⟩
      have KE : Kept (toldF p t = .bad er2) := ⟨by simp only [toldF, hq, hn1, Int.toNat_natCast, hq2]⟩
      have her := er2.rng
      have hne : ¬ er2.v = 0 := by omega
      clear hq hq2 her
      go_enter Tryd.func49, Tryd.ntmps49
      go_wp2_with fail
      refine Calls.mono K1.out (fun e w1 hp => ?_)
      obtain ⟨rfl, hR1, hF1⟩ := hp
      have C2 := Kept.mk (K2.out w1 hR1)
      have F1 := Kept.mk hF1
      clear hR1 hF1
      go_wp2_with fail
      refine Calls.mono C2.out (fun e w2 hp => ?_)
      obtain ⟨rfl, hR2, hF2⟩ := hp
      have hx := KX.out w2 (F1.out.trans hF2)
      have q0 := hx.c0
      have q1 := hx.c1
      have q2 := hx.c2
      have q3 := hx.c3
      have g0 := hx.fz 0
      have g1 := hx.fz 1
      have g2 := hx.fz 2
      have g3 := hx.fz 3
      have hlt2 := hx.lt
      have hne1 : ¬ w2.heap.size = w.heap.size := by omega
      have hne2 : ¬ w.heap.size = w2.heap.size := by omega
      have R2 := Kept.mk hR2
      have KB := Kept.mk hx
      have F2 := Kept.mk (KF.out.trans (F1.out.trans hF2))
      clear hR2 hF2 hx
      go_wp2
      unfold AfterT
      rw [KE.out]
      have hb4 := Below.set4 R2.out hbs (.slice none 0 0) (.slice none 0 0) (.slice none 0 0) (.slice none 0 0)
      exact bodyPost_ret (results_told rfl rfl ((KB.out.all _ _ _ _).far (Below.heap_alloc _ _ _ (KB.out.all _ _ _ _).lt))) rfl ⟨rfl, hb4.alloc hb4.size _, (F2.out.set4 (Nat.le_refl _) _ _ _ _).alloc _⟩
  · have K1 := Kept.mk (toldCounts_bad hq KA.out)
    have KE : Kept (toldF p t = .bad er) := ⟨by simp only [toldF, hq]⟩
    have her := er.rng
    have hne : ¬ er.v = 0 := by omega
    clear hq her
    go_enter Tryd.func49, Tryd.ntmps49
    go_wp2_with fail
    refine Calls.mono K1.out (fun e w1 hp => ?_)
    obtain ⟨rfl, hR1, hF1⟩ := hp
    have hx := KX.out w1 hF1
    have q0 := hx.c0
    have q1 := hx.c1
    have q2 := hx.c2
    have q3 := hx.c3
    have g0 := hx.fz 0
    have g1 := hx.fz 1
    have g2 := hx.fz 2
    have g3 := hx.fz 3
    have R1 := Kept.mk hR1
    have KB := Kept.mk hx
    have F1 := Kept.mk (KF.out.trans hF1)
    clear hR1 hF1 hx
    go_wp2
    unfold AfterT
    rw [KE.out]
    exact bodyPost_ret (results_told rfl rfl (KB.out.all _ _ _ _)) rfl ⟨rfl, Below.set4 R1.out hbs _ _ _ _, F1.out.set4 (Nat.le_refl _) _ _ _ _⟩
end Go.Proofs.YtjijkcmbbccfmaaDoor
