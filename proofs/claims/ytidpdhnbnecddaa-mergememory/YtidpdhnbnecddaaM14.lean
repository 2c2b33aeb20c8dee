/-
  Walks: merge's cut.
-/
import Derived.Test.YtidpdhnbnecddaaM13
namespace Go.Proofs.Ytidpdhnbnecddaa
open Go.RowKit

theorem lines_cap {w : World} {a : Option Addr} {n c : Nat} {L : List ByteArray} (h : RdS w (.slice a n c) L) : L.length ≤ c := by
  obtain ⟨p', c', he, hle, -⟩ := h
  rw [List.length_map] at he hle
  injection he with e1 e2 e3
  omega
theorem bk_int {w : World} {g : Nat} {X : List Int} (h : Bk w g 3 (cellsK .i64 X)) {x : Nat} {y : Int} (hy : X[x]? = some y) : w.cell? ⟨g, x, none⟩ = some (.int .i64 y) := h.cell x _ (by rw [cellsK, List.getElem?_map, hy]; rfl)
abbrev frT : TypeId := 64
/-- Where cut stands: the pieces, the box 'from', both lists of places. -/
structure CuSt (w wr : World) (g1 g2 gf base : Nat) (X Y : List Int) (v : Value) (qs : List Pq) (i j k : Nat) : Prop where
  own : OwnP wr base v qs
  rd : ∀ q ∈ qs, PqR w q
  b1 : Bk wr g1 3 (cellsK .i64 X)
  b2 : Bk wr g2 3 (cellsK .i64 Y)
  bf : Bk wr gf frT [.int .i64 i, .int .i64 j, .int .i64 k]
  bel : Below w.heap.size w wr
  le : base ≤ wr.heap.size
  lt : g1 < base ∧ g2 < base ∧ gf < base ∧ g1 ≠ gf ∧ g2 ≠ gf ∧ w.heap.size ≤ gf
/-- Two pieces more, or one. -/
theorem CuSt.more {w wr wd w' : World} {g1 g2 gf base : Nat} {X Y : List Int} {v v' : Value} {qs rs : List Pq} {i j k : Nat} {o : Obj} (h : CuSt w wr g1 g2 gf base X Y v qs i j k) (hd : wd.heap = wr.heap) (hbd : Below w.heap.size w wd) (ho : w'.ownsRow base 46 3 v' (qs.length + rs.length) (pcV qs ++ pcV rs)) (hg : (wd.alloc o).grownBy w' v.ownBlock) (hr : ∀ q ∈ rs, PqR w q) : CuSt w w' g1 g2 gf base X Y v' (qs ++ rs) i j k := by
  have hfx : Fx (fun b => v.ownBlock = some b) wd w' := (Fx.alloc _ wd o).trans (Fx.grown hg) (fun _ _ e => e)
  have hlt := h.own.lt
  have hs : wd.heap.size = wr.heap.size := by rw [hd]
  have bk : ∀ {g : Nat} {T : TypeId} {cs : List Value}, g < base → Bk wr g T cs → Bk w' g T cs := fun {g T cs} hg hb => by
    have hb' : Bk wd g T cs := hb.far (by rw [hd])
    exact hb'.fx hfx (fun e => by have := (hlt _ e).1; omega)
  refine ⟨?_, fun q hq => ?_, bk h.lt.1 h.b1, bk h.lt.2.1 h.b2, bk h.lt.2.2.1 h.bf, ?_, ?_, h.lt⟩
  · unfold OwnP
    rw [List.length_append, pcV_append]
    exact ho
  · rcases List.mem_append.1 hq with hq | hq
    · exact h.rd q hq
    · exact hr q hq
  · have h1 := h.lt
    exact hbd.trans (hfx.below (B := w.heap.size) hbd.size (fun b hb e => by have := (hlt _ e).1; omega))
  · have := hfx.size
    have := h.le
    omega
theorem CuSt.same {w wr wd : World} {g1 g2 gf base : Nat} {X Y : List Int} {v : Value} {qs : List Pq} {i j k : Nat} (h : CuSt w wr g1 g2 gf base X Y v qs i j k) (hd : wd.heap = wr.heap) (hbd : Below w.heap.size w wd) : CuSt w wd g1 g2 gf base X Y v qs i j k :=
  ⟨h.own.far (fun _ _ => by rw [hd]), h.rd, h.b1.far (by rw [hd]), h.b2.far (by rw [hd]), h.bf.far (by rw [hd]), hbd, by rw [hd]; exact h.le, h.lt⟩
/-- The box is set. -/
theorem CuSt.set {w wr : World} {g1 g2 gf base : Nat} {X Y : List Int} {v : Value} {qs : List Pq} {i j k : Nat} (h : CuSt w wr g1 g2 gf base X Y v qs i j k) (i' j' k' : Nat) : CuSt w (((wr.setCell ⟨gf, 0, none⟩ (.int .i64 i')).setCell ⟨gf, 1, none⟩ (.int .i64 j')).setCell ⟨gf, 2, none⟩ (.int .i64 k')) g1 g2 gf base X Y v qs i' j' k' := by
  refine ⟨?_, h.rd, ((h.b1.other h.lt.2.2.2.1 _).other h.lt.2.2.2.1 _).other h.lt.2.2.2.1 _, ((h.b2.other h.lt.2.2.2.2.1 _).other h.lt.2.2.2.2.1 _).other h.lt.2.2.2.2.1 _, ((h.bf.set 0 _).set 1 _).set 2 _, ((h.bel.setCell h.lt.2.2.2.2.2 _).setCell h.lt.2.2.2.2.2 _).setCell h.lt.2.2.2.2.2 _, ?_, h.lt⟩
  · refine h.own.far (fun g hg => ?_)
    have hn : g ≠ gf := fun e => by have := (h.own.lt _ hg).1; have := h.lt; omega
    rw [Below.heap_setCell _ _ _ _ hn, Below.heap_setCell _ _ _ _ hn, Below.heap_setCell _ _ _ _ hn]
  · have := h.le
    simp only [World.setCell] at *
    simpa [World.setCell] using this
theorem cell_new2 (w : World) (cs : List Value) (T : TypeId) : ∀ j u, cs[j]? = some u → (w.alloc (.cells cs.toArray T)).cell? ((⟨w.heap.size, 0, none⟩ : Addr).add j) = some u := fun j u hu => by
  rw [add_plain, Nat.zero_add, cell_of_row _ _ j _ T (0, 0) (heap_alloc_new w _)]
  simpa using hu
/-- What cut answers. -/
def CutE (w : World) (O A B : List ByteArray) (v : Value) (w' : World) : Prop := ∃ qs, OwnP w' w.heap.size v qs ∧ qs.map (·.1) = cutP O A B ∧ (∀ q ∈ qs, PqR w q) ∧ Below w.heap.size w w'
set_option maxHeartbeats 4000000 in
set_option maxRecDepth 100000 in
theorem cut_any (o a b : Value) (O A B : List ByteArray) (w : World) (ho : ∀ W, Below w.heap.size w W → RdS W o O) (ha : ∀ W, Below w.heap.size w W → RdS W a A) (hb : ∀ W, Below w.heap.size w W → RdS W b B)
    (so : ∀ s ∈ O, s.size ≤ maxLen) (sa : ∀ s ∈ A, s.size ≤ maxLen) (sb : ∀ s ∈ B, s.size ≤ maxLen) (lo : O.length ≤ 1000) (la : A.length ≤ 1000) (lb : B.length ≤ 1000) :
    Calls Try.prog 21 #[o, a, b] w fun e w' => ∃ v, e = .returned v ∧ CutE w O A B v w' := by
  obtain ⟨i0, z0, hi, hz, hsz, hbt, hzc⟩ := info_pc
  have KO := Kept.mk ho
  have KA := Kept.mk ha
  have KB := Kept.mk hb
  obtain ⟨po, co, rfl⟩ := (ho w (Below.refl _ _)).form
  obtain ⟨pa, ca, rfl⟩ := (ha w (Below.refl _ _)).form
  obtain ⟨pb, cb, rfl⟩ := (hb w (Below.refl _ _)).form
  have Kco := Kept.mk (lines_cap (ho w (Below.refl _ _)))
  have Kca := Kept.mk (lines_cap (ha w (Below.refl _ _)))
  have Kcb := Kept.mk (lines_cap (hb w (Below.refl _ _)))
  have hL1 : longB O.length A.length = false := by unfold longB; rw [decide_eq_false (by omega), decide_eq_false (by omega)]; rfl
  have hL2 : longB O.length B.length = false := by unfold longB; rw [decide_eq_false (by omega), decide_eq_false (by omega)]; rfl
  have K1 := Kept.mk (places_any _ _ O A w (ho w (Below.refl _ _)) (ha w (Below.refl _ _)) so sa lo la hL1)
  have K2 : Kept (∀ W, Below w.heap.size w W → _) := ⟨fun W hW => places_any _ _ O B W (ho W hW) (hb W hW) so sb lo lb hL2⟩
  have KX := Kept.mk (plP_ok O A)
  have KY := Kept.mk (plP_ok O B)
  have KXl := Kept.mk (plP_len O A)
  have KYl := Kept.mk (plP_len O B)
  have Kcut : Kept (cutP O A B = ctG O A B (plP O A) (plP O B) O.length 0 0 0 0) := ⟨rfl⟩
  clear ho ha hb so sa sb hL1 hL2
  go_enter Try.func21, Try.ntmps21
  go_wp2_with fail
  refine Calls.mono K1.out (fun e w1 hp => ?_)
  obtain ⟨g1, hg1, rfl, hb1, hB1⟩ := hp
  have KB1 := Kept.mk hB1
  have Kb1 := Kept.mk hb1
  have Kg1 := Kept.mk hg1
  clear K1 hb1 hB1 hg1
  have K3 := Kept.mk (K2.out w1 KB1.out)
  clear K2
  go_wp2_with fail
  refine Calls.mono K3.out (fun e w2 hp => ?_)
  obtain ⟨g2, hg2, rfl, hb2, hB2⟩ := hp
  have KB2 := Kept.mk (KB1.out.trans (hB2.mono KB1.out.size))
  have Kb2 := Kept.mk hb2
  have Kb12 := Kept.mk (Kb1.out.far (hB2.block g1 Kb1.out.lt))
  have Kg2 : Kept (g2 ≠ g1) := ⟨by have := Kb1.out.lt; omega⟩
  clear K3 hb2 hB2 hg2 Kb1 KB1
  generalize plP O A = X at *
  generalize plP O B = Y at *
  obtain ⟨CC, hCC⟩ : ∃ CC, cutP O A B = CC := ⟨_, rfl⟩
  rw [hCC] at Kcut
  have KCC := Kept.mk hCC
  clear hCC
  have K0 : Kept (CuSt w (w2.alloc (.cells #[.int .i64 0, .int .i64 0, .int .i64 0] frT)) g1 g2 w2.heap.size (w2.heap.size + 1) X Y (.slice none 0 0) [] 0 0 0) := ⟨by
    have hbA := KB2.out.alloc KB2.out.size (.cells #[.int .i64 0, .int .i64 0, .int .i64 0] frT)
    have s1 := Kb12.out.lt
    have s2 := Kb2.out.lt
    refine ⟨World.ownsRow_nil _ _ 46 3, (fun q hq => by cases hq), Kb12.out.far ?_, Kb2.out.far ?_, Bk.new w2 frT [.int .i64 0, .int .i64 0, .int .i64 0], hbA, by simp, by omega, by omega, by omega, by omega, by omega, KB2.out.size⟩
    · exact (Below.refl w2.heap.size w2 |>.alloc (Nat.le_refl _) _).block g1 s1
    · exact (Below.refl w2.heap.size w2 |>.alloc (Nat.le_refl _) _).block g2 s2⟩
  have Kgf : Kept (w.heap.size ≤ w2.heap.size) := ⟨KB2.out.size⟩
  go_upto_region 5 with fail
  have K0 : Kept (CuSt w (w2.alloc (.cells #[.int .i64 0, .int .i64 0, .int .i64 0] frT)) g1 g2 w2.heap.size (w2.heap.size + 1) X Y (.slice none 0 0) [] 0 0 0) := K0
  unfold frT at K0
  generalize hwa : w2.alloc (.cells #[.int .i64 0, .int .i64 0, .int .i64 0] 64) = wa at *
  generalize hgf : w2.heap.size = gf at *
  clear hwa hgf KB2 Kb2 Kb12
  go_loopw [9, 22] (fun pv iv wr => ∃ (x i j k : Nat) (qs : List Pq), x ≤ O.length ∧ iv = .int .i64 x ∧ qs.length ≤ 2 * x ∧ CuSt w wr g1 g2 gf (gf + 1) X Y pv qs i j k ∧ CtI A B X Y x i j k ∧ qs.map (·.1) ++ ctG O A B X Y (O.length - x) x i j k = CC) (fun _ iv _ => O.length - (intOf iv).toNat)
  case atStart => exact ⟨0, 0, 0, 0, [], Nat.zero_le _, rfl, Nat.zero_le _, K0.out, CtI.start KX.out KY.out, by rw [Kcut.out]; rfl⟩
  case round =>
    obtain ⟨x, i, j, k, qs, hxl, rfl, hql, hst, hct, heq⟩ := hrel
    have KS := Kept.mk hst
    have KC := Kept.mk hct
    have KE := Kept.mk heq
    obtain ⟨va, vc, hfm⟩ := hst.own.form
    rw [hfm]
    rw [hfm] at KS
    have c0 := hst.bf.cell 0 _ rfl
    have c1 := hst.bf.cell 1 _ rfl
    have c2 := hst.bf.cell 2 _ rfl
    have f0 := hst.bf.frozen 0
    have f1 := hst.bf.frozen 1
    have f2 := hst.bf.frozen 2
    clear K0 heq hfm
    by_cases hlt : x < O.length
    · have hki : (x : Int) < (O.length : Int) := by omega
      have n0 : (0 : Int) ≤ (x : Int) := by omega
      have e1 : IntKind.i64.wrap ((x : Int) + 1) = (x : Int) + 1 := wr64 (by omega) (by omega)
      obtain ⟨y, hy⟩ : ∃ y, X[x]? = some y := ⟨_, List.getElem?_eq_getElem (by rw [KXl.out]; exact hlt)⟩
      obtain ⟨z, hz'⟩ : ∃ z, Y[x]? = some z := ⟨_, List.getElem?_eq_getElem (by rw [KYl.out]; exact hlt)⟩
      have d1 := bk_int hst.b1 hy
      have d2 := bk_int hst.b2 hz'
      have Ky := Kept.mk hy
      have Kz := Kept.mk hz'
      obtain ⟨f, hf⟩ : ∃ f, O.length - x = f + 1 := ⟨O.length - x - 1, by omega⟩
      have hf' : O.length - (x + 1) = f := by omega
      rw [hf] at KE
      have Kf := Kept.mk hf'
      clear hf hf'
      by_cases hp : y = -1 ∨ z = -1
      · have KE2 : Kept (qs.map (·.1) ++ ctG O A B X Y (O.length - (x + 1)) (x + 1) i j k = CC) := ⟨by rw [Kf.out, ← ctG_pass hy hz' hp]; exact KE.out⟩
        clear hst hct KE hy hz'
        by_cases hy1 : y = -1
        · subst hy1
          clear hp
          go_upto_region 7 with fail
          go_quiet (fail)
          generalize hwq : World.drewN wr _ = wq
          have KSq : Kept (CuSt w wq g1 g2 gf (gf + 1) X Y (.slice va qs.length vc) qs i j k) := ⟨KS.out.same (by rw [← hwq]; rfl) (by rw [← hwq]; exact below_drewN KS.out.bel _)⟩
          clear hwq c0 c1 c2 f0 f1 f2 d1 d2 KS
          go_wp2
          go_roundw
          case rel => exact ⟨x + 1, i, j, k, qs, hlt, by go_num, by omega, KSq.out, KC.out.pass, KE2.out⟩
          case measure => simp [intOf]; omega
        · have hz1 : z = -1 := hp.resolve_left hy1
          subst hz1
          have hyb : (y == -1) = false := by simpa using hy1
          clear hp hy1
          go_upto_region 7 with fail
          go_quiet (fail)
          generalize hwq : World.drewN wr _ = wq
          have KSq : Kept (CuSt w wq g1 g2 gf (gf + 1) X Y (.slice va qs.length vc) qs i j k) := ⟨KS.out.same (by rw [← hwq]; rfl) (by rw [← hwq]; exact below_drewN KS.out.bel _)⟩
          clear hwq c0 c1 c2 f0 f1 f2 d1 d2 KS
          go_wp2
          go_roundw
          case rel => exact ⟨x + 1, i, j, k, qs, hlt, by go_num, by omega, KSq.out, KC.out.pass, KE2.out⟩
          case measure => simp [intOf]; omega
      · have hy1 : y ≠ -1 := fun e => hp (.inl e)
        have hz1 : z ≠ -1 := fun e => hp (.inr e)
        have hyw := KX.out.within x y hy hy1
        have hzw := KY.out.within x z hz' hz1
        simp only at hyw hzw
        have hjy := hct.jx x y (Nat.le_refl _) hy hy1
        have hkz := hct.kx x z (Nat.le_refl _) hz' hz1
        have hix := hct.ix
        obtain ⟨yn, rfl⟩ : ∃ n : Nat, y = n := ⟨y.toNat, by omega⟩
        obtain ⟨zn, rfl⟩ : ∃ n : Nat, z = n := ⟨z.toNat, by omega⟩
        have hyb : (((yn : Nat) : Int) == -1) = false := by simp
        have hzb : (((zn : Nat) : Int) == -1) = false := by simp
        have hcto := Kco.out
        have hcta := Kca.out
        have hctb := Kcb.out
        obtain ⟨a1, k1, r1, s1⟩ := sub_lh (pa := po) (pc := co) (L := O) (lo := i) (hi := x) hix (by omega) hcto
        obtain ⟨a2, k2, r2, s2⟩ := sub_lh (pa := pa) (pc := ca) (L := A) (lo := j) (hi := yn) (by omega) (by omega) hcta
        obtain ⟨a3, k3, r3, s3⟩ := sub_lh (pa := pb) (pc := cb) (L := B) (lo := k) (hi := zn) (by omega) (by omega) hctb
        obtain ⟨a4, k4, r4, s4⟩ := sub_lh (pa := po) (pc := co) (L := O) (lo := x) (hi := x + 1) (by omega) (by omega) hcto
        obtain ⟨a5, k5, r5, s5⟩ := sub_lh (pa := pa) (pc := ca) (L := A) (lo := yn) (hi := yn + 1) (by omega) (by omega) hcta
        obtain ⟨a6, k6, r6, s6⟩ := sub_lh (pa := pb) (pc := cb) (L := B) (lo := zn) (hi := zn + 1) (by omega) (by omega) hctb
        rw [show ((x + 1 : Nat) : Int) = (x : Int) + 1 by omega] at r4
        rw [show ((yn + 1 : Nat) : Int) = (yn : Int) + 1 by omega] at r5
        rw [show ((zn + 1 : Nat) : Int) = (zn : Int) + 1 by omega] at r6
        have ey : IntKind.i64.wrap ((yn : Int) + 1) = (yn : Int) + 1 := wr64 (by omega) (by omega)
        have ez : IntKind.i64.wrap ((zn : Int) + 1) = (zn : Int) + 1 := wr64 (by omega) (by omega)
        have KR1 := Kept.mk r1
        have KR2 := Kept.mk r2
        have KR3 := Kept.mk r3
        have KR4 := Kept.mk r4
        have KR5 := Kept.mk r5
        have KR6 := Kept.mk r6
        have KQ1 : Kept (PqR w ((sg O i x, sg A j yn, sg B k zn), (.slice a1 (x - i) k1, .slice a2 (yn - j) k2, .slice a3 (zn - k) k3))) := ⟨fun W hW => ⟨s1 W (KO.out W hW), s2 W (KA.out W hW), s3 W (KB.out W hW)⟩⟩
        have KQ2 : Kept (PqR w ((sg O x (x + 1), sg A yn (yn + 1), sg B zn (zn + 1)), (.slice a4 (x + 1 - x) k4, .slice a5 (yn + 1 - yn) k5, .slice a6 (zn + 1 - zn) k6))) := ⟨fun W hW => ⟨s4 W (KO.out W hW), s5 W (KA.out W hW), s6 W (KB.out W hW)⟩⟩
        have KCn := Kept.mk (CtI.hit KX.out KY.out hy hz')
        have KEn := Kept.mk (ctG_hit (O := O) (A := A) (B := B) (f := f) (i := i) (j := j) (k := k) hy hz')
        generalize x - i = n1 at *
        generalize yn - j = n2 at *
        generalize zn - k = n3 at *
        generalize x + 1 - x = n4 at *
        generalize yn + 1 - yn = n5 at *
        generalize zn + 1 - zn = n6 at *
        clear r1 r2 r3 r4 r5 r6 s1 s2 s3 s4 s5 s6 hyw hzw hjy hkz hix hcto hcta hctb hp hy1 hz1 hy hz' hst hct
        go_upto_region 7 with fail
        go_quiet (fail)
        generalize hwq : World.drewN wr _ = wq
        have KSq : Kept (CuSt w wq g1 g2 gf (gf + 1) X Y (.slice va qs.length vc) qs i j k) := ⟨KS.out.same (by rw [← hwq]; rfl) (by rw [← hwq]; exact below_drewN KS.out.bel _)⟩
        clear hwq c0 c1 c2 f0 f1 f2 d1 d2 KS
        have c0 := KSq.out.bf.cell 0 _ rfl
        have c1 := KSq.out.bf.cell 1 _ rfl
        have c2 := KSq.out.bf.cell 2 _ rfl
        go_upto_region 9 with fail
        refine wp_region_tail 1 33 2 (by kernel_rfl) (by kernel_rfl) ?_
        simp only [List.take_succ_cons, List.take_zero, List.drop_succ_cons, List.drop_zero, List.foldl_cons, List.foldl_nil, moved]
        simp only [Act.put, Act.eval, List.setIfInBounds_toArray, List.set_cons_zero, List.set_cons_succ, Array.getD_eq_getD_getElem?, List.getElem?_toArray, List.getElem?_cons_zero, List.getElem?_cons_succ, Option.getD_some]
        repeat (first | (refine wpQuiet_slice _ _ _ _ _ rfl rfl (by first | exact KR1.out | exact KR2.out | exact KR3.out | exact KR4.out | exact KR5.out | exact KR6.out) ?_; simp only [Act.put, List.setIfInBounds_toArray, List.set_cons_zero, List.set_cons_succ]) | go_big_quiet_step (fail))
        refine wpQuiet_nil ?_
        intro m
        obtain ⟨wd, hwd⟩ : ∃ wd, wq.drewN m = wd := ⟨_, rfl⟩
        rw [hwd]
        have Khd : Kept (wd.heap = wq.heap) := ⟨by rw [← hwd]; rfl⟩
        have Kbd : Kept (Below w.heap.size w wd) := ⟨by rw [← hwd]; exact below_drewN KSq.out.bel _⟩
        clear hwd c0 c1 c2
        refine wpTail_step (fun K hK => ?_)
        go_simp
        refine hK _ _ ?_
        clear hK K
        refine wpTail_append_at _ _ _ 43 rfl (gf + 1) 46 i0 z0 3 72 Try.underlying43 hi hz hsz hbt hzc (by decide) (.slice va qs.length vc) qs.length (pcV qs) rfl ?_ ⟨wd.heap.size, 0, none⟩ 2 2 [.slice a1 n1 k1, .slice a2 n2 k2, .slice a3 n3 k3, .slice a4 n4 k4, .slice a5 n5 k5, .slice a6 n6 k6] rfl rfl (cell_new2 wd _ _) (by simp [Value.oneCell']) (by unfold maxLen; omega) (by omega) ?_ ?_
        · exact World.ownsRow.alloc (KSq.out.own.far (fun _ _ => by rw [Khd.out])) _
        · have := KSq.out.le
          rw [← Khd.out] at this
          simp
          omega
        intro v5 w5 hown5 hgrow5
        have KS5 : Kept (CuSt w w5 g1 g2 gf (gf + 1) X Y v5 (qs ++ [((sg O i x, sg A j yn, sg B k zn), (.slice a1 n1 k1, .slice a2 n2 k2, .slice a3 n3 k3)), ((sg O x (x + 1), sg A yn (yn + 1), sg B zn (zn + 1)), (.slice a4 n4 k4, .slice a5 n5 k5, .slice a6 n6 k6))]) i j k) := ⟨KSq.out.more Khd.out Kbd.out hown5 hgrow5 (fun q hq => by
          rcases List.mem_cons.1 hq with rfl | hq
          · exact KQ1.out
          · obtain rfl := List.mem_singleton.1 hq
            exact KQ2.out)⟩
        clear hown5 hgrow5 KSq Khd Kbd KQ1 KQ2
        refine wpTail_step (fun K hK => ?_)
        go_simp
        refine hK _ _ (wpTail_nil (NoPanic.normal ?_))
        clear hK K
        have c0 := KS5.out.bf.cell 0 _ rfl
        have c1 := KS5.out.bf.cell 1 _ rfl
        have c2 := KS5.out.bf.cell 2 _ rfl
        have f0 := KS5.out.bf.frozen 0
        have f1 := KS5.out.bf.frozen 1
        have f2 := KS5.out.bf.frozen 2
        go_wp2
        go_roundw
        case rel =>
          have h := KS5.out.set (x + 1) (yn + 1) (zn + 1)
          rw [show ((x + 1 : Nat) : Int) = (x : Int) + 1 by omega, show ((yn + 1 : Nat) : Int) = (yn : Int) + 1 by omega, show ((zn + 1 : Nat) : Int) = (zn : Int) + 1 by omega] at h
          refine ⟨x + 1, x + 1, yn + 1, zn + 1, _, hlt, by go_num, ?_, h, KCn.out, ?_⟩
          · rw [List.length_append]
            show qs.length + 2 ≤ _
            omega
          · rw [List.map_append, Kf.out, List.append_assoc, ← KE.out, KEn.out]
            rfl
        case measure => simp [intOf]; omega
    · have hxe : x = O.length := by omega
      subst hxe
      have hki : ¬ (O.length : Int) < (O.length : Int) := by omega
      have hix := hct.ix
      have hjl := hct.jl
      have hkl := hct.kl
      have hcto := Kco.out
      have hcta := Kca.out
      have hctb := Kcb.out
      obtain ⟨a1, k1, r1, s1⟩ := sub_l (pa := po) (pc := co) (L := O) (lo := i) hix hcto
      obtain ⟨a2, k2, r2, s2⟩ := sub_l (pa := pa) (pc := ca) (L := A) (lo := j) hjl hcta
      obtain ⟨a3, k3, r3, s3⟩ := sub_l (pa := pb) (pc := cb) (L := B) (lo := k) hkl hctb
      have KR1 := Kept.mk r1
      have KR2 := Kept.mk r2
      have KR3 := Kept.mk r3
      have KQ1 : Kept (PqR w ((O.drop i, A.drop j, B.drop k), (.slice a1 (O.length - i) k1, .slice a2 (A.length - j) k2, .slice a3 (B.length - k) k3))) := ⟨fun W hW => ⟨s1 W (KO.out W hW), s2 W (KA.out W hW), s3 W (KB.out W hW)⟩⟩
      have KEn : Kept (qs.map (·.1) ++ [(O.drop i, A.drop j, B.drop k)] = CC) := ⟨by have h := KE.out; rw [Nat.sub_self, ctG_zero] at h; exact h⟩
      have Kgw : Kept (w.heap.size ≤ gf + 1) := ⟨by have := Kgf.out; omega⟩
      generalize O.length - i = n1 at *
      generalize A.length - j = n2 at *
      generalize B.length - k = n3 at *
      clear r1 r2 r3 s1 s2 s3 hix hjl hkl hcto hcta hctb hst hct KE KC f0 f1 f2
      go_upto_region 12 with fail
      refine wp_region_tail 1 14 2 (by kernel_rfl) (by kernel_rfl) ?_
      simp only [List.take_succ_cons, List.take_zero, List.drop_succ_cons, List.drop_zero, List.foldl_cons, List.foldl_nil, moved]
      simp only [Act.put, Act.eval, List.setIfInBounds_toArray, List.set_cons_zero, List.set_cons_succ, Array.getD_eq_getD_getElem?, List.getElem?_toArray, List.getElem?_cons_zero, List.getElem?_cons_succ, Option.getD_some]
      repeat (first | (refine wpQuiet_slice _ _ _ _ _ rfl rfl (by first | exact KR1.out | exact KR2.out | exact KR3.out) ?_; simp only [Act.put, List.setIfInBounds_toArray, List.set_cons_zero, List.set_cons_succ]) | go_big_quiet_step (fail))
      refine wpQuiet_nil ?_
      intro m
      obtain ⟨wd, hwd⟩ : ∃ wd, wr.drewN m = wd := ⟨_, rfl⟩
      rw [hwd]
      have Khd : Kept (wd.heap = wr.heap) := ⟨by rw [← hwd]; rfl⟩
      have Kbd : Kept (Below w.heap.size w wd) := ⟨by rw [← hwd]; exact below_drewN KS.out.bel _⟩
      clear hwd c0 c1 c2
      refine wpTail_step (fun K hK => ?_)
      go_simp
      refine hK _ _ ?_
      clear hK K
      refine wpTail_append_at _ _ _ 43 rfl (gf + 1) 46 i0 z0 3 72 Try.underlying43 hi hz hsz hbt hzc (by decide) (.slice va qs.length vc) qs.length (pcV qs) rfl ?_ ⟨wd.heap.size, 0, none⟩ 1 1 [.slice a1 n1 k1, .slice a2 n2 k2, .slice a3 n3 k3] rfl rfl (cell_new2 wd _ _) (by simp [Value.oneCell']) (by unfold maxLen; omega) (by omega) ?_ ?_
      · exact World.ownsRow.alloc (KS.out.own.far (fun _ _ => by rw [Khd.out])) _
      · have := KS.out.le
        rw [← Khd.out] at this
        simp
        omega
      intro v5 w5 hown5 hgrow5
      have KS5 : Kept (CuSt w w5 g1 g2 gf (gf + 1) X Y v5 (qs ++ [((O.drop i, A.drop j, B.drop k), (.slice a1 n1 k1, .slice a2 n2 k2, .slice a3 n3 k3))]) i j k) := ⟨KS.out.more Khd.out Kbd.out hown5 hgrow5 (fun q hq => by
        obtain rfl := List.mem_singleton.1 hq
        exact KQ1.out)⟩
      clear hown5 hgrow5 KS Khd Kbd KQ1
      refine wpTail_step (fun K hK => ?_)
      go_simp
      refine hK _ _ (wpTail_nil (NoPanic.normal ?_))
      clear hK K
      go_wp2
      go_ret
      refine ⟨_, rfl, _, KS5.out.own.mono Kgw.out, ?_, KS5.out.rd, KS5.out.bel⟩
      rw [List.map_append, KCC.out, ← KEn.out]
      rfl
end Go.Proofs.Ytidpdhnbnecddaa
