/-
  Walks: stream.
-/
import Derived.Test.YtjijkcmbbccfmaaDoorT3
namespace Go.Proofs.YtjijkcmbbccfmaaDoor
open Go.RowKit

/-- The frame at a label. -/
def FrJ (rb ub fb : Nat) (last : Int) (a : Act) : Prop := ∃ u2 u4 u5 u7 u9 u10 u11 u12 u13 u14 u15 u16 u17 u18 u19 u20 u21 u22 u23 u24 u25 u26 u27 u28 u29 u30 u31 u32 u33 u34 u35 u36 u37 u38 u39 u40 u41 u42 u43 u44 u45 u46 u47 u48 u49 u50 u51 u52 u53 u54 u55 u56 u57 u58 u59 u60 u61 u62 u63 u64 u65 u66 u67 u68 u69 u70 u71 u72 : Value, a = { tmps := #[.pointer (some ⟨rb, 0, none⟩), undef, u2, .int .i64 last, u4, u5, .pointer (some ⟨ub, 0, none⟩), u7, .pointer (some ⟨fb, 0, none⟩), u9, u10, u11, u12, u13, u14, u15, u16, u17, u18, u19, u20, u21, u22, u23, u24, u25, u26, u27, u28, u29, u30, u31, u32, u33, u34, u35, u36, u37, u38, u39, u40, u41, u42, u43, u44, u45, u46, u47, u48, u49, u50, u51, u52, u53, u54, u55, u56, u57, u58, u59, u60, u61, u62, u63, u64, u65, u66, u67, u68, u69, u70, u71, u72], defers := [] }
def StJ (W0 : World) (rb : Nat) (inV : Value) (p : List Int) (most : Nat) (R : Rs (List Int)) (l n : Nat) (a : Act) (w : World) : Prop :=
  ∃ ub fb f0 f1 f2 f3 last, FrJ rb ub fb last a ∧ CoreJ W0 w rb ub fb inV p most f0 f1 f2 f3 R last n l
def posOf (w : World) (rb : Nat) : Nat := (8 * intOf ((w.cell? ⟨rb, 1, none⟩).getD undef) - intOf ((w.cell? ⟨rb, 3, none⟩).getD undef)).toNat
theorem posOf_rdr {W0 w : World} {rb : Nat} {ob : Option Nat} {inV : Value} {p out : List Int} {most t : Nat} (h : Rdr W0 w rb ob inV p most out t) : posOf w rb = t := by
  obtain ⟨at_, held, outV, hB, h1, -⟩ := h.blk
  unfold posOf
  rw [hB.c1, hB.c3]
  simp [intOf]
  omega
theorem streamF_head {p out : List Int} {most t t3 f : Nat} {l y : Int} (hq : headF p t = .ok (l, y) t3) : streamF p most (f + 1) out t = finF p most l f (wayF p most y out t3) := by
  rw [streamF, hq]
  dsimp only
  unfold finF
  cases wayF p most y out t3 <;> rfl
theorem way0 {p out : List Int} {most t : Nat} : wayF p most 0 out t = storedF p most out t := by unfold wayF; rw [if_pos rfl]
theorem way1 {p out : List Int} {most t : Nat} : wayF p most 1 out t = blockF p most (mkCd fixedL) (mkCd fixedD) (8 * p.length - t + 1) out t := by unfold wayF; rw [if_neg (by omega), if_pos rfl]
theorem way2 {p out : List Int} {most t : Nat} : wayF p most 2 out t = match toldF p t with | .bad e => .bad e | .ok (c, d) t1 => blockF p most c d (8 * p.length - t1 + 1) out t1 := by unfold wayF; rw [if_neg (by omega), if_neg (by omega), if_pos rfl]; rfl
theorem way3 {p out : List Int} {most t : Nat} : wayF p most 3 out t = .bad .form := by unfold wayF; rw [if_neg (by omega), if_neg (by omega), if_neg (by omega)]
theorem okL : CdOk (mkCd fixedL) 288 := mkCd_ok fixedL (by rw [fixL_length]; omega) 288 (by rw [fixL_length]; omega)
theorem okD : CdOk (mkCd fixedD) 32 := mkCd_ok fixedD (by rw [fixD_length]; omega) 32 (by rw [fixD_length]; omega)

set_option maxHeartbeats 8000000 in
set_option maxRecDepth 100000 in
theorem stream_any {W0 w : World} {rb : Nat} {ob : Option Nat} {inV : Value} {p out : List Int} {most t : Nat} (hT : Tab W0) (f : Nat) (hf : 8 * p.length - t < f) (h : Rdr W0 w rb ob inV p most out t) :
    Calls Tryd.prog 25 #[.pointer (some ⟨rb, 0, none⟩)] w fun e w' => AfterS W0 w' rb inV p most (streamF p most f out t) e := by
  have KT := Kept.mk hT
  have KH := Kept.mk h
  obtain ⟨R, hR⟩ : ∃ R, streamF p most f out t = R := ⟨_, rfl⟩
  rw [hR]
  have KR := Kept.mk hR
  have hrb := h.rb_lt
  clear h hT hR
  go_enter Tryd.func25, Tryd.ntmps25
  go_wp2_with fail
  refine wp_scope_many (StJ W0 rb inV p most R) ?_ ?_
  · have KX := Kept.mk (fixedCodes_any (w.alloc (.cells #[.slice none 0 0, .slice none 0 0, .slice none 0 0, .slice none 0 0] 71)))
    go_wp2_with fail
    refine Calls.mono KX.out (fun e w1 hp => ?_)
    obtain ⟨f0, f1, f2, f3, rfl, g0, g1, g2, g3, hb1⟩ := hp
    have hz1 := hb1.size
    simp at hz1
    have KG0 := Kept.mk g0
    have KG1 := Kept.mk g1
    have KG2 := Kept.mk g2
    have KG3 := Kept.mk g3
    have KB1 := Kept.mk hb1
    clear hb1
    obtain ⟨a0, n0, b0, rfl⟩ : ∃ a n c, f0 = .slice a n c := by obtain ⟨_, _, e, -⟩ := g0.form; exact ⟨_, _, _, e⟩
    obtain ⟨a1, n1, b1, rfl⟩ : ∃ a n c, f1 = .slice a n c := by obtain ⟨_, _, e, -⟩ := g1.form; exact ⟨_, _, _, e⟩
    obtain ⟨a2, n2, b2, rfl⟩ : ∃ a n c, f2 = .slice a n c := by obtain ⟨_, _, e, -⟩ := g2.form; exact ⟨_, _, _, e⟩
    obtain ⟨a3, n3, b3, rfl⟩ : ∃ a n c, f3 = .slice a n c := by obtain ⟨_, _, e, -⟩ := g3.form; exact ⟨_, _, _, e⟩
    clear g0 g1 g2 g3
    have KS := Kept.mk (start_st KH.out KB1.out KG0.out KG1.out KG2.out KG3.out)
    clear KG0 KG1 KG2 KG3 KB1 KX KH
    go_wp2_with fail
    go_step3
    generalize (w1.alloc (.cells #[.slice a0 n0 b0, .slice a1 n1 b1, .slice a2 n2 b2, .slice a3 n3 b3] 71)) = wA at *
    generalize w.heap.size = ub at *
    generalize w1.heap.size = fb at *
    obtain ⟨f, rfl⟩ : ∃ f', f = f' + 1 := ⟨f - 1, by omega⟩
    rcases hq : headF p t with ⟨⟨l, y⟩, t3⟩ | er
    · have K1 := Kept.mk (head_ok hq KS.out.r)
      obtain ⟨l0, l1, y0, y1, ht3, ht8⟩ := headF_ok hq
      have KE : Kept (finF p most l f (wayF p most y out t3) = R) := ⟨by rw [← KR.out, streamF_head hq]⟩
      have hfn : 8 * p.length - t3 < f := by omega
      clear hq
      rcases (by omega : y = 0 ∨ y = 1 ∨ y = 2 ∨ y = 3) with rfl | rfl | rfl | rfl
      · go_wp2_with fail
        refine Calls.mono K1.out (fun e w2 hp => ?_)
        obtain ⟨rfl, hR2, hF2⟩ := hp
        have KS2 := Kept.mk (KS.out.mv hR2 hF2.mv)
        clear hR2 hF2
        go_wp2
        go_step3
        exact ⟨10 * (8 * p.length - t3) + 2, ub, fb, _, _, _, _, l, ⟨_, _, _, _, _, _, _, _, _, _, _, _, _, _, _, _, _, _, _, _, _, _, _, _, _, _, _, _, _, _, _, _, _, _, _, _, _, _, _, _, _, _, _, _, _, _, _, _, _, _, _, _, _, _, _, _, _, _, _, _, _, _, _, _, _, _, _, _, rfl⟩, _, out, t3, f, KS2.out, hfn, by rw [← way0]; exact KE.out, rfl⟩
      · go_wp2_with fail
        refine Calls.mono K1.out (fun e w2 hp => ?_)
        obtain ⟨rfl, hR2, hF2⟩ := hp
        have KS2 := Kept.mk (KS.out.mv hR2 hF2.mv)
        obtain ⟨x0, x1, x2, x3, hu⟩ := KS2.out.bu
        have q0 := hu.c0
        have q1 := hu.c1
        have q2 := hu.c2
        have q3 := hu.c3
        have z0 := hu.fz 0
        have z1 := hu.fz 1
        have z2 := hu.fz 2
        have z3 := hu.fz 3
        have m0 := KS2.out.bf.c0
        have m1 := KS2.out.bf.c1
        have m2 := KS2.out.bf.c2
        have m3 := KS2.out.bf.c3
        have KU := Kept.mk hu
        clear hR2 hF2 hu
        go_wp2
        go_step3
        exact ⟨10 * (8 * p.length - t3) + 2, ub, fb, _, _, _, _, l, ⟨_, _, _, _, _, _, _, _, _, _, _, _, _, _, _, _, _, _, _, _, _, _, _, _, _, _, _, _, _, _, _, _, _, _, _, _, _, _, _, _, _, _, _, _, _, _, _, _, _, _, _, _, _, _, _, _, _, _, _, _, _, _, _, _, _, _, _, _, rfl⟩, _, out, t3, f, _, _, _, _, _, _, _, KS2.out.set4 _ _ _ _, KU.out.all _ _ _ _, KS2.out.tf.set4 _ _ _ _, okL, okD, hfn, Nat.lt_succ_self _, by rw [← way1]; exact KE.out, rfl⟩
      · go_wp2_with fail
        refine Calls.mono K1.out (fun e w2 hp => ?_)
        obtain ⟨rfl, hR2, hF2⟩ := hp
        have KS2 := Kept.mk (KS.out.mv hR2 hF2.mv)
        clear hR2 hF2
        go_wp2
        go_step3
        exact ⟨10 * (8 * p.length - t3) + 2, ub, fb, _, _, _, _, l, ⟨_, _, _, _, _, _, _, _, _, _, _, _, _, _, _, _, _, _, _, _, _, _, _, _, _, _, _, _, _, _, _, _, _, _, _, _, _, _, _, _, _, _, _, _, _, _, _, _, _, _, _, _, _, _, _, _, _, _, _, _, _, _, _, _, _, _, _, _, rfl⟩, _, out, t3, f, KS2.out, hfn, KE.out, rfl⟩
      · go_wp2_with fail
        refine Calls.mono K1.out (fun e w2 hp => ?_)
        obtain ⟨rfl, hR2, hF2⟩ := hp
        have KS2 := Kept.mk (KS.out.mv hR2 hF2.mv)
        clear hR2 hF2
        go_wp2
        simp only [JumpsTo]
        go_ret
        rw [← KE.out, way3, finF]
        exact ⟨rfl, KS2.out.r.bel⟩
    · have K1 := Kept.mk (head_bad hq KS.out.r)
      have KE : Kept (R = .bad er) := ⟨by rw [← KR.out]; unfold streamF; rw [hq]⟩
      have her := er.rng
      have hne : ¬ er.v = 0 := by omega
      clear hq her
      go_wp2_with fail
      refine Calls.mono K1.out (fun e w2 hp => ?_)
      obtain ⟨rfl, hR2, -⟩ := hp
      have KR2 := Kept.mk hR2
      clear hR2
      go_wp2
      simp only [JumpsTo]
      go_ret
      rw [KE.out]
      exact ⟨rfl, KR2.out⟩
  · clear KR KH hf
    rintro l n a w ⟨ub, fb, f0, f1, f2, f3, last, ⟨u2, u4, u5, u7, u9, u10, u11, u12, u13, u14, u15, u16, u17, u18, u19, u20, u21, u22, u23, u24, u25, u26, u27, u28, u29, u30, u31, u32, u33, u34, u35, u36, u37, u38, u39, u40, u41, u42, u43, u44, u45, u46, u47, u48, u49, u50, u51, u52, u53, u54, u55, u56, u57, u58, u59, u60, u61, u62, u63, u64, u65, u66, u67, u68, u69, u70, u71, u72, rfl⟩, hC⟩
    match l, hC with
    | 0, hC =>
      refine ⟨_, rfl, ?_⟩
      obtain ⟨ob, out, t, f, hS, hf, hR, hn⟩ := hC
      have KS := Kept.mk hS
      have KR := Kept.mk hR
      obtain ⟨xa0, xb0, xc0, rfl⟩ : ∃ a b c, f0 = .slice a b c := by obtain ⟨_, _, e, -⟩ := hS.tf.r0.form; exact ⟨_, _, _, e⟩
      obtain ⟨xa1, xb1, xc1, rfl⟩ : ∃ a b c, f1 = .slice a b c := by obtain ⟨_, _, e, -⟩ := hS.tf.r1.form; exact ⟨_, _, _, e⟩
      obtain ⟨xa2, xb2, xc2, rfl⟩ : ∃ a b c, f2 = .slice a b c := by obtain ⟨_, _, e, -⟩ := hS.tf.r2.form; exact ⟨_, _, _, e⟩
      obtain ⟨xa3, xb3, xc3, rfl⟩ : ∃ a b c, f3 = .slice a b c := by obtain ⟨_, _, e, -⟩ := hS.tf.r3.form; exact ⟨_, _, _, e⟩
      clear hS hR
      go_wp2_with fail
      obtain ⟨f, rfl⟩ : ∃ f', f = f' + 1 := ⟨f - 1, by omega⟩
      rcases hq : headF p t with ⟨⟨l, y⟩, t3⟩ | er
      · have K1 := Kept.mk (head_ok hq KS.out.r)
        obtain ⟨l0, l1, y0, y1, ht3, ht8⟩ := headF_ok hq
        have KE : Kept (finF p most l f (wayF p most y out t3) = R) := ⟨by rw [← KR.out, streamF_head hq]⟩
        have hfn : 8 * p.length - t3 < f := by omega
        clear hq
        rcases (by omega : y = 0 ∨ y = 1 ∨ y = 2 ∨ y = 3) with rfl | rfl | rfl | rfl
        · go_wp2_with fail
          refine Calls.mono K1.out (fun e w2 hp => ?_)
          obtain ⟨rfl, hR2, hF2⟩ := hp
          have KS2 := Kept.mk (KS.out.mv hR2 hF2.mv)
          clear hR2 hF2
          go_wp2
          go_step3
          exact ⟨10 * (8 * p.length - t3) + 2, by omega, ub, fb, _, _, _, _, l, ⟨_, _, _, _, _, _, _, _, _, _, _, _, _, _, _, _, _, _, _, _, _, _, _, _, _, _, _, _, _, _, _, _, _, _, _, _, _, _, _, _, _, _, _, _, _, _, _, _, _, _, _, _, _, _, _, _, _, _, _, _, _, _, _, _, _, _, _, _, rfl⟩, _, out, t3, f, KS2.out, hfn, by rw [← way0]; exact KE.out, rfl⟩
        · go_wp2_with fail
          refine Calls.mono K1.out (fun e w2 hp => ?_)
          obtain ⟨rfl, hR2, hF2⟩ := hp
          have KS2 := Kept.mk (KS.out.mv hR2 hF2.mv)
          obtain ⟨x0, x1, x2, x3, hu⟩ := KS2.out.bu
          have q0 := hu.c0
          have q1 := hu.c1
          have q2 := hu.c2
          have q3 := hu.c3
          have z0 := hu.fz 0
          have z1 := hu.fz 1
          have z2 := hu.fz 2
          have z3 := hu.fz 3
          have m0 := KS2.out.bf.c0
          have m1 := KS2.out.bf.c1
          have m2 := KS2.out.bf.c2
          have m3 := KS2.out.bf.c3
          have KU := Kept.mk hu
          clear hR2 hF2 hu
          go_wp2
          go_step3
          exact ⟨10 * (8 * p.length - t3) + 2, by omega, ub, fb, _, _, _, _, l, ⟨_, _, _, _, _, _, _, _, _, _, _, _, _, _, _, _, _, _, _, _, _, _, _, _, _, _, _, _, _, _, _, _, _, _, _, _, _, _, _, _, _, _, _, _, _, _, _, _, _, _, _, _, _, _, _, _, _, _, _, _, _, _, _, _, _, _, _, _, rfl⟩, _, out, t3, f, _, _, _, _, _, _, _, KS2.out.set4 _ _ _ _, KU.out.all _ _ _ _, KS2.out.tf.set4 _ _ _ _, okL, okD, hfn, Nat.lt_succ_self _, by rw [← way1]; exact KE.out, rfl⟩
        · go_wp2_with fail
          refine Calls.mono K1.out (fun e w2 hp => ?_)
          obtain ⟨rfl, hR2, hF2⟩ := hp
          have KS2 := Kept.mk (KS.out.mv hR2 hF2.mv)
          clear hR2 hF2
          go_wp2
          go_step3
          exact ⟨10 * (8 * p.length - t3) + 2, by omega, ub, fb, _, _, _, _, l, ⟨_, _, _, _, _, _, _, _, _, _, _, _, _, _, _, _, _, _, _, _, _, _, _, _, _, _, _, _, _, _, _, _, _, _, _, _, _, _, _, _, _, _, _, _, _, _, _, _, _, _, _, _, _, _, _, _, _, _, _, _, _, _, _, _, _, _, _, _, rfl⟩, _, out, t3, f, KS2.out, hfn, KE.out, rfl⟩
        · go_wp2_with fail
          refine Calls.mono K1.out (fun e w2 hp => ?_)
          obtain ⟨rfl, hR2, hF2⟩ := hp
          have KS2 := Kept.mk (KS.out.mv hR2 hF2.mv)
          clear hR2 hF2
          go_wp2
          simp only [JumpsTo]
          go_ret
          rw [← KE.out, way3, finF]
          exact ⟨rfl, KS2.out.r.bel⟩
      · have K1 := Kept.mk (head_bad hq KS.out.r)
        have KE : Kept (R = .bad er) := ⟨by rw [← KR.out]; unfold streamF; rw [hq]⟩
        have her := er.rng
        have hne : ¬ er.v = 0 := by omega
        clear hq her
        go_wp2_with fail
        refine Calls.mono K1.out (fun e w2 hp => ?_)
        obtain ⟨rfl, hR2, -⟩ := hp
        have KR2 := Kept.mk hR2
        clear hR2
        go_wp2
        simp only [JumpsTo]
        go_ret
        rw [KE.out]
        exact ⟨rfl, KR2.out⟩
    | 1, hC =>
      refine ⟨_, rfl, ?_⟩
      obtain ⟨ob, out, t, f, hS, hf, hR, hn⟩ := hC
      have KS := Kept.mk hS
      rcases hq : storedF p most out t with ⟨o, t2⟩ | er
      · rw [hq] at hR
        have KE3 := Kept.mk hR
        have K1 := Kept.mk (stored_ok hq KS.out.r)
        have hle := storedF_ok hq
        clear hS hR hq
        go_wp2_with fail
        refine Calls.mono K1.out (fun e w2 hp => ?_)
        obtain ⟨rfl, ob2, hR2, hM2⟩ := hp
        have KS4 := Kept.mk (KS.out.mv hR2 hM2)
        clear hR2 hM2
        go_wp2
        go_step3
        exact ⟨10 * (8 * p.length - t2) + 1, by omega, ub, fb, _, _, _, _, last, ⟨_, _, _, _, _, _, _, _, _, _, _, _, _, _, _, _, _, _, _, _, _, _, _, _, _, _, _, _, _, _, _, _, _, _, _, _, _, _, _, _, _, _, _, _, _, _, _, _, _, _, _, _, _, _, _, _, _, _, _, _, _, _, _, _, _, _, _, _, rfl⟩, _, o, t2, f, KS4.out, by omega, KE3.out, rfl⟩
      · rw [hq] at hR
        have KE3 : Kept (R = .bad er) := ⟨hR.symm⟩
        have K1 := Kept.mk (stored_bad hq KS.out.r)
        have her := er.rng
        have hne : ¬ er.v = 0 := by omega
        clear hS hR hq her
        go_wp2_with fail
        refine Calls.mono K1.out (fun e w2 hp => ?_)
        obtain ⟨rfl, hR2⟩ := hp
        have KR2 := Kept.mk hR2
        clear hR2
        go_wp2
        simp only [JumpsTo]
        go_ret
        rw [KE3.out]
        exact ⟨rfl, KR2.out⟩
    | 2, hC =>
      refine ⟨_, rfl, ?_⟩
      obtain ⟨ob, out, t, f, g, c, d, x0, x1, x2, x3, hS, hu, htb, hcc, hdd, hf, hg, hE, hn⟩ := hC
      have KS := Kept.mk hS
      have KU := Kept.mk hu
      have KTB := Kept.mk htb
      have KC := Kept.mk hcc
      have KD := Kept.mk hdd
      have KE := Kept.mk hE
      clear hS hu htb hcc hdd hE
      go_wp2_with fail
      go_loopw [2, 5, 7] (fun _ _ _ wr => ∃ (ob' : Option Nat) (o : List Int) (tk g : Nat), StC W0 wr rb ub fb ob' inV p most f0 f1 f2 f3 o tk ∧ B4 wr ub x0 x1 x2 x3 ∧ TB wr ub ob' c d x0 x1 x2 x3 ∧ 8 * p.length - tk < g ∧ t ≤ tk ∧ finF p most last f (blockF p most c d g o tk) = R) (fun _ _ _ wr => 8 * p.length - posOf wr rb)
      case atStart => exact ⟨_, out, t, _, KS.out, KU.out, KTB.out, hg, Nat.le_refl _, KE.out⟩
      case round =>
        obtain ⟨ob', o, tk, g, hS, hu, htb, hgk, htk, hE⟩ := hrel
        obtain ⟨xa0, xb0, xc0, rfl⟩ : ∃ a b c, x0 = .slice a b c := by obtain ⟨_, _, e, -⟩ := htb.r0.form; exact ⟨_, _, _, e⟩
        obtain ⟨xa1, xb1, xc1, rfl⟩ : ∃ a b c, x1 = .slice a b c := by obtain ⟨_, _, e, -⟩ := htb.r1.form; exact ⟨_, _, _, e⟩
        obtain ⟨xa2, xb2, xc2, rfl⟩ : ∃ a b c, x2 = .slice a b c := by obtain ⟨_, _, e, -⟩ := htb.r2.form; exact ⟨_, _, _, e⟩
        obtain ⟨xa3, xb3, xc3, rfl⟩ : ∃ a b c, x3 = .slice a b c := by obtain ⟨_, _, e, -⟩ := htb.r3.form; exact ⟨_, _, _, e⟩
        obtain ⟨g, rfl⟩ : ∃ g', g = g' + 1 := ⟨g - 1, by omega⟩
        have q0 := hu.c0
        have q1 := hu.c1
        have hpos := posOf_rdr hS.r
        have KS3 := Kept.mk hS
        have KU3 := Kept.mk hu
        have KT3 := Kept.mk htb
        have KPO := Kept.mk hpos
        rw [blockF] at hE
        clear hpos hS hu htb
        rcases hq : symF p c tk with ⟨s, t1⟩ | er
        · rw [hq] at hE
          dsimp only at hE
          have K1 := Kept.mk (symbol_ok hq KC.out (KT3.out.cdr0 KS3.out.h1) KS3.out.r)
          obtain ⟨s0, s1, s2, s3⟩ := symF_ok KC.out (by omega) hq
          clear hq
          by_cases h256 : s = 256
          · rw [if_pos h256] at hE
            have KE3 := Kept.mk hE
            subst h256
            clear hE
            go_wp2_with fail
            refine Calls.mono K1.out (fun e w2 hp => ?_)
            obtain ⟨rfl, hR2, hF2⟩ := hp
            have KS4 := Kept.mk (KS3.out.mv hR2 hF2.mv)
            clear hR2 hF2
            go_wp2
            go_step3
            exact ⟨10 * (8 * p.length - t1) + 1, by omega, ub, fb, _, _, _, _, last, ⟨_, _, _, _, _, _, _, _, _, _, _, _, _, _, _, _, _, _, _, _, _, _, _, _, _, _, _, _, _, _, _, _, _, _, _, _, _, _, _, _, _, _, _, _, _, _, _, _, _, _, _, _, _, _, _, _, _, _, _, _, _, _, _, _, _, _, _, _, rfl⟩, _, o, t1, f, KS4.out, by omega, KE3.out, rfl⟩
          · rw [if_neg h256] at hE
            by_cases hlt : s < 256
            · rw [if_pos hlt] at hE
              by_cases hfull : most ≤ o.length
              · rw [if_pos hfull] at hE
                have KE3 : Kept (R = .bad .limit) := ⟨hE.symm⟩
                clear hE
                go_wp2_with fail
                refine Calls.mono K1.out (fun e w2 hp => ?_)
                obtain ⟨rfl, hR2, hF2⟩ := hp
                have K2 := Kept.mk (put_bad s s0 hlt hfull hR2)
                clear hR2 hF2
                go_wp2_with fail
                refine Calls.mono K2.out (fun e w3 hp => ?_)
                obtain ⟨rfl, hB3⟩ := hp
                have K3 := Kept.mk hB3
                clear hB3
                go_wp2
                simp only [JumpsTo]
                go_ret
                rw [KE3.out]
                exact ⟨rfl, K3.out⟩
              · rw [if_neg hfull] at hE
                have KE3 := Kept.mk hE
                clear hE
                go_wp2_with fail
                refine Calls.mono K1.out (fun e w2 hp => ?_)
                obtain ⟨rfl, hR2, hF2⟩ := hp
                have K2 := Kept.mk (put_ok s s0 hlt hfull hR2)
                have KS4 := Kept.mk (KS3.out.mv hR2 hF2.mv)
                have KU4 := Kept.mk (KU3.out.far (hF2.block _ KU3.out.lt (by have := KS3.out.h1; omega) KS3.out.h3))
                have KT4 := Kept.mk (KT3.out.mv KS3.out.h1 hF2.mv)
                clear hR2 hF2
                go_wp2_with fail
                refine Calls.mono K2.out (fun e w3 hp => ?_)
                obtain ⟨rfl, ob3, hR3, hM3⟩ := hp
                have KS5 := Kept.mk (KS4.out.mv hR3 hM3)
                have KU5 := Kept.mk (KU4.out.far (hM3.fr.block _ KU4.out.lt (by have := KS3.out.h1; omega) KS4.out.h3))
                have KT5 := Kept.mk (KT4.out.mv KS3.out.h1 hM3)
                clear hR3 hM3
                go_wp2
                go_roundw
                case rel => exact ⟨_, _, t1, g, KS5.out, KU5.out, KT5.out, by omega, by omega, KE3.out⟩
                case measure =>
                  rw [KPO.out, posOf_rdr KS5.out.r]
                  omega
            · rw [if_neg hlt] at hE
              rcases hq2 : matchF p most d s o t1 with ⟨o2, t2⟩ | er
              · rw [hq2] at hE
                dsimp only at hE
                have KE3 := Kept.mk hE
                obtain ⟨v1, v2⟩ := matchF_ok KD.out (by omega) hq2
                clear hE
                go_wp2_with fail
                refine Calls.mono K1.out (fun e w2 hp => ?_)
                obtain ⟨rfl, hR2, hF2⟩ := hp
                have KS4 := Kept.mk (KS3.out.mv hR2 hF2.mv)
                have hu4 := KU3.out.far (hF2.block _ KU3.out.lt (by have := KS3.out.h1; omega) KS3.out.h3)
                have r2 := hu4.c2
                have r3 := hu4.c3
                have KU4 := Kept.mk hu4
                have KT4 := Kept.mk (KT3.out.mv KS3.out.h1 hF2.mv)
                have K2 := Kept.mk (match_ok hq2 (by omega) s1 KD.out (KT4.out.cdr1 KS3.out.h1) KS4.out.r)
                clear hR2 hF2 hu4 hq2
                go_wp2_with fail
                refine Calls.mono K2.out (fun e w3 hp => ?_)
                obtain ⟨rfl, ob3, hR3, hM3⟩ := hp
                have KS5 := Kept.mk (KS4.out.mv hR3 hM3)
                have KU5 := Kept.mk (KU4.out.far (hM3.fr.block _ KU4.out.lt (by have := KS3.out.h1; omega) KS4.out.h3))
                have KT5 := Kept.mk (KT4.out.mv KS3.out.h1 hM3)
                clear hR3 hM3
                go_wp2
                go_roundw
                case rel => exact ⟨_, _, t2, g, KS5.out, KU5.out, KT5.out, by omega, by omega, KE3.out⟩
                case measure =>
                  rw [KPO.out, posOf_rdr KS5.out.r]
                  omega
              · rw [hq2] at hE
                have KE3 : Kept (R = .bad er) := ⟨hE.symm⟩
                have her := er.rng
                have hne : ¬ er.v = 0 := by omega
                clear hE her
                go_wp2_with fail
                refine Calls.mono K1.out (fun e w2 hp => ?_)
                obtain ⟨rfl, hR2, hF2⟩ := hp
                have KS4 := Kept.mk (KS3.out.mv hR2 hF2.mv)
                have hu4 := KU3.out.far (hF2.block _ KU3.out.lt (by have := KS3.out.h1; omega) KS3.out.h3)
                have r2 := hu4.c2
                have r3 := hu4.c3
                have KT4 := Kept.mk (KT3.out.mv KS3.out.h1 hF2.mv)
                have K2 := Kept.mk (match_bad hq2 (by omega) s1 KD.out (KT4.out.cdr1 KS3.out.h1) KS4.out.r)
                clear hR2 hF2 hu4 hq2
                go_wp2_with fail
                refine Calls.mono K2.out (fun e w3 hp => ?_)
                obtain ⟨rfl, hB3⟩ := hp
                have K3 := Kept.mk hB3
                clear hB3
                go_wp2
                simp only [JumpsTo]
                go_ret
                rw [KE3.out]
                exact ⟨rfl, K3.out⟩
        · rw [hq] at hE
          have KE3 : Kept (R = .bad er) := ⟨hE.symm⟩
          have K1 := Kept.mk (symbol_bad hq KC.out (KT3.out.cdr0 KS3.out.h1) KS3.out.r)
          have her := er.rng
          have hne : ¬ er.v = 0 := by omega
          clear hE hq her
          go_wp2_with fail
          refine Calls.mono K1.out (fun e w2 hp => ?_)
          obtain ⟨rfl, hR2, -⟩ := hp
          have KR2 := Kept.mk hR2
          clear hR2
          go_wp2
          simp only [JumpsTo]
          go_ret
          rw [KE3.out]
          exact ⟨rfl, KR2.out⟩
    | 3, hC =>
      refine ⟨_, rfl, ?_⟩
      obtain ⟨ob, out, t, f, hS, hf, hR, hn⟩ := hC
      have KS := Kept.mk hS
      rw [way2] at hR
      obtain ⟨y0, y1, y2, y3, hu⟩ := hS.bu
      rcases hq : toldF p t with ⟨⟨c, d⟩, t1⟩ | er
      · rw [hq] at hR
        dsimp only at hR
        have KE := Kept.mk hR
        have K1 := Kept.mk (toldCodes_ok KT.out hq KS.out.r)
        obtain ⟨hcc, hdd, ht1, ht8⟩ := toldF_ok hq
        have KC := Kept.mk hcc
        have KD := Kept.mk hdd
        have KU0 := Kept.mk hu
        clear hS hR hq hcc hdd hu
        go_wp2_with fail
        refine Calls.mono K1.out (fun e w2 hp => ?_)
        obtain ⟨x0, x1, x2, x3, rfl, r0, r1, r2, r3, hR2, hF2⟩ := hp
        have hsz := KU0.out.lt
        have KS2 := Kept.mk (KS.out.mv hR2 hF2.mv)
        have hu2 := KU0.out.far (hF2.block _ KU0.out.lt (by have := KS.out.h1; omega) KS.out.h3)
        have KTB2 := Kept.mk (told_tb KS.out hsz r0 r1 r2 r3)
        have q0 := hu2.c0
        have q1 := hu2.c1
        have q2 := hu2.c2
        have q3 := hu2.c3
        have z0 := hu2.fz 0
        have z1 := hu2.fz 1
        have z2 := hu2.fz 2
        have z3 := hu2.fz 3
        have KU2 := Kept.mk hu2
        obtain ⟨xa0, xb0, xc0, rfl⟩ : ∃ a b c, x0 = .slice a b c := by obtain ⟨_, _, e, -⟩ := r0.form; exact ⟨_, _, _, e⟩
        obtain ⟨xa1, xb1, xc1, rfl⟩ : ∃ a b c, x1 = .slice a b c := by obtain ⟨_, _, e, -⟩ := r1.form; exact ⟨_, _, _, e⟩
        obtain ⟨xa2, xb2, xc2, rfl⟩ : ∃ a b c, x2 = .slice a b c := by obtain ⟨_, _, e, -⟩ := r2.form; exact ⟨_, _, _, e⟩
        obtain ⟨xa3, xb3, xc3, rfl⟩ : ∃ a b c, x3 = .slice a b c := by obtain ⟨_, _, e, -⟩ := r3.form; exact ⟨_, _, _, e⟩
        clear hR2 hF2 hu2 r0 r1 r2 r3
        have KS3 := Kept.mk (KS2.out.set4 (.slice xa0 xb0 xc0) (.slice xa1 xb1 xc1) (.slice xa2 xb2 xc2) (.slice xa3 xb3 xc3))
        have KU3 := Kept.mk (KU2.out.all (.slice xa0 xb0 xc0) (.slice xa1 xb1 xc1) (.slice xa2 xb2 xc2) (.slice xa3 xb3 xc3))
        have KTB3 := Kept.mk (KTB2.out.set4 (.slice xa0 xb0 xc0) (.slice xa1 xb1 xc1) (.slice xa2 xb2 xc2) (.slice xa3 xb3 xc3))
        clear KS KU0 KS2 KU2 KTB2 K1
        go_wp2_with fail
        go_step3
        go_wp2_with fail
        clear q0 q1 q2 q3 z0 z1 z2 z3
        generalize ((((w2.setCell ⟨ub, 0, none⟩ (.slice xa0 xb0 xc0)).setCell ⟨ub, 1, none⟩ (.slice xa1 xb1 xc1)).setCell ⟨ub, 2, none⟩ (.slice xa2 xb2 xc2)).setCell ⟨ub, 3, none⟩ (.slice xa3 xb3 xc3)) = wA at *
        have KS := KS3
        have KU := KU3
        have KTB := KTB3
        clear KS3 KU3 KTB3
        have hg : 8 * p.length - t1 < 8 * p.length - t1 + 1 := Nat.lt_succ_self _
        have hf1 : 8 * p.length - t1 < f := by omega
        have hn1 : 10 * (8 * p.length - t1) + 2 < n := by omega
        clear hf hn ht1
        go_loopw [2, 5, 7] (fun _ _ _ wr => ∃ (ob' : Option Nat) (o : List Int) (tk g : Nat), StC W0 wr rb ub fb ob' inV p most f0 f1 f2 f3 o tk ∧ B4 wr ub (.slice xa0 xb0 xc0) (.slice xa1 xb1 xc1) (.slice xa2 xb2 xc2) (.slice xa3 xb3 xc3) ∧ TB wr ub ob' c d (.slice xa0 xb0 xc0) (.slice xa1 xb1 xc1) (.slice xa2 xb2 xc2) (.slice xa3 xb3 xc3) ∧ 8 * p.length - tk < g ∧ t1 ≤ tk ∧ finF p most last f (blockF p most c d g o tk) = R) (fun _ _ _ wr => 8 * p.length - posOf wr rb)
        case atStart => exact ⟨_, out, t1, _, KS.out, KU.out, KTB.out, hg, Nat.le_refl _, KE.out⟩
        case round =>
          obtain ⟨ob', o, tk, g, hS, hu, htb, hgk, htk, hE⟩ := hrel
          obtain ⟨g, rfl⟩ : ∃ g', g = g' + 1 := ⟨g - 1, by omega⟩
          have q0 := hu.c0
          have q1 := hu.c1
          have hpos := posOf_rdr hS.r
          have KS3 := Kept.mk hS
          have KU3 := Kept.mk hu
          have KT3 := Kept.mk htb
          have KPO := Kept.mk hpos
          rw [blockF] at hE
          clear hpos hS hu htb
          rcases hq : symF p c tk with ⟨s, t1⟩ | er
          · rw [hq] at hE
            dsimp only at hE
            have K1 := Kept.mk (symbol_ok hq KC.out (KT3.out.cdr0 KS3.out.h1) KS3.out.r)
            obtain ⟨s0, s1, s2, s3⟩ := symF_ok KC.out (by omega) hq
            clear hq
            by_cases h256 : s = 256
            · rw [if_pos h256] at hE
              have KE3 := Kept.mk hE
              subst h256
              clear hE
              go_wp2_with fail
              refine Calls.mono K1.out (fun e w2 hp => ?_)
              obtain ⟨rfl, hR2, hF2⟩ := hp
              have KS4 := Kept.mk (KS3.out.mv hR2 hF2.mv)
              clear hR2 hF2
              go_wp2
              go_step3
              exact ⟨10 * (8 * p.length - t1) + 1, by omega, ub, fb, _, _, _, _, last, ⟨_, _, _, _, _, _, _, _, _, _, _, _, _, _, _, _, _, _, _, _, _, _, _, _, _, _, _, _, _, _, _, _, _, _, _, _, _, _, _, _, _, _, _, _, _, _, _, _, _, _, _, _, _, _, _, _, _, _, _, _, _, _, _, _, _, _, _, _, rfl⟩, _, o, t1, f, KS4.out, by omega, KE3.out, rfl⟩
            · rw [if_neg h256] at hE
              by_cases hlt : s < 256
              · rw [if_pos hlt] at hE
                by_cases hfull : most ≤ o.length
                · rw [if_pos hfull] at hE
                  have KE3 : Kept (R = .bad .limit) := ⟨hE.symm⟩
                  clear hE
                  go_wp2_with fail
                  refine Calls.mono K1.out (fun e w2 hp => ?_)
                  obtain ⟨rfl, hR2, hF2⟩ := hp
                  have K2 := Kept.mk (put_bad s s0 hlt hfull hR2)
                  clear hR2 hF2
                  go_wp2_with fail
                  refine Calls.mono K2.out (fun e w3 hp => ?_)
                  obtain ⟨rfl, hB3⟩ := hp
                  have K3 := Kept.mk hB3
                  clear hB3
                  go_wp2
                  simp only [JumpsTo]
                  go_ret
                  rw [KE3.out]
                  exact ⟨rfl, K3.out⟩
                · rw [if_neg hfull] at hE
                  have KE3 := Kept.mk hE
                  clear hE
                  go_wp2_with fail
                  refine Calls.mono K1.out (fun e w2 hp => ?_)
                  obtain ⟨rfl, hR2, hF2⟩ := hp
                  have K2 := Kept.mk (put_ok s s0 hlt hfull hR2)
                  have KS4 := Kept.mk (KS3.out.mv hR2 hF2.mv)
                  have KU4 := Kept.mk (KU3.out.far (hF2.block _ KU3.out.lt (by have := KS3.out.h1; omega) KS3.out.h3))
                  have KT4 := Kept.mk (KT3.out.mv KS3.out.h1 hF2.mv)
                  clear hR2 hF2
                  go_wp2_with fail
                  refine Calls.mono K2.out (fun e w3 hp => ?_)
                  obtain ⟨rfl, ob3, hR3, hM3⟩ := hp
                  have KS5 := Kept.mk (KS4.out.mv hR3 hM3)
                  have KU5 := Kept.mk (KU4.out.far (hM3.fr.block _ KU4.out.lt (by have := KS3.out.h1; omega) KS4.out.h3))
                  have KT5 := Kept.mk (KT4.out.mv KS3.out.h1 hM3)
                  clear hR3 hM3
                  go_wp2
                  go_roundw
                  case rel => exact ⟨_, _, t1, g, KS5.out, KU5.out, KT5.out, by omega, by omega, KE3.out⟩
                  case measure =>
                    rw [KPO.out, posOf_rdr KS5.out.r]
                    omega
              · rw [if_neg hlt] at hE
                rcases hq2 : matchF p most d s o t1 with ⟨o2, t2⟩ | er
                · rw [hq2] at hE
                  dsimp only at hE
                  have KE3 := Kept.mk hE
                  obtain ⟨v1, v2⟩ := matchF_ok KD.out (by omega) hq2
                  clear hE
                  go_wp2_with fail
                  refine Calls.mono K1.out (fun e w2 hp => ?_)
                  obtain ⟨rfl, hR2, hF2⟩ := hp
                  have KS4 := Kept.mk (KS3.out.mv hR2 hF2.mv)
                  have hu4 := KU3.out.far (hF2.block _ KU3.out.lt (by have := KS3.out.h1; omega) KS3.out.h3)
                  have r2 := hu4.c2
                  have r3 := hu4.c3
                  have KU4 := Kept.mk hu4
                  have KT4 := Kept.mk (KT3.out.mv KS3.out.h1 hF2.mv)
                  have K2 := Kept.mk (match_ok hq2 (by omega) s1 KD.out (KT4.out.cdr1 KS3.out.h1) KS4.out.r)
                  clear hR2 hF2 hu4 hq2
                  go_wp2_with fail
                  refine Calls.mono K2.out (fun e w3 hp => ?_)
                  obtain ⟨rfl, ob3, hR3, hM3⟩ := hp
                  have KS5 := Kept.mk (KS4.out.mv hR3 hM3)
                  have KU5 := Kept.mk (KU4.out.far (hM3.fr.block _ KU4.out.lt (by have := KS3.out.h1; omega) KS4.out.h3))
                  have KT5 := Kept.mk (KT4.out.mv KS3.out.h1 hM3)
                  clear hR3 hM3
                  go_wp2
                  go_roundw
                  case rel => exact ⟨_, _, t2, g, KS5.out, KU5.out, KT5.out, by omega, by omega, KE3.out⟩
                  case measure =>
                    rw [KPO.out, posOf_rdr KS5.out.r]
                    omega
                · rw [hq2] at hE
                  have KE3 : Kept (R = .bad er) := ⟨hE.symm⟩
                  have her := er.rng
                  have hne : ¬ er.v = 0 := by omega
                  clear hE her
                  go_wp2_with fail
                  refine Calls.mono K1.out (fun e w2 hp => ?_)
                  obtain ⟨rfl, hR2, hF2⟩ := hp
                  have KS4 := Kept.mk (KS3.out.mv hR2 hF2.mv)
                  have hu4 := KU3.out.far (hF2.block _ KU3.out.lt (by have := KS3.out.h1; omega) KS3.out.h3)
                  have r2 := hu4.c2
                  have r3 := hu4.c3
                  have KT4 := Kept.mk (KT3.out.mv KS3.out.h1 hF2.mv)
                  have K2 := Kept.mk (match_bad hq2 (by omega) s1 KD.out (KT4.out.cdr1 KS3.out.h1) KS4.out.r)
                  clear hR2 hF2 hu4 hq2
                  go_wp2_with fail
                  refine Calls.mono K2.out (fun e w3 hp => ?_)
                  obtain ⟨rfl, hB3⟩ := hp
                  have K3 := Kept.mk hB3
                  clear hB3
                  go_wp2
                  simp only [JumpsTo]
                  go_ret
                  rw [KE3.out]
                  exact ⟨rfl, K3.out⟩
          · rw [hq] at hE
            have KE3 : Kept (R = .bad er) := ⟨hE.symm⟩
            have K1 := Kept.mk (symbol_bad hq KC.out (KT3.out.cdr0 KS3.out.h1) KS3.out.r)
            have her := er.rng
            have hne : ¬ er.v = 0 := by omega
            clear hE hq her
            go_wp2_with fail
            refine Calls.mono K1.out (fun e w2 hp => ?_)
            obtain ⟨rfl, hR2, -⟩ := hp
            have KR2 := Kept.mk hR2
            clear hR2
            go_wp2
            simp only [JumpsTo]
            go_ret
            rw [KE3.out]
            exact ⟨rfl, KR2.out⟩
      · rw [hq] at hR
        have KE3 : Kept (R = .bad er) := ⟨hR.symm⟩
        have K1 := Kept.mk (toldCodes_bad KT.out hq KS.out.r)
        have her := er.rng
        have hne : ¬ er.v = 0 := by omega
        have KU0 := Kept.mk hu
        clear hS hR hq her hu
        go_wp2_with fail
        refine Calls.mono K1.out (fun e w2 hp => ?_)
        obtain ⟨rfl, hR2, hF2⟩ := hp
        have hu2 := KU0.out.far (hF2.block _ KU0.out.lt (by have := KS.out.h1; omega) KS.out.h3)
        have q0 := hu2.c0
        have q1 := hu2.c1
        have q2 := hu2.c2
        have q3 := hu2.c3
        have z0 := hu2.fz 0
        have z1 := hu2.fz 1
        have z2 := hu2.fz 2
        have z3 := hu2.fz 3
        have KR2 := Kept.mk hR2
        have hub : W0.heap.size ≤ ub := by have := KS.out.h1; have := KS.out.r.hb; omega
        clear hR2 hF2 hu2
        go_wp2
        simp only [JumpsTo]
        go_ret
        rw [KE3.out]
        exact ⟨rfl, Below.set4 KR2.out hub _ _ _ _⟩
    | 4, hC =>
      refine ⟨_, rfl, ?_⟩
      obtain ⟨ob, out, t, f, hS, hf, hR, hn⟩ := hC
      have KS := Kept.mk hS
      have KE := Kept.mk hR
      clear hS hR
      by_cases hl : last = 0
      · subst hl
        go_wp2
        go_step3
        exact ⟨10 * (8 * p.length - t), by omega, ub, fb, _, _, _, _, 0, ⟨_, _, _, _, _, _, _, _, _, _, _, _, _, _, _, _, _, _, _, _, _, _, _, _, _, _, _, _, _, _, _, _, _, _, _, _, _, _, _, _, _, _, _, _, _, _, _, _, _, _, _, _, _, _, _, _, _, _, _, _, _, _, _, _, _, _, _, _, rfl⟩, _, out, t, f, KS.out, hf, by rw [← KE.out]; simp, rfl⟩
      · go_wp2
        simp only [JumpsTo]
        go_ret
        rw [← KE.out, if_neg hl]
        exact ⟨rfl, _, KS.out.r⟩
    | l + 5, hC => exact hC.elim
end Go.Proofs.YtjijkcmbbccfmaaDoor
