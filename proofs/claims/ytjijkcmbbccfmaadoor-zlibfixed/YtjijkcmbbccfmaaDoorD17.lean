/-
  The document's reader: symbols.
-/
import Derived.Test.YtjijkcmbbccfmaaDoorD16
namespace Go.Proofs.YtjijkcmbbccfmaaDoor
open Go.RowKit
set_option linter.unusedVariables false

def kS (p : List Int) (most : Nat) (c d : Cd) (f : Nat) (o : List Int) (s : Int) (t1 : Nat) : Rs (List Int) :=
  if s = 256 then .ok o t1
  else if s < 256 then (if most ≤ o.length then .bad .limit else blockF p most c d f (o ++ [s]) t1)
  else (matchF p most d s o t1).bind fun o' t2 => blockF p most c d f o' t2
theorem block_k (p : List Int) (most : Nat) (c d : Cd) (f : Nat) (o : List Int) (t : Nat) : blockF p most c d (f + 1) o t = (symF p c t).bind fun s t1 => kS p most c d f o s t1 := by
  rw [blockF]
  rcases symF p c t with ⟨s, t1⟩ | er
  · dsimp only [Rs.bind]
    unfold kS
    by_cases h1 : s = 256
    · rw [if_pos h1, if_pos h1]
    · rw [if_neg h1, if_neg h1]
      by_cases h2 : s < 256
      · rw [if_pos h2, if_pos h2]
      · rw [if_neg h2, if_neg h2]
        rcases matchF p most d s o t1 with ⟨o', t2⟩ | er <;> rfl
  · rfl
theorem numF_at {p : List Int} {n t t' : Nat} {v : Int} (h : numF p n t = .ok v t') : t' = t + n := by
  unfold numF at h
  split at h
  · injection h with h1 h2
    exact h2.symm
  · cases h
theorem match_le {p : List Int} {most : Nat} {c : Cd} {m : Int} (hok : CdOk c m) (hm : 0 < m) {s : Int} (hs : 257 ≤ s) {out o : List Int} {t t' : Nat} (ht : t ≤ 8 * p.length) (h : matchF p most c s out t = .ok o t') : t ≤ t' := by
  by_cases hb : 285 < s
  · unfold matchF lengthF at h
    rw [if_pos hb] at h
    cases h
  · rw [match_k hok hm s ⟨hs, by omega⟩ out t ht] at h
    rcases h1 : numF p (dlen s).2 t with ⟨v, t1⟩ | er
    · rw [h1] at h
      dsimp only [Rs.bind] at h
      rcases h2 : symF p c t1 with ⟨x, t2⟩ | er
      · rw [h2] at h
        dsimp only [Rs.bind] at h
        unfold kD at h
        have e1 := numF_at h1
        have e2 := (symF_ok hok hm h2).2.2.1
        split at h
        · cases h
        · rcases h3 : numF p (ddist x).2 t2 with ⟨u, t3⟩ | er
          · rw [h3] at h
            dsimp only [Rs.bind] at h
            unfold kM at h
            have e3 := numF_at h3
            split at h
            · cases h
            · split at h
              · cases h
              · injection h with h4 h5
                omega
          · rw [h3] at h
            cases h
      · rw [h2] at h
        cases h
    · rw [h1] at h
      cases h
/-- How many bits have been taken. -/
def tOf (w : World) (rb : Nat) : Nat :=
  match w.cell? ⟨rb, 1, none⟩ with
  | some (.int _ t) => t.toNat
  | _ => 0
theorem tOf_on {W0 w : World} {rb : Nat} {ob : Option Nat} {inV : Value} {p out : List Int} {most t : Nat} {E : Int} (h : Bts W0 w rb ob inV p most out t E) : tOf w rb = t := by
  obtain ⟨_, hB, -⟩ := h.blk
  unfold tOf
  rw [hB.c1]
  simp

set_option maxHeartbeats 4000000 in
set_option maxRecDepth 100000 in
theorem dsymbols_any {W0 w : World} {rb : Nat} {ob : Option Nat} {inV : Value} {p out : List Int} {most t : Nat} {E : Int} {lv dv : Value} {Ll Ld : List Int} {R : Rs (List Int)} (f0 : Nat) (hf0 : 8 * p.length - t + 1 ≤ f0) (hl : Rd .i64 anyB w lv Ll) (hd : Rd .i64 anyB w dv Ld) (hli : AllIn 0 16 Ll) (hdi : AllIn 0 16 Ld) (hll : Ll.length ≤ 400) (hdl : Ld.length ≤ 400)
    (hR : PreD R (blockF p most (mkCd Ll) (mkCd Ld) f0 out t) E) (h : Bts W0 w rb ob inV p most out t E) :
    Calls Tryd.prog 30 #[.pointer (some ⟨rb, 0, none⟩), lv, dv] w fun e w' => AfterV W0 w w' rb ob inV p most R e := by
  obtain ⟨la, lc, rfl, -, -, -⟩ := hl.form
  obtain ⟨da, dc, rfl, -, -, -⟩ := hd.form
  have hrb := h.rb_lt
  have hrb0 := h.hb
  have KOB := Kept.mk h.ob_ge
  have K1 := Kept.mk (dtabled_any w _ Ll hli hll hl)
  have KH := Kept.mk h
  have KD := Kept.mk hd
  have KR := Kept.mk hR
  have KDI := Kept.mk hdi
  clear hl hd hli hdi hR h
  go_enter Tryd.func30, Tryd.ntmps30
  go_wp2_with fail
  refine Calls.mono K1.out (fun e w2 hp => ?_)
  obtain ⟨sv, rfl, hsv, hb2⟩ := hp
  have hz2 := hb2.size
  obtain ⟨sa, sc, rfl, -, -, -⟩ := hsv.form
  have K2 := Kept.mk (dtabled_any w2 _ Ld KDI.out hdl (KD.out.later hb2 (Nat.le_refl _)))
  have KSV1 := Kept.mk hsv
  have KB2 := Kept.mk hb2
  clear hsv hb2
  obtain ⟨y0, y1, y2, y3, y4, y5, y6, y7, y8, y9, y10, y11, y12, y13, y14, y15, hcs⟩ : ∃ y0 y1 y2 y3 y4 y5 y6 y7 y8 y9 y10 y11 y12 y13 y14 y15, csF Ll 16 0 = [y0, y1, y2, y3, y4, y5, y6, y7, y8, y9, y10, y11, y12, y13, y14, y15] := ⟨_, _, _, _, _, _, _, _, _, _, _, _, _, _, _, _, list16 _ (csF_length Ll 16 0)⟩
  rw [hcs]
  have KCS := Kept.mk hcs
  clear hcs
  go_wp2_with fail
  refine Calls.mono K2.out (fun e w3 hp => ?_)
  obtain ⟨rv, rfl, hrv, hb3⟩ := hp
  have hz3 := hb3.size
  obtain ⟨ra, rc, rfl, -, -, -⟩ := hrv.form
  obtain ⟨z0, z1, z2, z3, z4, z5, z6, z7, z8, z9, z10, z11, z12, z13, z14, z15, hcs2⟩ : ∃ z0 z1 z2 z3 z4 z5 z6 z7 z8 z9 z10 z11 z12 z13 z14 z15, csF Ld 16 0 = [z0, z1, z2, z3, z4, z5, z6, z7, z8, z9, z10, z11, z12, z13, z14, z15] := ⟨_, _, _, _, _, _, _, _, _, _, _, _, _, _, _, _, list16 _ (csF_length Ld 16 0)⟩
  rw [hcs2]
  have hobn : ∀ j, w.heap.size ≤ j → some j ≠ ob := fun j hj e => by have := (KOB.out j e.symm).2; omega
  have hT1 : TT ((w3.alloc (.cells #[.slice sa (symsF Ll 15).length sc, .int .i64 y0, .int .i64 y1, .int .i64 y2, .int .i64 y3, .int .i64 y4, .int .i64 y5, .int .i64 y6, .int .i64 y7, .int .i64 y8, .int .i64 y9, .int .i64 y10, .int .i64 y11, .int .i64 y12, .int .i64 y13, .int .i64 y14, .int .i64 y15] 84)).alloc (.cells #[.slice ra (symsF Ld 15).length rc, .int .i64 z0, .int .i64 z1, .int .i64 z2, .int .i64 z3, .int .i64 z4, .int .i64 z5, .int .i64 z6, .int .i64 z7, .int .i64 z8, .int .i64 z9, .int .i64 z10, .int .i64 z11, .int .i64 z12, .int .i64 z13, .int .i64 z14, .int .i64 z15] 84)) w3.heap.size (.slice sa (symsF Ll 15).length sc) (csF Ll 16 0) := by
    unfold TT
    rw [KCS.out, Below.heap_alloc _ _ _ (by simp)]
    exact heap_alloc_new w3 _
  have hT2 : TT ((w3.alloc (.cells #[.slice sa (symsF Ll 15).length sc, .int .i64 y0, .int .i64 y1, .int .i64 y2, .int .i64 y3, .int .i64 y4, .int .i64 y5, .int .i64 y6, .int .i64 y7, .int .i64 y8, .int .i64 y9, .int .i64 y10, .int .i64 y11, .int .i64 y12, .int .i64 y13, .int .i64 y14, .int .i64 y15] 84)).alloc (.cells #[.slice ra (symsF Ld 15).length rc, .int .i64 z0, .int .i64 z1, .int .i64 z2, .int .i64 z3, .int .i64 z4, .int .i64 z5, .int .i64 z6, .int .i64 z7, .int .i64 z8, .int .i64 z9, .int .i64 z10, .int .i64 z11, .int .i64 z12, .int .i64 z13, .int .i64 z14, .int .i64 z15] 84)) (w3.heap.size + 1) (.slice ra (symsF Ld 15).length rc) (csF Ld 16 0) := by
    unfold TT
    rw [hcs2]
    have := heap_alloc_new (w3.alloc (.cells #[.slice sa (symsF Ll 15).length sc, .int .i64 y0, .int .i64 y1, .int .i64 y2, .int .i64 y3, .int .i64 y4, .int .i64 y5, .int .i64 y6, .int .i64 y7, .int .i64 y8, .int .i64 y9, .int .i64 y10, .int .i64 y11, .int .i64 y12, .int .i64 y13, .int .i64 y14, .int .i64 y15] 84)) (.cells #[.slice ra (symsF Ld 15).length rc, .int .i64 z0, .int .i64 z1, .int .i64 z2, .int .i64 z3, .int .i64 z4, .int .i64 z5, .int .i64 z6, .int .i64 z7, .int .i64 z8, .int .i64 z9, .int .i64 z10, .int .i64 z11, .int .i64 z12, .int .i64 z13, .int .i64 z14, .int .i64 z15] 84)
    simpa using this
  have hBl : Below w3.heap.size w3 ((w3.alloc (.cells #[.slice sa (symsF Ll 15).length sc, .int .i64 y0, .int .i64 y1, .int .i64 y2, .int .i64 y3, .int .i64 y4, .int .i64 y5, .int .i64 y6, .int .i64 y7, .int .i64 y8, .int .i64 y9, .int .i64 y10, .int .i64 y11, .int .i64 y12, .int .i64 y13, .int .i64 y14, .int .i64 y15] 84)).alloc (.cells #[.slice ra (symsF Ld 15).length rc, .int .i64 z0, .int .i64 z1, .int .i64 z2, .int .i64 z3, .int .i64 z4, .int .i64 z5, .int .i64 z6, .int .i64 z7, .int .i64 z8, .int .i64 z9, .int .i64 z10, .int .i64 z11, .int .i64 z12, .int .i64 z13, .int .i64 z14, .int .i64 z15] 84)) := ((Below.refl _ w3).alloc (Nat.le_refl _) _).alloc (by simp) _
  have hBw : Below w.heap.size w ((w3.alloc (.cells #[.slice sa (symsF Ll 15).length sc, .int .i64 y0, .int .i64 y1, .int .i64 y2, .int .i64 y3, .int .i64 y4, .int .i64 y5, .int .i64 y6, .int .i64 y7, .int .i64 y8, .int .i64 y9, .int .i64 y10, .int .i64 y11, .int .i64 y12, .int .i64 y13, .int .i64 y14, .int .i64 y15] 84)).alloc (.cells #[.slice ra (symsF Ld 15).length rc, .int .i64 z0, .int .i64 z1, .int .i64 z2, .int .i64 z3, .int .i64 z4, .int .i64 z5, .int .i64 z6, .int .i64 z7, .int .i64 z8, .int .i64 z9, .int .i64 z10, .int .i64 z11, .int .i64 z12, .int .i64 z13, .int .i64 z14, .int .i64 z15] 84)) := (KB2.out.trans (hb3.mono hz2)).trans (hBl.mono (by omega))
  have hS1 : Rd .i64 (Sep rb ob) ((w3.alloc (.cells #[.slice sa (symsF Ll 15).length sc, .int .i64 y0, .int .i64 y1, .int .i64 y2, .int .i64 y3, .int .i64 y4, .int .i64 y5, .int .i64 y6, .int .i64 y7, .int .i64 y8, .int .i64 y9, .int .i64 y10, .int .i64 y11, .int .i64 y12, .int .i64 y13, .int .i64 y14, .int .i64 y15] 84)).alloc (.cells #[.slice ra (symsF Ld 15).length rc, .int .i64 z0, .int .i64 z1, .int .i64 z2, .int .i64 z3, .int .i64 z4, .int .i64 z5, .int .i64 z6, .int .i64 z7, .int .i64 z8, .int .i64 z9, .int .i64 z10, .int .i64 z11, .int .i64 z12, .int .i64 z13, .int .i64 z14, .int .i64 z15] 84)) (.slice sa (symsF Ll 15).length sc) (symsF Ll 15) := ((KSV1.out.later hb3 (Nat.le_refl _)).later hBl (Nat.le_refl _)).weak fun b _ hS => ⟨by omega, hobn b hS⟩
  have hS2 : Rd .i64 (Sep rb ob) ((w3.alloc (.cells #[.slice sa (symsF Ll 15).length sc, .int .i64 y0, .int .i64 y1, .int .i64 y2, .int .i64 y3, .int .i64 y4, .int .i64 y5, .int .i64 y6, .int .i64 y7, .int .i64 y8, .int .i64 y9, .int .i64 y10, .int .i64 y11, .int .i64 y12, .int .i64 y13, .int .i64 y14, .int .i64 y15] 84)).alloc (.cells #[.slice ra (symsF Ld 15).length rc, .int .i64 z0, .int .i64 z1, .int .i64 z2, .int .i64 z3, .int .i64 z4, .int .i64 z5, .int .i64 z6, .int .i64 z7, .int .i64 z8, .int .i64 z9, .int .i64 z10, .int .i64 z11, .int .i64 z12, .int .i64 z13, .int .i64 z14, .int .i64 z15] 84)) (.slice ra (symsF Ld 15).length rc) (symsF Ld 15) := (hrv.later hBl (Nat.le_refl _)).weak fun b _ hS => ⟨by omega, hobn b (by omega)⟩
  have hB9 : Bts W0 ((w3.alloc (.cells #[.slice sa (symsF Ll 15).length sc, .int .i64 y0, .int .i64 y1, .int .i64 y2, .int .i64 y3, .int .i64 y4, .int .i64 y5, .int .i64 y6, .int .i64 y7, .int .i64 y8, .int .i64 y9, .int .i64 y10, .int .i64 y11, .int .i64 y12, .int .i64 y13, .int .i64 y14, .int .i64 y15] 84)).alloc (.cells #[.slice ra (symsF Ld 15).length rc, .int .i64 z0, .int .i64 z1, .int .i64 z2, .int .i64 z3, .int .i64 z4, .int .i64 z5, .int .i64 z6, .int .i64 z7, .int .i64 z8, .int .i64 z9, .int .i64 z10, .int .i64 z11, .int .i64 z12, .int .i64 z13, .int .i64 z14, .int .i64 z15] 84)) rb ob inV p most out t E := KH.out.far hBw
  have hF9 : Fr rb ob w ((w3.alloc (.cells #[.slice sa (symsF Ll 15).length sc, .int .i64 y0, .int .i64 y1, .int .i64 y2, .int .i64 y3, .int .i64 y4, .int .i64 y5, .int .i64 y6, .int .i64 y7, .int .i64 y8, .int .i64 y9, .int .i64 y10, .int .i64 y11, .int .i64 y12, .int .i64 y13, .int .i64 y14, .int .i64 y15] 84)).alloc (.cells #[.slice ra (symsF Ld 15).length rc, .int .i64 z0, .int .i64 z1, .int .i64 z2, .int .i64 z3, .int .i64 z4, .int .i64 z5, .int .i64 z6, .int .i64 z7, .int .i64 z8, .int .i64 z9, .int .i64 z10, .int .i64 z11, .int .i64 z12, .int .i64 z13, .int .i64 z14, .int .i64 z15] 84)) := ⟨hBw.os, hBw.tape, hBw.output, hBw.size, fun k hk _ _ => hBw.block k hk⟩
  have KT1 : Kept (∀ wr ob', Mv rb ob ob' ((w3.alloc (.cells #[.slice sa (symsF Ll 15).length sc, .int .i64 y0, .int .i64 y1, .int .i64 y2, .int .i64 y3, .int .i64 y4, .int .i64 y5, .int .i64 y6, .int .i64 y7, .int .i64 y8, .int .i64 y9, .int .i64 y10, .int .i64 y11, .int .i64 y12, .int .i64 y13, .int .i64 y14, .int .i64 y15] 84)).alloc (.cells #[.slice ra (symsF Ld 15).length rc, .int .i64 z0, .int .i64 z1, .int .i64 z2, .int .i64 z3, .int .i64 z4, .int .i64 z5, .int .i64 z6, .int .i64 z7, .int .i64 z8, .int .i64 z9, .int .i64 z10, .int .i64 z11, .int .i64 z12, .int .i64 z13, .int .i64 z14, .int .i64 z15] 84)) wr → TT wr w3.heap.size (.slice sa (symsF Ll 15).length sc) (csF Ll 16 0)) := ⟨fun wr ob' hm => hT1.far (hm.fr.block _ (by simp; omega) (by omega) (hobn _ (by omega)))⟩
  have KT2 : Kept (∀ wr ob', Mv rb ob ob' ((w3.alloc (.cells #[.slice sa (symsF Ll 15).length sc, .int .i64 y0, .int .i64 y1, .int .i64 y2, .int .i64 y3, .int .i64 y4, .int .i64 y5, .int .i64 y6, .int .i64 y7, .int .i64 y8, .int .i64 y9, .int .i64 y10, .int .i64 y11, .int .i64 y12, .int .i64 y13, .int .i64 y14, .int .i64 y15] 84)).alloc (.cells #[.slice ra (symsF Ld 15).length rc, .int .i64 z0, .int .i64 z1, .int .i64 z2, .int .i64 z3, .int .i64 z4, .int .i64 z5, .int .i64 z6, .int .i64 z7, .int .i64 z8, .int .i64 z9, .int .i64 z10, .int .i64 z11, .int .i64 z12, .int .i64 z13, .int .i64 z14, .int .i64 z15] 84)) wr → TT wr (w3.heap.size + 1) (.slice ra (symsF Ld 15).length rc) (csF Ld 16 0)) := ⟨fun wr ob' hm => hT2.far (hm.fr.block _ (by simp) (by omega) (hobn _ (by omega)))⟩
  have KS1 := Kept.mk hS1
  have KS2 := Kept.mk hS2
  have KB9 := Kept.mk hB9
  have KF9 := Kept.mk hF9
  have HI1 : Kept ((Tryd.prog.info? 84).map (·.size) = some (Value.slice sa (symsF Ll 15).length sc :: (csF Ll 16 0).map (Value.int .i64)).length) := ⟨by rw [infoT]; simp [csF_length]⟩
  have HI2 : Kept ((Tryd.prog.info? 84).map (·.size) = some (Value.slice ra (symsF Ld 15).length rc :: (csF Ld 16 0).map (Value.int .i64)).length) := ⟨by rw [infoT]; simp [csF_length]⟩
  have KF0 := Kept.mk hf0
  clear hcs2 hT1 hT2 hBl hBw hS1 hS2 hB9 hF9 hrv hb3 hobn KSV1 KB2 KH KD K1 K2 KCS hf0
  go_wp2
  go_loopw [8] (fun _ wr => ∃ (f tk : Nat) (o : List Int) (ob' : Option Nat) (Ek : Int), 8 * p.length - tk + 1 ≤ f ∧ PreD R (blockF p most (mkCd Ll) (mkCd Ld) f o tk) Ek ∧ Bts W0 wr rb ob' inV p most o tk Ek ∧ Mv rb ob ob' ((w3.alloc (.cells #[.slice sa (symsF Ll 15).length sc, .int .i64 y0, .int .i64 y1, .int .i64 y2, .int .i64 y3, .int .i64 y4, .int .i64 y5, .int .i64 y6, .int .i64 y7, .int .i64 y8, .int .i64 y9, .int .i64 y10, .int .i64 y11, .int .i64 y12, .int .i64 y13, .int .i64 y14, .int .i64 y15] 84)).alloc (.cells #[.slice ra (symsF Ld 15).length rc, .int .i64 z0, .int .i64 z1, .int .i64 z2, .int .i64 z3, .int .i64 z4, .int .i64 z5, .int .i64 z6, .int .i64 z7, .int .i64 z8, .int .i64 z9, .int .i64 z10, .int .i64 z11, .int .i64 z12, .int .i64 z13, .int .i64 z14, .int .i64 z15] 84)) wr) (fun _ wr => eOf wr rb * (8 * p.length - tOf wr rb + 1))
  case atStart => exact ⟨f0, t, out, ob, E, KF0.out, KR.out, KB9.out, Mv.refl _ _ _⟩
  case round =>
    clear KF0 KR KB9
    obtain ⟨f, tk, o, ob', Ek, hf, hst, hB, hM⟩ := hrel
    have cE := hB.cE
    have KST := Kept.mk hst
    have KB := Kept.mk hB
    have KM := Kept.mk hM
    have htk := hB.tle
    clear hst hB hM
    by_cases hEk : Ek = 0
    · have hRk := preD_on KST.out hEk
      subst hEk
      obtain ⟨f, rfl⟩ : ∃ f', f = f' + 1 := ⟨f - 1, by omega⟩
      rw [block_k] at hRk
      obtain ⟨R1, hR1, hn1⟩ := preD_bind (show PreD R ((symF p (mkCd Ll) tk).bind _) 0 from Or.inl ⟨rfl, hRk⟩)
      have hR1e := preD_on hR1 rfl
      have KSY := Kept.mk (dsymbol_tab (R := R1) (L := Ll) hll (KS1.out.mv KM.out) hR1 KB.out)
      have KX := Kept.mk hn1
      have KR1 := Kept.mk hR1e
      have HR1 := Kept.mk (KT1.out _ _ KM.out).range
      clear hRk hR1 hn1 hR1e
      go_wp2_with (first | (refine wpList_load_mid rfl 84 _ rfl w3.heap.size 0 rfl _ _ HR1.out Tryd.underlying84 rfl HI1.out ?_) | fail)
      refine Calls.mono KSY.out (fun e w5 hp => ?_)
      obtain ⟨s, t1, E1, rfl, hS1, hz1, hB1, hF1⟩ := hp
      have cE1 := hB1.cE
      have KX1 := Kept.mk (KX.out _ _ _ hS1)
      have KB1 := Kept.mk hB1
      have KM1 := Kept.mk (KM.out.trans hF1.mv)
      by_cases hE1 : E1 = 0
      · have hsr : 0 ≤ s ∧ s < 400 ∧ tk < t1 ∧ t1 ≤ 8 * p.length := by
          rcases hS1 with ⟨h1, -⟩ | ⟨er, -, h2⟩
          · rw [KR1.out] at h1
            exact symF_ok (mkCd_ok Ll hll 400 (by omega)) (by omega) h1
          · exact absurd (h2.symm.trans hE1) (er_ne er)
        obtain ⟨hs0, hs4, htt, ht1⟩ := hsr
        have hRk := preD_on KX1.out hE1
        subst hE1
        unfold kS at hRk
        clear hS1 hz1 hB1 hF1
        by_cases h256 : s = 256
        · rw [if_pos h256] at hRk
          have KRk := Kept.mk hRk
          subst h256
          clear hRk
          go_wp2
          refine bodyPost_ret (results_none rfl _ _ _) rfl ?_
          exact ⟨ob', o, t1, 0, rfl, Or.inl ⟨KRk.out, rfl⟩, KB1.out, KF9.out.mv.trans KM1.out⟩
        · rw [if_neg h256] at hRk
          have h256b : (s == 256) = false := by simpa using h256
          by_cases hlt : s < 256
          · rw [if_pos hlt] at hRk
            have KRk := Kept.mk hRk
            have KP := Kept.mk (dput_any s hs0 hlt KB1.out)
            clear hRk
            go_wp2_with (go_at_call 53; refine Calls.mono KP.out (fun e w6 hp => ?_); obtain ⟨rfl, ob6, hB6, hM6⟩ := hp; have KB6 := Kept.mk hB6; have KM6 := Kept.mk (KM1.out.trans hM6); clear hB6 hM6)
            go_roundw
            case rel =>
              by_cases hfull : most ≤ o.length
              · have e : dput most s o 0 = (o, 10) := by simp [dput, hfull]
                have hk := KRk.out
                rw [if_pos hfull] at hk
                have hb := KB6.out
                rw [e] at hb
                exact ⟨f, t1, o, ob6, 10, by omega, Or.inr ⟨.limit, hk, rfl⟩, hb, KM6.out⟩
              · have e : dput most s o 0 = (o ++ [s], 0) := by simp [dput, hfull]
                have hk := KRk.out
                rw [if_neg hfull] at hk
                have hb := KB6.out
                rw [e] at hb
                exact ⟨f, t1, o ++ [s], ob6, 0, by omega, Or.inl ⟨rfl, hk⟩, hb, KM6.out⟩
            case measure =>
              rw [eOf_on KB6.out, eOf_on KB.out, tOf_on KB6.out, tOf_on KB.out, if_pos rfl]
              split
              · omega
              · omega
          · rw [if_neg hlt] at hRk
            obtain ⟨R2, hR2, hn2⟩ := preD_bind (show PreD R ((matchF p most (mkCd Ld) s o t1).bind _) 0 from Or.inl ⟨rfl, hRk⟩)
            have hR2e := preD_on hR2 rfl
            have KC := Kept.mk (dcopies_any s (by omega) (by omega) hdl (KS2.out.mv KM1.out) KB1.out)
            have KX2 := Kept.mk hn2
            have KR2 := Kept.mk hR2e
            have HR2 := Kept.mk (KT2.out _ _ KM1.out).range
            clear hRk hR2 hn2 hR2e
            go_wp2_with (first | (refine wpList_load_mid rfl 84 _ rfl (w3.heap.size + 1) 0 rfl _ _ HR2.out Tryd.underlying84 rfl HI2.out ?_) | (go_at_call 56; refine Calls.mono KC.out (fun e w6 hp => ?_); obtain ⟨ob6, o6, t6, E6, rfl, hS6, hB6, hM6⟩ := hp; have KS6 := Kept.mk hS6; have KB6 := Kept.mk hB6; have KM6 := Kept.mk (KM1.out.trans hM6); clear hS6 hB6 hM6))
            go_roundw
            case rel =>
              rw [← KR2.out] at KS6
              have hle : E6 = 0 → t1 ≤ t6 := fun e => by
                rcases KS6.out with ⟨h1, -⟩ | ⟨er, -, h2⟩
                · rw [KR2.out] at h1
                  exact match_le (mkCd_ok Ld hdl 400 (by omega)) (by omega) (by omega) ht1 h1
                · exact absurd (h2.symm.trans e) (er_ne er)
              by_cases hE6 : E6 = 0
              · have := hle hE6
                exact ⟨f, t6, o6, ob6, E6, by omega, KX2.out _ _ _ KS6.out, KB6.out, KM6.out⟩
              · obtain ⟨er, her1, her2⟩ := preD_off (KX2.out _ _ _ KS6.out) hE6
                exact ⟨8 * p.length + 1, t6, o6, ob6, E6, by omega, Or.inr ⟨er, her1, her2⟩, KB6.out, KM6.out⟩
            case measure =>
              rw [eOf_on KB6.out, eOf_on KB.out, tOf_on KB6.out, tOf_on KB.out, if_pos rfl]
              by_cases hE6 : E6 = 0
              · have hle : t1 ≤ t6 := by
                  rcases KS6.out with ⟨h1, -⟩ | ⟨er, -, h2⟩
                  · exact match_le (mkCd_ok Ld hdl 400 (by omega)) (by omega) (by omega) ht1 h1
                  · exact absurd (h2.symm.trans hE6) (er_ne er)
                have h6 := KB6.out.tle
                rw [if_pos hE6]
                omega
              · rw [if_neg hE6]
                omega
      · obtain ⟨er, her1, her2⟩ := preD_off KX1.out hE1
        have KE := Kept.mk her1
        have KE2 := Kept.mk her2
        clear her1 her2 hS1 hz1 hB1 hF1
        go_wp2
        refine bodyPost_ret (results_none rfl _ _ _) rfl ?_
        exact ⟨ob', o, t1, E1, rfl, Or.inr ⟨er, KE.out, KE2.out⟩, KB1.out, KF9.out.mv.trans KM1.out⟩
    · obtain ⟨er, her1, her2⟩ := preD_off KST.out hEk
      have KE := Kept.mk her1
      have KE2 := Kept.mk her2
      clear her1 her2
      go_wp2
      refine bodyPost_end (results_none rfl _ _ _) rfl ?_
      exact ⟨ob', o, tk, Ek, rfl, Or.inr ⟨er, KE.out, KE2.out⟩, KB.out, KF9.out.mv.trans KM.out⟩
end Go.Proofs.YtjijkcmbbccfmaaDoor
