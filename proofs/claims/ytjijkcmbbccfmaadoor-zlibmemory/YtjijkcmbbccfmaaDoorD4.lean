/-
  The document's reader: stored.
-/
import Derived.Test.YtjijkcmbbccfmaaDoorD1
namespace Go.Proofs.YtjijkcmbbccfmaaDoor
open Go.RowKit

/-- No form, if nothing was met. -/
def dfail (E : Int) : Int := if E = 0 then 4 else E
/-- n bytes of a block of way 0. -/
def dstGo (p : List Int) (most : Nat) : Nat → List Int → Nat → Int → List Int × Nat × Int
  | 0, out, t, E => (out, t, E)
  | n + 1, out, t, E => if E ≠ 0 then (out, t, E) else dstGo p most n (dput most (dnum p t E 8).1 out (dnum p t E 8).2.2).1 (dnum p t E 8).2.1 (dput most (dnum p t E 8).1 out (dnum p t E 8).2.2).2
theorem dstGo_off (p : List Int) (most : Nat) (n : Nat) (out : List Int) (t : Nat) (E : Int) (hE : E ≠ 0) : dstGo p most n out t E = (out, t, E) := by
  cases n with
  | zero => rfl
  | succ n => rw [dstGo, if_pos hE]
theorem Bts.cE {W0 w : World} {rb : Nat} {ob : Option Nat} {inV : Value} {p out : List Int} {most t : Nat} {E : Int} (h : Bts W0 w rb ob inV p most out t E) : w.cell? ⟨rb, 4, none⟩ = some (.int .i64 E) := by
  obtain ⟨_, hB, -⟩ := h.blk
  exact hB.c4
set_option maxHeartbeats 1000000 in
set_option maxRecDepth 100000 in
theorem dstored_any {W0 w : World} {rb : Nat} {ob : Option Nat} {inV : Value} {p out : List Int} {most t : Nat} (h : Bts W0 w rb ob inV p most out t 0)
    (n m E2 E3 : Int) (t2 t3 : Nat) (hn : dnum p ((t + 7) / 8 * 8) 0 16 = (n, t2, E2)) (hm : dnum p t2 E2 16 = (m, t3, E3)) :
    Calls Tryd.prog 28 #[.pointer (some ⟨rb, 0, none⟩)] w fun e w' => e = .returned (.tuple #[]) ∧ ∃ ob', Bts W0 w' rb ob' inV p most (dstGo p most n.toNat out t3 (if n + m = 65535 then E3 else dfail E3)).1 (dstGo p most n.toNat out t3 (if n + m = 65535 then E3 else dfail E3)).2.1 (dstGo p most n.toNat out t3 (if n + m = 65535 then E3 else dfail E3)).2.2 ∧ Mv rb ob ob' w w' := by
  have hnr := dnum_range p ((t + 7) / 8 * 8) 0 16
  have hmr := dnum_range p t2 E2 16
  rw [hn] at hnr
  rw [hm] at hmr
  dsimp only at hnr hmr
  obtain ⟨outV, hB, -⟩ := h.blk
  have c1 := hB.c1
  have f1 := hB.fz 1
  have htl := h.tle
  have hlp := h.lp
  obtain ⟨a, ha⟩ : ∃ a, (t + 7) / 8 * 8 = a := ⟨_, rfl⟩
  have hq : ((t : Int) + 7) / 8 * 8 = (a : Int) := by omega
  have hal : a ≤ 8 * p.length := by omega
  rw [ha] at hn
  have KN := Kept.mk hn
  have KM := Kept.mk hm
  have KH := Kept.mk h
  clear h hB hn hm ha
  have K1 := Kept.mk (dnumber_any 16 (by omega) (KH.out.at a hal))
  rw [KN.out] at K1
  dsimp only at K1
  have K2 : Kept (∀ w1, Bts W0 w1 rb ob inV p most out t2 E2 → _) := ⟨fun w1 h1 => dnumber_any 16 (by omega) h1⟩
  rw [KM.out] at K2
  dsimp only at K2
  have KF : Kept (Fr rb ob w (w.setCell ⟨rb, 1, none⟩ (.int .i64 a))) := ⟨(Fr.refl rb ob w).set 1 _⟩
  obtain ⟨n, rfl⟩ := Int.eq_ofNat_of_zero_le hnr.1
  rw [Int.toNat_natCast]
  simp only [Int.reducePow] at hnr hmr
  by_cases hsum : (n : Int) + m = 65535
  · rw [if_pos hsum]
    have hm2 : m = 65535 - (n : Int) := by omega
    subst hm2
    clear hsum
    have hs2 : (n : Int) + (65535 - (n : Int)) = 65535 := by omega
    go_enter Tryd.func28, Tryd.ntmps28
    go_wp2_with fail
    refine Calls.mono K1.out (fun e w1 hp => ?_)
    obtain ⟨rfl, hR1, hF1⟩ := hp
    have K3 := Kept.mk (K2.out w1 hR1)
    have KF1 := Kept.mk (KF.out.trans hF1)
    clear hR1 hF1
    go_wp2_with fail
    refine Calls.mono K3.out (fun e w2 hp => ?_)
    obtain ⟨rfl, hR2, hF2⟩ := hp
    have KR2 := Kept.mk hR2
    have KF2 := Kept.mk (KF1.out.trans hF2)
    clear hR2 hF2
    go_wp2_with fail
    clear c1 f1 hq
    go_loopw [4, 5] (fun s4 _ wr => ∃ (i tk : Nat) (o : List Int) (ob' : Option Nat) (E' : Int), s4 = .int .i64 i ∧ i ≤ n ∧ dstGo p most (n - i) o tk E' = dstGo p most n out t3 (E3) ∧ Bts W0 wr rb ob' inV p most o tk E' ∧ Mv rb ob ob' w wr) (fun s4 _ _ => n - (intOf s4).toNat)
    case atStart => exact ⟨0, t3, out, ob, _, rfl, by omega, rfl, KR2.out, KF2.out.mv⟩
    case round =>
      obtain ⟨i, tk, o, ob', E', rfl, hi, hgo, hR, hM⟩ := hrel
      have c4 := hR.cE
      have KGO := Kept.mk hgo
      have KR := Kept.mk hR
      have KM := Kept.mk hM
      clear hgo hR hM
      by_cases hlt : i < n
      · have hlti : (i : Int) < (n : Int) := by omega
        by_cases hE' : E' = 0
        · subst hE'
          have hG := KGO.out
          rw [show n - i = (n - (i + 1)) + 1 from by omega, dstGo, if_neg (by simp)] at hG
          have hvr := dnum_range p tk 0 8
          have K5 := Kept.mk (dnumber_any 8 (by omega) KR.out)
          rcases hd : dnum p tk 0 8 with ⟨v, t4, E4⟩
          rw [hd] at hG hvr K5
          dsimp only at hG hvr K5
          simp only [Int.reducePow] at hvr
          have KG := Kept.mk hG
          clear hG hd
          go_wp2_with fail
          refine Calls.mono K5.out (fun e w5 hp => ?_)
          obtain ⟨rfl, hR5, hF5⟩ := hp
          have K6 := Kept.mk (dput_any v hvr.1 hvr.2 hR5)
          have KM5 := Kept.mk (KM.out.trans hF5.mv)
          clear hR5 hF5
          go_wp2_with fail
          refine Calls.mono K6.out (fun e w6 hp => ?_)
          obtain ⟨rfl, ob6, hR6, hM6⟩ := hp
          have K7 := Kept.mk hR6
          have K8 := Kept.mk (KM5.out.trans hM6)
          clear hR6 hM6
          go_wp2
          go_roundw
          case rel => exact ⟨i + 1, t4, _, ob6, _, by go_num, by omega, KG.out, K7.out, K8.out⟩
          case measure => simp [intOf]; omega
        · have KE2 := Kept.mk (KGO.out.symm.trans (dstGo_off p most _ o tk E' hE'))
          go_wp2
          refine bodyPost_end (results_none rfl _ _ _) rfl ?_
          rw [KE2.out]
          exact ⟨rfl, ob', KR.out, KM.out⟩
      · have KE2 : Kept (dstGo p most n out t3 (E3) = (o, tk, E')) := ⟨by rw [← KGO.out, show n - i = 0 from by omega, dstGo]⟩
        go_wp2
        refine bodyPost_end (results_none rfl _ _ _) rfl ?_
        rw [KE2.out]
        exact ⟨rfl, ob', KR.out, KM.out⟩
  · rw [if_neg hsum]
    go_enter Tryd.func28, Tryd.ntmps28
    go_wp2_with fail
    refine Calls.mono K1.out (fun e w1 hp => ?_)
    obtain ⟨rfl, hR1, hF1⟩ := hp
    have K3 := Kept.mk (K2.out w1 hR1)
    have KF1 := Kept.mk (KF.out.trans hF1)
    clear hR1 hF1
    go_wp2_with fail
    refine Calls.mono K3.out (fun e w2 hp => ?_)
    obtain ⟨rfl, hR2, hF2⟩ := hp
    have KR2 := Kept.mk hR2
    have KF2 := Kept.mk (KF1.out.trans hF2)
    clear hR2 hF2
    go_wp2_with fail
    refine Calls.mono (dfail_any KR2.out) (fun e w3 hp => ?_)
    obtain ⟨rfl, hR3, hF3⟩ := hp
    have KR3 := Kept.mk hR3
    have KF3 := Kept.mk (KF2.out.trans hF3)
    clear hR3 hF3 KR2 KF2
    have KR2 := KR3
    have KF2 := KF3
    go_wp2_with fail
    clear c1 f1 hq
    go_loopw [4, 5] (fun s4 _ wr => ∃ (i tk : Nat) (o : List Int) (ob' : Option Nat) (E' : Int), s4 = .int .i64 i ∧ i ≤ n ∧ dstGo p most (n - i) o tk E' = dstGo p most n out t3 (dfail E3) ∧ Bts W0 wr rb ob' inV p most o tk E' ∧ Mv rb ob ob' w wr) (fun s4 _ _ => n - (intOf s4).toNat)
    case atStart => exact ⟨0, t3, out, ob, _, rfl, by omega, rfl, KR2.out, KF2.out.mv⟩
    case round =>
      obtain ⟨i, tk, o, ob', E', rfl, hi, hgo, hR, hM⟩ := hrel
      have c4 := hR.cE
      have KGO := Kept.mk hgo
      have KR := Kept.mk hR
      have KM := Kept.mk hM
      clear hgo hR hM
      by_cases hlt : i < n
      · have hlti : (i : Int) < (n : Int) := by omega
        by_cases hE' : E' = 0
        · subst hE'
          have hG := KGO.out
          rw [show n - i = (n - (i + 1)) + 1 from by omega, dstGo, if_neg (by simp)] at hG
          have hvr := dnum_range p tk 0 8
          have K5 := Kept.mk (dnumber_any 8 (by omega) KR.out)
          rcases hd : dnum p tk 0 8 with ⟨v, t4, E4⟩
          rw [hd] at hG hvr K5
          dsimp only at hG hvr K5
          simp only [Int.reducePow] at hvr
          have KG := Kept.mk hG
          clear hG hd
          go_wp2_with fail
          refine Calls.mono K5.out (fun e w5 hp => ?_)
          obtain ⟨rfl, hR5, hF5⟩ := hp
          have K6 := Kept.mk (dput_any v hvr.1 hvr.2 hR5)
          have KM5 := Kept.mk (KM.out.trans hF5.mv)
          clear hR5 hF5
          go_wp2_with fail
          refine Calls.mono K6.out (fun e w6 hp => ?_)
          obtain ⟨rfl, ob6, hR6, hM6⟩ := hp
          have K7 := Kept.mk hR6
          have K8 := Kept.mk (KM5.out.trans hM6)
          clear hR6 hM6
          go_wp2
          go_roundw
          case rel => exact ⟨i + 1, t4, _, ob6, _, by go_num, by omega, KG.out, K7.out, K8.out⟩
          case measure => simp [intOf]; omega
        · have KE2 := Kept.mk (KGO.out.symm.trans (dstGo_off p most _ o tk E' hE'))
          go_wp2
          refine bodyPost_end (results_none rfl _ _ _) rfl ?_
          rw [KE2.out]
          exact ⟨rfl, ob', KR.out, KM.out⟩
      · have KE2 : Kept (dstGo p most n out t3 (dfail E3) = (o, tk, E')) := ⟨by rw [← KGO.out, show n - i = 0 from by omega, dstGo]⟩
        go_wp2
        refine bodyPost_end (results_none rfl _ _ _) rfl ?_
        rw [KE2.out]
        exact ⟨rfl, ob', KR.out, KM.out⟩

open Go.RowKit

/-- Of a symbol the least length, and how many bits more. -/
def dlen (s : Int) : Int × Nat :=
  if s = 285 then (258, 0) else if s < 265 then (s - 254, 0) else (3 + (4 + (s - 261) % 4) * 2 ^ ((s - 261) / 4).toNat, ((s - 261) / 4).toNat)
/-- Of a symbol the least distance, and how many bits more. -/
def ddist (s : Int) : Int × Nat :=
  if s < 4 then (s + 1, 0) else (1 + (2 + s % 2) * 2 ^ (s / 2 - 1).toNat, (s / 2 - 1).toNat)

set_option maxHeartbeats 1000000 in
set_option maxRecDepth 100000 in
theorem dLength_any (w : World) (s : Int) (hs0 : 257 ≤ s) (hs1 : s ≤ 285) :
    Calls Tryd.prog 76 #[.int .i64 s] w fun e w' => e = .returned (.tuple #[.int .i64 (dlen s).1, .int .i64 (dlen s).2]) ∧ w' = w := by
  by_cases h1 : s = 285
  · subst h1
    have KE : Kept (dlen 285 = (258, 0)) := ⟨rfl⟩
    go_enter Tryd.func76, Tryd.ntmps76
    go_wp2
    go_ret2
    rw [KE.out]
    exact ⟨rfl, rfl⟩
  · by_cases h2 : s < 265
    · have KE : Kept (dlen s = (s - 254, 0)) := ⟨by unfold dlen; rw [if_neg h1, if_pos h2]⟩
      have hb : (s == 285) = false := by simp only [beq_eq_false_iff_ne]; exact h1
      go_enter Tryd.func76, Tryd.ntmps76
      go_wp2
      go_ret2
      rw [KE.out]
      exact ⟨rfl, rfl⟩
    · obtain ⟨k, hk⟩ : ∃ k : Nat, (s - 261) / 4 = (k : Int) := ⟨((s - 261) / 4).toNat, by omega⟩
      have KE : Kept (dlen s = (3 + (4 + (s - 261) % 4) * 2 ^ k, k)) := ⟨by unfold dlen; rw [if_neg h1, if_neg h2, hk, Int.toNat_natCast]⟩
      have hb : (s == 285) = false := by simp only [beq_eq_false_iff_ne]; exact h1
      have hk5 : k ≤ 5 := by omega
      have hr : 0 ≤ (s - 261) % 4 ∧ (s - 261) % 4 < 4 := by omega
      have hd3 : (s - 261).tdiv 4 = (k : Int) := by rw [Int.tdiv_eq_ediv_of_nonneg (by omega)]; exact hk
      have hd4 : (s - 261).tmod 4 = (s - 261) % 4 := Int.tmod_eq_emod_of_nonneg (by omega)
      have hp : (2 : Int) ^ k ≤ 32 := pow2_le (b := 5) hk5
      have hp0 : (0 : Int) < 2 ^ k := Int.pow_pos (by omega)
      have hx : (4 + (s - 261) % 4) * 2 ^ k ≤ 8 * 32 := Int.mul_le_mul (by omega) hp (by omega) (by omega)
      have hx0 : 0 ≤ (4 + (s - 261) % 4) * 2 ^ k := Int.mul_nonneg (by omega) (by omega)
      go_enter Tryd.func76, Tryd.ntmps76
      go_wp2
      go_ret2
      rw [KE.out]
      exact ⟨rfl, rfl⟩

set_option maxHeartbeats 1000000 in
set_option maxRecDepth 100000 in
theorem dDistance_any (w : World) (s : Int) (hs0 : 0 ≤ s) (hs1 : s ≤ 29) :
    Calls Tryd.prog 77 #[.int .i64 s] w fun e w' => e = .returned (.tuple #[.int .i64 (ddist s).1, .int .i64 (ddist s).2]) ∧ w' = w := by
  by_cases h2 : s < 4
  · have KE : Kept (ddist s = (s + 1, 0)) := ⟨by unfold ddist; rw [if_pos h2]⟩
    go_enter Tryd.func77, Tryd.ntmps77
    go_wp2
    go_ret2
    rw [KE.out]
    exact ⟨rfl, rfl⟩
  · obtain ⟨k, hk⟩ : ∃ k : Nat, s / 2 - 1 = (k : Int) := ⟨(s / 2 - 1).toNat, by omega⟩
    have KE : Kept (ddist s = (1 + (2 + s % 2) * 2 ^ k, k)) := ⟨by unfold ddist; rw [if_neg h2, hk, Int.toNat_natCast]⟩
    have hk5 : k ≤ 13 := by omega
    have hr : 0 ≤ s % 2 ∧ s % 2 < 2 := by omega
    have hd3 : s.tdiv 2 = s / 2 := Int.tdiv_eq_ediv_of_nonneg (by omega)
    have hd4 : s.tmod 2 = s % 2 := Int.tmod_eq_emod_of_nonneg (by omega)
    have hp : (2 : Int) ^ k ≤ 8192 := pow2_le (b := 13) hk5
    have hp0 : (0 : Int) < 2 ^ k := Int.pow_pos (by omega)
    have hx : (2 + s % 2) * 2 ^ k ≤ 4 * 8192 := Int.mul_le_mul (by omega) hp (by omega) (by omega)
    have hx0 : 0 ≤ (2 + s % 2) * 2 ^ k := Int.mul_nonneg (by omega) (by omega)
    go_enter Tryd.func77, Tryd.ntmps77
    go_wp2
    go_ret2
    rw [KE.out]
    exact ⟨rfl, rfl⟩

open Go.RowKit

/-- What the lengths above 0 fill, how many they are, the last of them. -/
def dsum : List Int → Int
  | [] => 0
  | n :: l => (if 0 < n then 2 ^ (15 - n).toNat else 0) + dsum l
def dcnt : List Int → Int
  | [] => 0
  | n :: l => (if 0 < n then 1 else 0) + dcnt l
def dlast : List Int → Int → Int
  | [], f => f
  | n :: l, f => dlast l (if 0 < n then n else f)
def dright (l : List Int) (none_ : Bool) : Bool := decide (dsum l = 32768) || (decide (dcnt l = 1) && decide (dlast l 0 = 1)) || (none_ && decide (dcnt l = 0))
theorem dsum_range : ∀ l : List Int, 0 ≤ dsum l ∧ dsum l ≤ 32768 * l.length
  | [] => by simp [dsum]
  | n :: l => by
    have ih := dsum_range l
    rw [dsum, List.length_cons]
    split
    · have hp : (2 : Int) ^ (15 - n).toNat ≤ 32768 := pow2_le (b := 15) (by omega)
      have hp0 : (0 : Int) < 2 ^ (15 - n).toNat := Int.pow_pos (by omega)
      omega
    · omega
theorem dcnt_range : ∀ l : List Int, 0 ≤ dcnt l ∧ dcnt l ≤ l.length
  | [] => by simp [dcnt]
  | n :: l => by
    have ih := dcnt_range l
    rw [dcnt, List.length_cons]
    split <;> omega

set_option maxHeartbeats 1000000 in
set_option maxRecDepth 100000 in
theorem dright_any {S : Nat → Prop} (w : World) (v : Value) (l : List Int) (none_ : Bool) (hl : AllIn 0 16 l) (hn : l.length ≤ 1000) (hr : Rd .i64 S w v l) :
    Calls Tryd.prog 58 #[v, .bool none_] w fun e w' => e = .returned (.bool (dright l none_)) ∧ w' = w := by
  obtain ⟨va, vc, rfl, -, hlc, hcm⟩ := hr.form
  have KR := Kept.mk hr
  have KL := Kept.mk hl
  clear hr hl hcm
  go_enter Tryd.func58, Tryd.ntmps58
  go_wp2
  go_loopw [5, 6, 7, 12, 9] (fun s5 s6 s7 s12 _ wr => wr = w ∧ ∃ (k : Nat) (z c f : Int), k ≤ l.length ∧ s12 = .int .i64 k ∧ s5 = .int .i64 z ∧ s6 = .int .i64 c ∧ s7 = .int .i64 f ∧ z + dsum (l.drop k) = dsum l ∧ c + dcnt (l.drop k) = dcnt l ∧ dlast (l.drop k) f = dlast l 0 ∧ 0 ≤ z ∧ 0 ≤ c) (fun _ _ _ s12 _ _ => l.length - (intOf s12).toNat)
  case atStart => exact ⟨rfl, 0, 0, 0, 0, by omega, rfl, rfl, rfl, rfl, by simp, by simp, by simp, by omega, by omega⟩
  case round =>
    obtain ⟨rfl, k, z, c, f, hk, rfl, rfl, rfl, rfl, hz, hc, hf, hz0, hc0⟩ := hrel
    by_cases hlt : k < l.length
    · have hlti : (k : Int) < (l.length : Int) := by omega
      obtain ⟨b, off, cc, hva, -, -, -, -, hcells⟩ := KR.out.open (by omega)
      injection hva with hva1 hva2 hva3
      subst hva1
      have ck := hcells k hlt
      have hd : l.drop k = l.getD k 0 :: l.drop (k + 1) := by
        rw [List.drop_eq_getElem_cons hlt]
        simp [List.getD, List.getElem?_eq_getElem hlt]
      rw [hd, dsum] at hz
      rw [hd, dcnt] at hc
      rw [hd, dlast] at hf
      have hby := KL.out.getD (by omega) k
      have hb1 := dsum_range (l.drop (k + 1))
      have hb2 := dsum_range l
      have hb3 := dcnt_range (l.drop (k + 1))
      have hb4 := dcnt_range l
      clear hd hcells
      generalize l.getD k 0 = x at *
      by_cases hx : 0 < x
      · obtain ⟨j, hj⟩ : ∃ j : Nat, 15 - x = (j : Int) := ⟨(15 - x).toNat, by omega⟩
        have hp0 : (0 : Int) < 2 ^ j := Int.pow_pos (by omega)
        have hp : (2 : Int) ^ j ≤ 32768 := pow2_le (b := 15) (by omega)
        rw [if_pos hx, hj, Int.toNat_natCast] at hz
        rw [if_pos hx] at hc hf
        have hzz : z ≤ 100000000 := by omega
        have hcc : c ≤ 100000000 := by omega
        have KZ := Kept.mk hz
        have KC := Kept.mk hc
        have KF := Kept.mk hf
        clear hz hc hf hb1 hb2 hb3 hb4
        go_wp2
        go_roundw
        case rel => exact ⟨trivial, k + 1, z + 2 ^ j, c + 1, x, by omega, by go_num, rfl, rfl, rfl, by rw [← KZ.out]; omega, by rw [← KC.out]; omega, KF.out, by omega, by omega⟩
        case measure => simp [intOf]; omega
      · rw [if_neg hx] at hz hc hf
        have KZ := Kept.mk hz
        have KC := Kept.mk hc
        have KF := Kept.mk hf
        clear hz hc hf hb1 hb2 hb3 hb4
        go_wp2
        go_roundw
        case rel => exact ⟨trivial, k + 1, z, c, f, by omega, by go_num, rfl, rfl, rfl, by rw [← KZ.out]; omega, by rw [← KC.out]; omega, KF.out, by omega, by omega⟩
        case measure => simp [intOf]; omega
    · have hd : l.drop k = [] := List.eq_nil_of_length_eq_zero (by simp; omega)
      rw [hd] at hz hc hf
      simp only [dsum, dcnt, dlast, Int.add_zero] at hz hc hf
      have KE : Kept (dright l none_ = (decide (z = 32768) || (decide (c = 1) && decide (f = 1)) || (none_ && decide (c = 0)))) := ⟨by unfold dright; rw [hz, hc, hf]⟩
      clear hz hc hf hd
      go_wp2
      all_goals go_ret
      all_goals rw [KE.out]
      all_goals refine ⟨ret_bool ?_, rfl⟩
      all_goals clear KE KL KR
      all_goals first | (simp [*]; done) | (rename_i h1 h2 h3; rw [h3, Bool.eq_iff_iff]; simp [h1, h2]; done) | (rename_i h1 h2 h3; rw [Bool.eq_iff_iff]; simp [h1, h2, h3]; done)

open Go.RowKit

theorem dnum_ok {p : List Int} {n t : Nat} {v : Int} {t' : Nat} (h : numF p n t = .ok v t') : dnum p t 0 n = (v, t', 0) := by
  unfold numF at h
  split at h
  · next hle =>
    injection h with h1 h2
    rw [dnum_on p t n hle, h1, h2]
  · cases h
theorem dnum_bad {p : List Int} {n t : Nat} {er : Er} (ht : t ≤ 8 * p.length) (h : numF p n t = .bad er) : er = .short ∧ (dnum p t 0 n).2 = (8 * p.length, 5) := by
  unfold numF at h
  split at h
  · cases h
  · next hle =>
    injection h with h1
    exact ⟨h1.symm, dnum_short p t ht n (by omega)⟩
theorem numF_le {p : List Int} {n t : Nat} {v : Int} {t' : Nat} (h : numF p n t = .ok v t') : t' ≤ 8 * p.length := by
  unfold numF at h
  split at h
  · next hle =>
    injection h with h1 h2
    omega
  · cases h

/-- The program's result and the document's state say the same. -/
def Same (r : Rs (List Int)) (d : List Int × Nat × Int) : Prop :=
  match r with
  | .ok o t => d = (o, t, 0)
  | .bad er => d.2.2 = er.v

theorem dstGo_same (p : List Int) (most : Nat) : ∀ (n : Nat) (out : List Int) (t : Nat), t ≤ 8 * p.length → Same (storedGo p most n out t) (dstGo p most n out t 0)
  | 0, out, t, _ => rfl
  | n + 1, out, t, ht => by
    rw [storedGo, dstGo, if_neg (by simp)]
    rcases hq : numF p 8 t with ⟨v, t'⟩ | er
    · rw [dnum_ok hq]
      dsimp only
      by_cases hf : most ≤ out.length
      · have e : dput most v out 0 = (out, 10) := by simp [dput, hf]
        rw [if_pos hf, e, dstGo_off p most n out t' 10 (by omega)]
        rfl
      · have e : dput most v out 0 = (out ++ [v], 0) := by simp [dput, hf]
        rw [if_neg hf, e]
        exact dstGo_same p most n (out ++ [v]) t' (numF_le hq)
    · obtain ⟨rfl, h2⟩ := dnum_bad ht hq
      rw [h2]
      dsimp only
      have e : dput most (dnum p t 0 8).1 out 5 = (out, 5) := by simp [dput]
      rw [e, dstGo_off p most n out _ 5 (by omega)]
      rfl

theorem dstored_same (p : List Int) (most : Nat) (out : List Int) (t : Nat) (ht : t ≤ 8 * p.length) (n m E2 E3 : Int) (t2 t3 : Nat)
    (hn : dnum p ((t + 7) / 8 * 8) 0 16 = (n, t2, E2)) (hm : dnum p t2 E2 16 = (m, t3, E3)) :
    Same (storedF p most out t) (dstGo p most n.toNat out t3 (if n + m = 65535 then E3 else dfail E3)) := by
  have ha : (t + 7) / 8 * 8 ≤ 8 * p.length := by omega
  unfold storedF
  rcases hq : numF p 16 ((t + 7) / 8 * 8) with ⟨l, t1⟩ | er
  · rw [dnum_ok hq] at hn
    injection hn with h1 h2
    injection h2 with h2 h3
    subst h1 h2 h3
    dsimp only
    rcases hq2 : numF p 16 t1 with ⟨k, t4⟩ | er2
    · rw [dnum_ok hq2] at hm
      injection hm with h1 h2
      injection h2 with h2 h3
      subst h1 h2 h3
      dsimp only
      by_cases hs : l + k = 65535
      · rw [if_pos hs, if_pos (by omega)]
        exact dstGo_same p most _ out _ (numF_le hq2)
      · rw [if_neg hs, if_neg (by omega), dstGo_off _ _ _ _ _ _ (by simp [dfail])]
        rfl
    · obtain ⟨rfl, h2⟩ := dnum_bad (numF_le hq) hq2
      rw [hm] at h2
      injection h2 with h2 h3
      subst h2 h3
      have e : (if l + m = 65535 then (5 : Int) else dfail 5) = 5 := by simp [dfail]
      dsimp only
      rw [e, dstGo_off _ _ _ _ _ _ (by omega)]
      rfl
  · obtain ⟨rfl, h2⟩ := dnum_bad ha hq
    rw [hn] at h2
    injection h2 with h2 h3
    subst h2 h3
    rw [dnum_off p _ 5 (by omega) 16] at hm
    injection hm with h1 h2
    injection h2 with h2 h3
    subst h1 h2 h3
    have e : (if n + 0 = 65535 then (5 : Int) else dfail 5) = 5 := by simp [dfail]
    dsimp only
    rw [e, dstGo_off _ _ _ _ _ _ (by omega)]
    rfl
end Go.Proofs.YtjijkcmbbccfmaaDoor
