/-
  The document's reader: numbers and symbols, with the program's result.
-/
import Derived.Test.YtjijkcmbbccfmaaDoorDS
namespace Go.Proofs.YtjijkcmbbccfmaaDoor
open Go.RowKit

/-- The document's state says what the program's result says. -/
def StD {α : Type} (R : Rs α) (a : α) (t : Nat) (E : Int) : Prop := (R = .ok a t ∧ E = 0) ∨ ∃ er : Er, R = .bad er ∧ E = er.v
/-- Ahead of a step F: nothing was met, or what was met is the result. -/
def PreD {α : Type} (R F : Rs α) (E : Int) : Prop := (E = 0 ∧ R = F) ∨ ∃ er : Er, R = .bad er ∧ E = er.v
theorem er_ne (er : Er) : er.v ≠ 0 := by
  have := er.rng
  omega

theorem dnumR {W0 w : World} {rb : Nat} {ob : Option Nat} {inV : Value} {p out : List Int} {most t : Nat} {E : Int} {R : Rs Int} (n : Nat) (hn : n ≤ 16) (hR : PreD R (numF p n t) E) (h : Bts W0 w rb ob inV p most out t E) :
    Calls Tryd.prog 27 #[.pointer (some ⟨rb, 0, none⟩), .int .i64 n] w fun e w' => ∃ v t' E', e = .returned (.int .i64 v) ∧ (0 ≤ v ∧ v < 2 ^ n) ∧ StD R v t' E' ∧ Bts W0 w' rb ob inV p most out t' E' ∧ Fr rb ob w w' := by
  refine Calls.mono (dnumber_any n hn h) (fun e w' hp => ?_)
  obtain ⟨rfl, hB, hF⟩ := hp
  refine ⟨_, _, _, rfl, dnum_range p t E n, ?_, hB, hF⟩
  rcases hR with ⟨rfl, rfl⟩ | ⟨er, rfl, rfl⟩
  · rcases hq : numF p n t with ⟨v, t'⟩ | er
    · rw [dnum_ok hq]
      exact Or.inl ⟨rfl, rfl⟩
    · obtain ⟨rfl, h2⟩ := dnum_bad h.tle hq
      exact Or.inr ⟨_, rfl, by rw [h2]; rfl⟩
  · rw [dnum_off p t _ (er_ne er)]
    exact Or.inr ⟨er, rfl, rfl⟩

theorem dbitR {W0 w : World} {rb : Nat} {ob : Option Nat} {inV : Value} {p out : List Int} {most t : Nat} {E : Int} {R : Rs Int} (hR : PreD R (numF p 1 t) E) (h : Bts W0 w rb ob inV p most out t E) :
    Calls Tryd.prog 26 #[.pointer (some ⟨rb, 0, none⟩)] w fun e w' => ∃ v t' E', e = .returned (.int .i64 v) ∧ (0 ≤ v ∧ v ≤ 1) ∧ StD R v t' E' ∧ Bts W0 w' rb ob inV p most out t' E' ∧ Fr rb ob w w' := by
  refine Calls.mono (dbit_any h) (fun e w' hp => ?_)
  obtain ⟨rfl, hB, hF⟩ := hp
  refine ⟨_, _, _, rfl, dbit_range p t E, ?_, hB, hF⟩
  rcases hR with ⟨rfl, rfl⟩ | ⟨er, rfl, rfl⟩
  · by_cases ht : t < 8 * p.length
    · have e1 : dbit p t 0 = (bitF p t, t + 1, 0) := by simp [dbit, ht]
      have e2 : numF p 1 t = .ok (bitF p t) (t + 1) := by
        unfold numF
        rw [if_pos (by omega)]
        simp [valF]
      rw [e1, e2]
      exact Or.inl ⟨rfl, rfl⟩
    · have e1 : dbit p t 0 = (0, t, 5) := by simp [dbit, ht]
      have e2 : numF p 1 t = .bad .short := by
        unfold numF
        rw [if_neg (by omega)]
      rw [e1, e2]
      exact Or.inr ⟨.short, rfl, rfl⟩
  · have hne := er_ne er
    have e1 : dbit p t er.v = (0, t, er.v) := by simp [dbit, hne]
    rw [e1]
    exact Or.inr ⟨er, rfl, rfl⟩

theorem drop_getD (cs : List Int) (n : Nat) (h : n < cs.length) : cs.drop n = cs.getD n 0 :: cs.drop (n + 1) := by
  rw [List.drop_eq_getElem_cons h]
  simp [List.getD, List.getElem?_eq_getElem h]

set_option maxHeartbeats 2000000 in
set_option maxRecDepth 100000 in
theorem dsymbol_lit {W0 w : World} {rb : Nat} {ob : Option Nat} {inV : Value} {p out : List Int} {most t : Nat} {E : Int} {R : Rs Int} {syms : List Int} {sv : Value} (y0 y1 y2 y3 y4 y5 y6 y7 y8 y9 y10 y11 y12 y13 y14 y15 : Int) (cs : List Int) (hcs : cs = [y0, y1, y2, y3, y4, y5, y6, y7, y8, y9, y10, y11, y12, y13, y14, y15])
    (hcn : AllIn 0 1000 cs) (hsum : (cs.drop 1).sum = syms.length) (hfew : syms.length ≤ 1000) (hs : Rd .i64 (Sep rb ob) w sv syms) (hR : PreD R (dGo p syms (cs.drop 1) 0 0 t) E) (h : Bts W0 w rb ob inV p most out t E) :
    Calls Tryd.prog 55 #[.pointer (some ⟨rb, 0, none⟩), .agg #[sv, .int .i64 y0, .int .i64 y1, .int .i64 y2, .int .i64 y3, .int .i64 y4, .int .i64 y5, .int .i64 y6, .int .i64 y7, .int .i64 y8, .int .i64 y9, .int .i64 y10, .int .i64 y11, .int .i64 y12, .int .i64 y13, .int .i64 y14, .int .i64 y15]] w fun e w' => ∃ v t' E', e = .returned (.int .i64 v) ∧ StD R v t' E' ∧ (E' ≠ 0 → v = 0) ∧ Bts W0 w' rb ob inV p most out t' E' ∧ Fr rb ob w w' := by
  obtain ⟨sa, sc, rfl, -, hslc, hscm⟩ := hs.form
  have hlen : cs.length = 16 := by rw [hcs]; rfl
  have hrb := h.rb_lt
  have hoblt := h.ob_ge
  have hTT : TT (w.alloc (.cells #[.slice sa syms.length sc, .int .i64 y0, .int .i64 y1, .int .i64 y2, .int .i64 y3, .int .i64 y4, .int .i64 y5, .int .i64 y6, .int .i64 y7, .int .i64 y8, .int .i64 y9, .int .i64 y10, .int .i64 y11, .int .i64 y12, .int .i64 y13, .int .i64 y14, .int .i64 y15] 84)) w.heap.size (.slice sa syms.length sc) cs := by
    unfold TT
    rw [hcs]
    exact heap_alloc_new w _
  have hX : ∀ wr, Fr rb ob (w.alloc (.cells #[.slice sa syms.length sc, .int .i64 y0, .int .i64 y1, .int .i64 y2, .int .i64 y3, .int .i64 y4, .int .i64 y5, .int .i64 y6, .int .i64 y7, .int .i64 y8, .int .i64 y9, .int .i64 y10, .int .i64 y11, .int .i64 y12, .int .i64 y13, .int .i64 y14, .int .i64 y15] 84)) wr → TT wr w.heap.size (.slice sa syms.length sc) cs := by
    intro wr hf
    exact hTT.far (hf.block w.heap.size (by simp) (by omega) (fun e => by have := (hoblt _ e.symm).2; omega))
  have hw1 : Bts W0 (w.alloc (.cells #[.slice sa syms.length sc, .int .i64 y0, .int .i64 y1, .int .i64 y2, .int .i64 y3, .int .i64 y4, .int .i64 y5, .int .i64 y6, .int .i64 y7, .int .i64 y8, .int .i64 y9, .int .i64 y10, .int .i64 y11, .int .i64 y12, .int .i64 y13, .int .i64 y14, .int .i64 y15] 84)) rb ob inV p most out t E := h.far ((Below.refl _ w).alloc (Nat.le_refl _) _)
  have hsy : ∀ wr, Fr rb ob (w.alloc (.cells #[.slice sa syms.length sc, .int .i64 y0, .int .i64 y1, .int .i64 y2, .int .i64 y3, .int .i64 y4, .int .i64 y5, .int .i64 y6, .int .i64 y7, .int .i64 y8, .int .i64 y9, .int .i64 y10, .int .i64 y11, .int .i64 y12, .int .i64 y13, .int .i64 y14, .int .i64 y15] 84)) wr → Rd .i64 (Sep rb ob) wr (.slice sa syms.length sc) syms := by
    intro wr hf
    exact hs.far (Nat.le_trans (by simp) hf.size) fun b hb hS => ⟨hS, by rw [hf.block b (by simp; omega) hS.1 hS.2, Below.heap_alloc _ _ _ hb]⟩
  have KX := Kept.mk hX
  have KY := Kept.mk hsy
  have K1 := Kept.mk hw1
  have KN := Kept.mk hcn
  have KR0 := Kept.mk hR
  have KSU := Kept.mk hsum
  have KL := Kept.mk hlen
  clear hX hsy hw1 hcn hR hsum hcs hTT h hs hrb hoblt hscm hlen
  go_enter Tryd.func55, Tryd.ntmps55
  go_wp2
  go_loopw [5, 6, 7, 8] (fun s5 s6 s7 s8 wr => ∃ (n tk : Nat) (code first at_ E' : Int), 1 ≤ n ∧ n ≤ 16 ∧ s5 = .int .i64 code ∧ s6 = .int .i64 first ∧ s7 = .int .i64 at_ ∧ s8 = .int .i64 n ∧ (0 ≤ code ∧ code < 2 ^ (n - 1)) ∧ (0 ≤ first ∧ first ≤ 1000 * (2 ^ (n - 1) - 1)) ∧ 0 ≤ at_ ∧ at_ + (cs.drop n).sum = syms.length ∧ ((E' = 0 ∧ 0 ≤ code - first ∧ R = dGo p syms (cs.drop n) (code - first) at_ tk) ∨ ∃ er : Er, R = .bad er ∧ E' = er.v) ∧ Bts W0 wr rb ob inV p most out tk E' ∧ Fr rb ob (w.alloc (.cells #[.slice sa syms.length sc, .int .i64 y0, .int .i64 y1, .int .i64 y2, .int .i64 y3, .int .i64 y4, .int .i64 y5, .int .i64 y6, .int .i64 y7, .int .i64 y8, .int .i64 y9, .int .i64 y10, .int .i64 y11, .int .i64 y12, .int .i64 y13, .int .i64 y14, .int .i64 y15] 84)) wr) (fun _ _ _ s8 _ => 16 - (intOf s8).toNat)
  case atStart =>
    refine ⟨1, t, 0, 0, 0, E, by omega, by omega, rfl, rfl, rfl, rfl, by simp, by simp, by omega, by rw [KSU.out]; simp, ?_, K1.out, Fr.refl _ _ _⟩
    rcases KR0.out with ⟨h1, h2⟩ | h1
    · exact Or.inl ⟨h1, by omega, h2⟩
    · exact Or.inr h1
  case round =>
    obtain ⟨n, tk, code, first, at_, E', hn1, hn2, rfl, rfl, rfl, rfl, hcode, hfirst, ha0, hsu, hst, hB, hF⟩ := hrel
    clear KR0 KSU
    have KB := Kept.mk hB
    have KF := Kept.mk hF
    have KST := Kept.mk hst
    have KSUM := Kept.mk hsu
    have hpk : (2 : Int) ^ (n - 1) ≤ 32768 := pow2_le (b := 15) (by omega)
    clear hB hF hst hsu
    by_cases hlt : n ≤ 15
    · have hli : (n : Int) ≤ 15 := by omega
      have c0 := (KX.out wr KF.out).c0
      by_cases hend : at_ = syms.length
      · have KFA := Kept.mk (dfail_any KB.out)
        go_wp2_with (go_at_call 32; refine Calls.mono KFA.out (fun e w1 hp => ?_); obtain ⟨rfl, hB1, hF1⟩ := hp; have KB1 := Kept.mk hB1; have KF1 := Kept.mk hF1; clear hB1 hF1)
        go_ret
        refine ⟨0, tk, _, rfl, ?_, fun _ => rfl, KB1.out, ((Fr.refl rb ob w).alloc _).trans (KF.out.trans KF1.out)⟩
        rcases KST.out with ⟨rfl, -, h2⟩ | ⟨er, h1, rfl⟩
        · refine Or.inr ⟨.form, ?_, by simp; rfl⟩
          rw [h2, drop_getD cs n (by rw [KL.out]; omega), dGo, if_pos hend]
        · exact Or.inr ⟨er, h1, by rw [if_neg (er_ne er)]⟩
      · have hd := drop_getD cs n (by rw [KL.out]; omega)
        have hcr := KN.out.getD (by omega) n
        have hrest := (sum_zero (cs.drop (n + 1)) (fun x hx => (KN.out x (List.mem_of_mem_drop hx)).1)).1
        have hS := KSUM.out
        rw [hd, List.sum_cons] at hS
        obtain ⟨R1, hR1, hR1b⟩ : ∃ R1 : Rs Int, PreD R1 (numF p 1 tk) E' ∧ ((E' = 0 ∧ 0 ≤ code - first ∧ R1 = numF p 1 tk ∧ R = dGo p syms (cs.drop n) (code - first) at_ tk) ∨ ∃ er : Er, R = .bad er ∧ R1 = .bad er) := by
          rcases KST.out with ⟨h1, h2, h3⟩ | ⟨er, h1, h2⟩
          · exact ⟨numF p 1 tk, Or.inl ⟨h1, rfl⟩, Or.inl ⟨h1, h2, rfl, h3⟩⟩
          · exact ⟨.bad er, Or.inr ⟨er, rfl, h2⟩, Or.inr ⟨er, h1, rfl⟩⟩
        have KBI := Kept.mk (dbitR hR1 KB.out)
        have KR1 := Kept.mk hR1b
        have KD := Kept.mk hd
        clear hd hR1 hR1b
        have KCN : Kept (∀ w1, Fr rb ob (w.alloc (.cells #[.slice sa syms.length sc, .int .i64 y0, .int .i64 y1, .int .i64 y2, .int .i64 y3, .int .i64 y4, .int .i64 y5, .int .i64 y6, .int .i64 y7, .int .i64 y8, .int .i64 y9, .int .i64 y10, .int .i64 y11, .int .i64 y12, .int .i64 y13, .int .i64 y14, .int .i64 y15] 84)) w1 → w1.cell? ⟨w.heap.size, 1 + n, none⟩ = some (.int .i64 (cs.getD n 0))) := ⟨fun w1 hf => (KX.out w1 hf).cn n (by rw [KL.out]; omega)⟩
        generalize cs.getD n 0 = cn at *
        go_wp2_with fail
        refine Calls.mono KBI.out (fun e w1 hp => ?_)
        obtain ⟨b, t1, E1, rfl, hb, hS1, hB1, hF1⟩ := hp
        have hFF := KF.out.trans hF1
        have cc := KCN.out w1 hFF
        have c0' := (KX.out w1 hFF).c0
        have cE := hB1.cE
        have KB1 := Kept.mk hB1
        have KF1 := Kept.mk hFF
        have KS1 := Kept.mk hS1
        clear hB1 hF1 hFF hS1 c0
        by_cases hE1 : E1 = 0
        · subst hE1
          obtain ⟨hk0, hRR⟩ : 0 ≤ code - first ∧ R = (if 2 * (code - first) + b < cn then .ok (syms.getD (at_ + (2 * (code - first) + b)).toNat 0) t1 else dGo p syms (cs.drop (n + 1)) (2 * (code - first) + b - cn) (at_ + cn) t1) := by
            rcases KS1.out with ⟨h1, -⟩ | ⟨er, -, h2⟩
            · rcases KR1.out with ⟨h3, h4, h5, h6⟩ | ⟨er, -, h5⟩
              · refine ⟨h4, ?_⟩
                rw [h6, KD.out, dGo, if_neg hend, ← h5, h1]
              · rw [h5] at h1
                cases h1
            · exact absurd h2.symm (er_ne er)
          have KRR := Kept.mk hRR
          clear hRR
          by_cases hin : 2 * (code - first) + b < cn
          · obtain ⟨sb, so, sc', hsv, hsb, -, -, hss, hscell⟩ := (KY.out w1 KF1.out).open (by omega)
            injection hsv with hsv1 hsv2 hsv3
            subst hsv1 hsv3
            clear hsv2
            obtain ⟨j, hj, hjl⟩ : ∃ j : Nat, at_ + (2 * (code - first) + b) = j ∧ j < syms.length := ⟨(at_ + (2 * (code - first) + b)).toNat, by omega, by omega⟩
            have hcj := hscell j hjl
            have hji : (j : Int) < (syms.length : Int) := by omega
            have hjj : at_ + (2 * code + b - first * 2) = j := by omega
            have hRj := KRR.out
            rw [if_pos hin, hj, Int.toNat_natCast] at hRj
            have KRj := Kept.mk hRj
            have hin2 : 2 * code + b - first * 2 < cn := by omega
            have hin3 : 0 ≤ 2 * code + b - first * 2 := by omega
            clear hscell hss hRj
            generalize syms.getD j 0 = y at *
            go_wp2
            go_ret
            exact ⟨y, t1, 0, rfl, Or.inl ⟨KRj.out, rfl⟩, fun h => absurd rfl h, KB1.out, ((Fr.refl rb ob w).alloc _).trans KF1.out⟩
          · have hRj := KRR.out
            rw [if_neg hin] at hRj
            have KRj := Kept.mk hRj
            have hin2 : ¬ 2 * code + b - first * 2 < cn := by omega
            have hin3 : 0 ≤ 2 * code + b - first * 2 := by omega
            have hp2 : (2 : Int) ^ (n + 1 - 1) = 2 ^ (n - 1) * 2 := by rw [← Int.pow_succ]; congr 1; omega
            clear hRj
            go_wp2
            go_roundw
            case rel =>
              refine ⟨n + 1, t1, 2 * code + b, first * 2 + cn, at_ + cn, 0, by omega, by omega, rfl, rfl, rfl, by go_num, by rw [hp2]; omega, by rw [hp2]; omega, by omega, by omega, Or.inl ⟨rfl, by omega, ?_⟩, KB1.out, KF1.out⟩
              rw [KRj.out]
              congr 1
              omega
            case measure => simp [intOf]; omega
        · obtain ⟨er, hRe, hEe⟩ : ∃ er : Er, R = .bad er ∧ E1 = er.v := by
            rcases KS1.out with ⟨-, h2⟩ | ⟨er, h1, h2⟩
            · exact absurd h2 hE1
            · rcases KR1.out with ⟨h3, h4, h5, h6⟩ | ⟨er', h7, h8⟩
              · refine ⟨er, ?_, h2⟩
                rw [h6, KD.out, dGo, if_neg hend, ← h5, h1]
              · rw [h8] at h1
                injection h1 with h1
                subst h1
                exact ⟨er', h7, h2⟩
          have KRe := Kept.mk hRe
          have KEe := Kept.mk hEe
          have hp2 : (2 : Int) ^ (n + 1 - 1) = 2 ^ (n - 1) * 2 := by rw [← Int.pow_succ]; congr 1; omega
          clear hRe hEe
          by_cases hin3 : 0 ≤ 2 * code + b - first * 2
          · by_cases hin2 : 2 * code + b - first * 2 < cn
            · go_wp2
              go_roundw
              case rel => exact ⟨n + 1, t1, 2 * code + b, first * 2 + cn, at_ + cn, E1, by omega, by omega, rfl, rfl, rfl, by go_num, by rw [hp2]; omega, by rw [hp2]; omega, by omega, by omega, Or.inr ⟨er, KRe.out, KEe.out⟩, KB1.out, KF1.out⟩
              case measure => simp [intOf]; omega
            · go_wp2
              go_roundw
              case rel => exact ⟨n + 1, t1, 2 * code + b, first * 2 + cn, at_ + cn, E1, by omega, by omega, rfl, rfl, rfl, by go_num, by rw [hp2]; omega, by rw [hp2]; omega, by omega, by omega, Or.inr ⟨er, KRe.out, KEe.out⟩, KB1.out, KF1.out⟩
              case measure => simp [intOf]; omega
          · go_wp2
            go_roundw
            case rel => exact ⟨n + 1, t1, 2 * code + b, first * 2 + cn, at_ + cn, E1, by omega, by omega, rfl, rfl, rfl, by go_num, by rw [hp2]; omega, by rw [hp2]; omega, by omega, by omega, Or.inr ⟨er, KRe.out, KEe.out⟩, KB1.out, KF1.out⟩
            case measure => simp [intOf]; omega
    · have hn16 : n = 16 := by omega
      subst hn16
      have KFA := Kept.mk (dfail_any KB.out)
      go_wp2_with (go_at_call 32; refine Calls.mono KFA.out (fun e w1 hp => ?_); obtain ⟨rfl, hB1, hF1⟩ := hp; have KB1 := Kept.mk hB1; have KF1 := Kept.mk hF1; clear hB1 hF1)
      go_ret
      refine ⟨0, tk, _, rfl, ?_, fun _ => rfl, KB1.out, ((Fr.refl rb ob w).alloc _).trans (KF.out.trans KF1.out)⟩
      rcases KST.out with ⟨rfl, -, h2⟩ | ⟨er, h1, rfl⟩
      · refine Or.inr ⟨.form, ?_, by simp; rfl⟩
        rw [h2, List.drop_eq_nil_of_le (by rw [KL.out]; omega), dGo]
      · exact Or.inr ⟨er, h1, by rw [if_neg (er_ne er)]⟩
end Go.Proofs.YtjijkcmbbccfmaaDoor
