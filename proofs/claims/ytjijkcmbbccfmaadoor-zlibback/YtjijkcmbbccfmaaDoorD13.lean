/-
  The document's reader: next.
-/
import Derived.Test.YtjijkcmbbccfmaaDoorD12
namespace Go.Proofs.YtjijkcmbbccfmaaDoor
open Go.RowKit
set_option linter.unusedVariables false

theorem Bts.grown {W0 wr w1 : World} {rb : Nat} {ob row : Option Nat} {inV : Value} {p out : List Int} {most t m : Nat} {E : Int} {o : Obj} (h : Bts W0 wr rb ob inV p most out t E) (hg : (wr.alloc o).grownBy w1 row) (hr : ∀ g, row = some g → m ≤ g) (h1 : rb < m) (h2 : ∀ k, ob = some k → k < m) (h3 : W0.heap.size ≤ m) : Bts W0 w1 rb ob inV p most out t E :=
  h.keep (grown_keep hg hr rb h1 h.rb_lt) (fun k hk => grown_keep hg hr k (h2 k hk) (h.ob_ge k hk).2) ((h.bel.alloc h.bel.size o).grown hg (by have := h.bel.size; simp; omega) (fun g e => by have := hr g e; omega))

/-- What a symbol puts behind lengths. -/
def nxF (p : List Int) (L : List Int) (s : Int) (want t : Nat) : Rs (List Int) :=
  if s ≤ 15 then .ok (L ++ [s]) t
  else if s = 16 ∧ L = [] then .bad .form
  else match timesF p s t with
    | .bad e => .bad e
    | .ok n t2 => if (want : Int) < L.length + n then .bad .form else .ok (L ++ List.replicate n.toNat (if s = 16 then L.getLastD 0 else 0)) t2

/-- The lengths behind a symbol, or what was met. -/
def AfterN (W0 w0 w' : World) (rb : Nat) (ob : Option Nat) (inV : Value) (p : List Int) (most : Nat) (out : List Int) (R : Rs (List Int)) (e : Ending) : Prop :=
  ∃ q' L' t' E', e = .returned q' ∧ Own .i64 3 w' w0.heap.size q' L' ∧ StD R L' t' E' ∧ Bts W0 w' rb ob inV p most out t' E' ∧ Fr rb ob w0 w'

set_option maxHeartbeats 2000000 in
set_option maxRecDepth 100000 in
theorem dnext_plain {W0 w0 w : World} {rb : Nat} {ob : Option Nat} {inV : Value} {p out : List Int} {most t : Nat} {L : List Int} {q : Value} (s : Int) (want : Nat) (hs0 : 0 ≤ s) (hs1 : s ≤ 15) (hw : L.length < want) (hwm : want ≤ 400) (hF : Fr rb ob w0 w) (hq : Own .i64 3 w w0.heap.size q L) (hrb : rb < w0.heap.size) (hob : ∀ k, ob = some k → k < w0.heap.size) (h : Bts W0 w rb ob inV p most out t 0) :
    Calls Tryd.prog 59 #[.pointer (some ⟨rb, 0, none⟩), q, .int .i64 s, .int .i64 want] w fun e w' => ∃ q', e = .returned q' ∧ Own .i64 3 w' w0.heap.size q' (L ++ [s]) ∧ Bts W0 w' rb ob inV p most out t 0 ∧ Fr rb ob w0 w' := by
  obtain ⟨i0, z0, hi, hz, hs, hb, hc⟩ := info64
  obtain ⟨qa, qc, rfl, -, -, -⟩ := hq.rd.form
  have cE := h.cE
  have hW0 : W0.heap.size ≤ w0.heap.size := Nat.le_trans h.hb (Nat.le_of_lt hrb)
  have KQ := Kept.mk hq
  have KB := Kept.mk h
  have KF := Kept.mk hF
  have KO := Kept.mk hob
  have h16 : (s == 16) = false := by simp; omega
  have h17 : (s == 17) = false := by simp; omega
  have h18 : (s == 18) = false := by simp; omega
  clear hq h hF hob
  go_enter Tryd.func59, Tryd.ntmps59
  go_wp2
  clear cE
  go_loopw [1, 11] (fun s1 s11 wr => ∃ (k : Nat) (q : Value) (LL : List Int), k ≤ 1 ∧ s11 = .int .i64 k ∧ s1 = q ∧ LL = L ++ List.replicate k s ∧ Own .i64 3 wr w0.heap.size q LL ∧ Bts W0 wr rb ob inV p most out t 0 ∧ Fr rb ob w0 wr) (fun _ s11 _ => 1 - (intOf s11).toNat)
  case atStart => exact ⟨0, _, L, by omega, rfl, rfl, by simp, KQ.out, KB.out, KF.out⟩
  case round =>
    obtain ⟨k, q, LL, hk, rfl, rfl, hLL, howq, hBr, hFr⟩ := hrel
    have hll : LL.length ≤ 400 := by
      rw [hLL, List.length_append, List.length_replicate]
      omega
    have hwz := hFr.size
    have KL := Kept.mk hLL
    clear hLL
    obtain ⟨na, nc, rfl, -, hl2, hcm2⟩ := howq.rd.form
    clear hl2 hcm2
    have KQ2 := Kept.mk howq
    have KB2 := Kept.mk hBr
    have KF2 := Kept.mk hFr
    by_cases hlt : k < 1
    · have hlti : (k : Int) < 1 := by omega
      have hrd := Kept.mk (Rd.one .i64 wr s 3)
      have how := Kept.mk (howq.alloc (.cells #[.int .i64 s] 3))
      clear howq hBr hFr
      go_wp2_with (at_builtin; refine wpList_append_rd _ rfl _ _ 49 rfl .i64 anyB 8 w0.heap.size 3 i0 z0 Tryd.underlying49 hi hz hs hb hc (by omega) (.slice na LL.length nc) LL rfl how.out _ [s] rfl hrd.out (by simp; omega) (by simp; omega) ?_; intro v' w1 hown hgrow hat; have KO1 := Kept.mk hown; have KG1 := Kept.mk hgrow; clear hown hgrow hat)
      go_roundw
      case rel => exact ⟨k + 1, v', LL ++ [s], by omega, by go_num, rfl, by rw [KL.out, List.append_assoc, ← List.replicate_succ'], KO1.out, KB2.out.grown (m := w0.heap.size) KG1.out (fun g e => (KQ2.out.lt g e).1) hrb KO.out hW0, KF2.out.grown KG1.out (fun g e => (KQ2.out.lt g e).1)⟩
      case measure => simp [intOf]; omega
    · have hke : k = 1 := by omega
      have hlti : ¬ (k : Int) < 1 := by omega
      rw [hke] at KL
      clear howq hBr hFr hke
      go_wp2
      go_ret
      exact ⟨_, rfl, by have e := KL.out; rw [List.replicate_one] at e; rw [← e]; exact KQ2.out, KB2.out, KF2.out⟩
set_option maxHeartbeats 2000000 in
set_option maxRecDepth 100000 in
/-- Something was met: the lengths stay. -/
theorem dnext_off {W0 w0 w : World} {rb : Nat} {ob : Option Nat} {inV : Value} {p out : List Int} {most t : Nat} {L : List Int} {q : Value} {E : Int} (want : Nat) (hE : E ≠ 0) (hw : L.length < want) (hwm : want ≤ 400) (hF : Fr rb ob w0 w) (hq : Own .i64 3 w w0.heap.size q L) (hrb : rb < w0.heap.size) (hob : ∀ k, ob = some k → k < w0.heap.size) (h : Bts W0 w rb ob inV p most out t E) :
    Calls Tryd.prog 59 #[.pointer (some ⟨rb, 0, none⟩), q, .int .i64 0, .int .i64 want] w fun e w' => e = .returned q ∧ w' = w := by
  obtain ⟨i0, z0, hi, hz, hs, hb, hc⟩ := info64
  obtain ⟨qa, qc, rfl, -, -, -⟩ := hq.rd.form
  have cE := h.cE
  have hW0 : W0.heap.size ≤ w0.heap.size := Nat.le_trans h.hb (Nat.le_of_lt hrb)
  have KQ := Kept.mk hq
  have KB := Kept.mk h
  have KF := Kept.mk hF
  have KO := Kept.mk hob
  clear hq h hF hob
  go_enter Tryd.func59, Tryd.ntmps59
  go_wp2
  go_ret
  exact ⟨rfl, rfl⟩
set_option maxHeartbeats 2000000 in
set_option maxRecDepth 100000 in
theorem dnext_none {W0 w0 w : World} {rb : Nat} {ob : Option Nat} {inV : Value} {p out : List Int} {most t : Nat} {L : List Int} {q : Value} (want : Nat) (hL : L = []) (hw : L.length < want) (hwm : want ≤ 400) (hF : Fr rb ob w0 w) (hq : Own .i64 3 w w0.heap.size q L) (hrb : rb < w0.heap.size) (hob : ∀ k, ob = some k → k < w0.heap.size) (h : Bts W0 w rb ob inV p most out t 0) :
    Calls Tryd.prog 59 #[.pointer (some ⟨rb, 0, none⟩), q, .int .i64 16, .int .i64 want] w fun e w' => ∃ q', e = .returned q' ∧ Own .i64 3 w' w0.heap.size q' L ∧ Bts W0 w' rb ob inV p most out t 4 ∧ Fr rb ob w0 w' := by
  obtain ⟨i0, z0, hi, hz, hs, hb, hc⟩ := info64
  obtain ⟨qa, qc, rfl, -, -, -⟩ := hq.rd.form
  have cE := h.cE
  have hW0 : W0.heap.size ≤ w0.heap.size := Nat.le_trans h.hb (Nat.le_of_lt hrb)
  have KQ := Kept.mk hq
  have KB := Kept.mk h
  have KF := Kept.mk hF
  have KO := Kept.mk hob
  have hl0 : (L.length : Int) = 0 := by rw [hL]; rfl
  have KFA := Kept.mk (dfail_any h)
  clear hq h hF hL
  go_enter Tryd.func59, Tryd.ntmps59
  go_wp2_with fail
  refine Calls.mono KFA.out (fun e w1 hp => ?_)
  obtain ⟨rfl, hB1, hF1⟩ := hp
  have KB1 := Kept.mk hB1
  have KF1 := Kept.mk hF1
  clear hB1 hF1
  go_wp2
  go_ret
  exact ⟨_, rfl, KQ.out.far (fun g hg => KF1.out.block g (KQ.out.lt g hg).2 (by have := (KQ.out.lt g hg).1; omega) (fun e => by have := (KQ.out.lt g hg).1; have := KO.out g e.symm; omega)), KB1.out, KF.out.trans KF1.out⟩
set_option maxHeartbeats 2000000 in
set_option maxRecDepth 100000 in
theorem dnext_16 {W0 w0 w : World} {rb : Nat} {ob : Option Nat} {inV : Value} {p out : List Int} {most t : Nat} {L : List Int} {q : Value} {R : Rs (List Int)} (want : Nat) (hR : R = nxF p L 16 want t) (hne : L ≠ []) (hw : L.length < want) (hwm : want ≤ 400) (hF : Fr rb ob w0 w) (hq : Own .i64 3 w w0.heap.size q L) (hrb : rb < w0.heap.size) (hob : ∀ k, ob = some k → k < w0.heap.size) (h : Bts W0 w rb ob inV p most out t 0) :
    Calls Tryd.prog 59 #[.pointer (some ⟨rb, 0, none⟩), q, .int .i64 16, .int .i64 want] w fun e w' => AfterN W0 w0 w' rb ob inV p most out R e := by
  obtain ⟨i0, z0, hi, hz, hs, hb, hc⟩ := info64
  obtain ⟨qa, qc, rfl, -, -, -⟩ := hq.rd.form
  have cE := h.cE
  have hW0 : W0.heap.size ≤ w0.heap.size := Nat.le_trans h.hb (Nat.le_of_lt hrb)
  have KQ := Kept.mk hq
  have KB := Kept.mk h
  have KF := Kept.mk hF
  have KO := Kept.mk hob
  have hl0 : ¬ (L.length : Int) = 0 := fun e => hne (List.eq_nil_of_length_eq_zero (by omega))
  obtain ⟨lb, lo, lc, hlv, hlb, -, -, hls, hcells⟩ := hq.rd.open (by omega)
  injection hlv with hlv1 hlv2 hlv3
  subst hlv1 hlv3
  clear hlv2
  have hcl := hcells (L.length - 1) (by omega)
  have hidx : (L.length : Int) - 1 = ((L.length - 1 : Nat) : Int) := by omega
  have hidx2 : ((L.length - 1 : Nat) : Int) < (L.length : Int) := by omega
  rw [nxF, if_neg (by omega), if_neg (fun e => hne e.2), if_pos rfl, getLastD_eq] at hR
  generalize L.getD (L.length - 1) 0 = ag at *
  clear hcells hls hne
  unfold timesF at hR
  simp only [Int.reduceEq, if_false] at hR
  have KN := Kept.mk (dnumR (R := numF p 2 t) 2 (by omega) (Or.inl ⟨rfl, rfl⟩) h)
  have KRR := Kept.mk hR
  clear hq h hF hR
  go_enter Tryd.func59, Tryd.ntmps59
  go_wp2_with fail
  refine Calls.mono KN.out (fun e w1 hp => ?_)
  obtain ⟨v2, t2, E2, rfl, hv2, hS2, hB2, hF2⟩ := hp
  have hv20 := hv2.1
  have hv21 : v2 < 4 := by simpa using hv2.2
  have cE2 := hB2.cE
  have how2 := KQ.out.far (w' := w1) (fun g hg => hF2.block g (KQ.out.lt g hg).2 (by have := (KQ.out.lt g hg).1; omega) (fun e => by have := (KQ.out.lt g hg).1; have := KO.out g e.symm; omega))
  have hFF := KF.out.trans hF2
  clear KQ KB KF hv2 cE hcl
  have KQ := Kept.mk how2
  have KB := Kept.mk hB2
  have KF := Kept.mk hFF
  clear hB2 hF2 hFF how2
  by_cases hE2 : E2 = 0
  · subst hE2
    have hRR : R = if (want : Int) < L.length + (3 + v2) then .bad .form else .ok (L ++ List.replicate (3 + v2).toNat ag) t2 := by
      rcases hS2 with ⟨h1, -⟩ | ⟨er, -, h2⟩
      · rw [KRR.out, h1]
      · exact absurd h2.symm (er_ne er)
    by_cases hmany : (want : Int) < L.length + (3 + v2)
    · rw [if_pos hmany] at hRR
      have hfa := dfail_any KB.out
      rw [if_pos rfl] at hfa
      have KFA := Kept.mk hfa
      have KR := Kept.mk hRR
      clear hfa
      clear hS2 hRR
      go_wp2_with fail
      refine Calls.mono KFA.out (fun e w3 hp => ?_)
      obtain ⟨rfl, hB3, hF3⟩ := hp
      have cE3 := hB3.cE
      have KB3 := Kept.mk hB3
      have KF3 := Kept.mk hF3
      clear hB3 hF3
      go_wp2
      go_ret
      exact ⟨_, L, t2, 4, rfl, KQ.out.far (fun g hg => KF3.out.block g (KQ.out.lt g hg).2 (by have := (KQ.out.lt g hg).1; omega) (fun e => by have := (KQ.out.lt g hg).1; have := KO.out g e.symm; omega)), Or.inr ⟨.form, KR.out, rfl⟩, KB3.out, KF.out.trans KF3.out⟩
    · rw [if_neg hmany] at hRR
      have KR := Kept.mk hRR
      clear hS2 hRR
      go_wp2
      clear cE2
      go_loopw [1, 11] (fun s1 s11 wr => ∃ (k : Nat) (q : Value) (LL : List Int), k ≤ (3 + v2).toNat ∧ s11 = .int .i64 k ∧ s1 = q ∧ LL = L ++ List.replicate k ag ∧ Own .i64 3 wr w0.heap.size q LL ∧ Bts W0 wr rb ob inV p most out t2 0 ∧ Fr rb ob w0 wr) (fun _ s11 _ => (3 + v2).toNat - (intOf s11).toNat)
      case atStart => exact ⟨0, _, L, by omega, rfl, rfl, by simp, KQ.out, KB.out, KF.out⟩
      case round =>
        obtain ⟨k, q, LL, hk, rfl, rfl, hLL, howq, hBr, hFr⟩ := hrel
        have hll : LL.length ≤ 400 := by
          rw [hLL, List.length_append, List.length_replicate]
          omega
        have hwz := hFr.size
        have KL := Kept.mk hLL
        clear hLL
        obtain ⟨na, nc, rfl, -, hl2, hcm2⟩ := howq.rd.form
        clear hl2 hcm2
        have KQ2 := Kept.mk howq
        have KB2 := Kept.mk hBr
        have KF2 := Kept.mk hFr
        by_cases hlt : k < (3 + v2).toNat
        · have hlti : (k : Int) < 3 + v2 := by omega
          have hrd := Kept.mk (Rd.one .i64 wr ag 3)
          have how := Kept.mk (howq.alloc (.cells #[.int .i64 ag] 3))
          clear howq hBr hFr
          go_wp2_with (at_builtin; refine wpList_append_rd _ rfl _ _ 49 rfl .i64 anyB 8 w0.heap.size 3 i0 z0 Tryd.underlying49 hi hz hs hb hc (by omega) (.slice na LL.length nc) LL rfl how.out _ [ag] rfl hrd.out (by simp; omega) (by simp; omega) ?_; intro v' w1 hown hgrow hat; have KO1 := Kept.mk hown; have KG1 := Kept.mk hgrow; clear hown hgrow hat)
          go_roundw
          case rel => exact ⟨k + 1, v', LL ++ [ag], by omega, by go_num, rfl, by rw [KL.out, List.append_assoc, ← List.replicate_succ'], KO1.out, KB2.out.grown (m := w0.heap.size) KG1.out (fun g e => (KQ2.out.lt g e).1) hrb KO.out hW0, KF2.out.grown KG1.out (fun g e => (KQ2.out.lt g e).1)⟩
          case measure => simp [intOf]; omega
        · have hke : k = (3 + v2).toNat := by omega
          have hlti : ¬ (k : Int) < 3 + v2 := by omega
          rw [hke] at KL
          clear howq hBr hFr hke
          go_wp2
          go_ret
          exact ⟨_, LL, t2, 0, rfl, KQ2.out, Or.inl ⟨by rw [KR.out, KL.out], rfl⟩, KB2.out, KF2.out⟩
  · have hRR : ∃ er : Er, R = .bad er ∧ E2 = er.v := by
      rcases hS2 with ⟨-, h2⟩ | ⟨er, h1, h2⟩
      · exact absurd h2 hE2
      · exact ⟨er, by rw [KRR.out, h1], h2⟩
    have KR := Kept.mk hRR
    clear hS2 hRR
    by_cases hmany : (want : Int) < L.length + (3 + v2)
    · have hfa := dfail_any KB.out
      rw [if_neg hE2] at hfa
      have KFA := Kept.mk hfa
      clear hfa
      go_wp2_with fail
      refine Calls.mono KFA.out (fun e w3 hp => ?_)
      obtain ⟨rfl, hB3, hF3⟩ := hp
      have cE3 := hB3.cE
      have KB3 := Kept.mk hB3
      have KF3 := Kept.mk hF3
      clear hB3 hF3
      go_wp2
      go_ret
      exact ⟨_, L, t2, E2, rfl, KQ.out.far (fun g hg => KF3.out.block g (KQ.out.lt g hg).2 (by have := (KQ.out.lt g hg).1; omega) (fun e => by have := (KQ.out.lt g hg).1; have := KO.out g e.symm; omega)), Or.inr KR.out, KB3.out, KF.out.trans KF3.out⟩
    · go_wp2
      go_ret
      exact ⟨_, L, t2, E2, rfl, KQ.out, Or.inr KR.out, KB.out, KF.out⟩
set_option maxHeartbeats 2000000 in
set_option maxRecDepth 100000 in
theorem dnext_17 {W0 w0 w : World} {rb : Nat} {ob : Option Nat} {inV : Value} {p out : List Int} {most t : Nat} {L : List Int} {q : Value} {R : Rs (List Int)} (want : Nat) (hR : R = nxF p L 17 want t) (hw : L.length < want) (hwm : want ≤ 400) (hF : Fr rb ob w0 w) (hq : Own .i64 3 w w0.heap.size q L) (hrb : rb < w0.heap.size) (hob : ∀ k, ob = some k → k < w0.heap.size) (h : Bts W0 w rb ob inV p most out t 0) :
    Calls Tryd.prog 59 #[.pointer (some ⟨rb, 0, none⟩), q, .int .i64 17, .int .i64 want] w fun e w' => AfterN W0 w0 w' rb ob inV p most out R e := by
  obtain ⟨i0, z0, hi, hz, hs, hb, hc⟩ := info64
  obtain ⟨qa, qc, rfl, -, -, -⟩ := hq.rd.form
  have cE := h.cE
  have hW0 : W0.heap.size ≤ w0.heap.size := Nat.le_trans h.hb (Nat.le_of_lt hrb)
  have KQ := Kept.mk hq
  have KB := Kept.mk h
  have KF := Kept.mk hF
  have KO := Kept.mk hob
  rw [nxF, if_neg (by omega), if_neg (fun e => by have := e.1; omega), if_neg (by omega)] at hR
  unfold timesF at hR
  simp only [Int.reduceEq, if_false, if_true] at hR
  have KN := Kept.mk (dnumR (R := numF p 3 t) 3 (by omega) (Or.inl ⟨rfl, rfl⟩) h)
  have KRR := Kept.mk hR
  clear hq h hF hR
  go_enter Tryd.func59, Tryd.ntmps59
  go_wp2_with fail
  refine Calls.mono KN.out (fun e w1 hp => ?_)
  obtain ⟨v2, t2, E2, rfl, hv2, hS2, hB2, hF2⟩ := hp
  have hv20 := hv2.1
  have hv21 : v2 < 8 := by simpa using hv2.2
  have cE2 := hB2.cE
  have how2 := KQ.out.far (w' := w1) (fun g hg => hF2.block g (KQ.out.lt g hg).2 (by have := (KQ.out.lt g hg).1; omega) (fun e => by have := (KQ.out.lt g hg).1; have := KO.out g e.symm; omega))
  have hFF := KF.out.trans hF2
  clear KQ KB KF hv2 cE
  have KQ := Kept.mk how2
  have KB := Kept.mk hB2
  have KF := Kept.mk hFF
  clear hB2 hF2 hFF how2
  by_cases hE2 : E2 = 0
  · subst hE2
    have hRR : R = if (want : Int) < L.length + (3 + v2) then .bad .form else .ok (L ++ List.replicate (3 + v2).toNat 0) t2 := by
      rcases hS2 with ⟨h1, -⟩ | ⟨er, -, h2⟩
      · rw [KRR.out, h1]
      · exact absurd h2.symm (er_ne er)
    by_cases hmany : (want : Int) < L.length + (3 + v2)
    · rw [if_pos hmany] at hRR
      have hfa := dfail_any KB.out
      rw [if_pos rfl] at hfa
      have KFA := Kept.mk hfa
      have KR := Kept.mk hRR
      clear hfa
      clear hS2 hRR
      go_wp2_with fail
      refine Calls.mono KFA.out (fun e w3 hp => ?_)
      obtain ⟨rfl, hB3, hF3⟩ := hp
      have cE3 := hB3.cE
      have KB3 := Kept.mk hB3
      have KF3 := Kept.mk hF3
      clear hB3 hF3
      go_wp2
      go_ret
      exact ⟨_, L, t2, 4, rfl, KQ.out.far (fun g hg => KF3.out.block g (KQ.out.lt g hg).2 (by have := (KQ.out.lt g hg).1; omega) (fun e => by have := (KQ.out.lt g hg).1; have := KO.out g e.symm; omega)), Or.inr ⟨.form, KR.out, rfl⟩, KB3.out, KF.out.trans KF3.out⟩
    · rw [if_neg hmany] at hRR
      have KR := Kept.mk hRR
      clear hS2 hRR
      go_wp2
      clear cE2
      go_loopw [1, 11] (fun s1 s11 wr => ∃ (k : Nat) (q : Value) (LL : List Int), k ≤ (3 + v2).toNat ∧ s11 = .int .i64 k ∧ s1 = q ∧ LL = L ++ List.replicate k 0 ∧ Own .i64 3 wr w0.heap.size q LL ∧ Bts W0 wr rb ob inV p most out t2 0 ∧ Fr rb ob w0 wr) (fun _ s11 _ => (3 + v2).toNat - (intOf s11).toNat)
      case atStart => exact ⟨0, _, L, by omega, rfl, rfl, by simp, KQ.out, KB.out, KF.out⟩
      case round =>
        obtain ⟨k, q, LL, hk, rfl, rfl, hLL, howq, hBr, hFr⟩ := hrel
        have hll : LL.length ≤ 400 := by
          rw [hLL, List.length_append, List.length_replicate]
          omega
        have hwz := hFr.size
        have KL := Kept.mk hLL
        clear hLL
        obtain ⟨na, nc, rfl, -, hl2, hcm2⟩ := howq.rd.form
        clear hl2 hcm2
        have KQ2 := Kept.mk howq
        have KB2 := Kept.mk hBr
        have KF2 := Kept.mk hFr
        by_cases hlt : k < (3 + v2).toNat
        · have hlti : (k : Int) < 3 + v2 := by omega
          have hrd := Kept.mk (Rd.one .i64 wr 0 3)
          have how := Kept.mk (howq.alloc (.cells #[.int .i64 0] 3))
          clear howq hBr hFr
          go_wp2_with (at_builtin; refine wpList_append_rd _ rfl _ _ 49 rfl .i64 anyB 8 w0.heap.size 3 i0 z0 Tryd.underlying49 hi hz hs hb hc (by omega) (.slice na LL.length nc) LL rfl how.out _ [0] rfl hrd.out (by simp; omega) (by simp; omega) ?_; intro v' w1 hown hgrow hat; have KO1 := Kept.mk hown; have KG1 := Kept.mk hgrow; clear hown hgrow hat)
          go_roundw
          case rel => exact ⟨k + 1, v', LL ++ [0], by omega, by go_num, rfl, by rw [KL.out, List.append_assoc, ← List.replicate_succ'], KO1.out, KB2.out.grown (m := w0.heap.size) KG1.out (fun g e => (KQ2.out.lt g e).1) hrb KO.out hW0, KF2.out.grown KG1.out (fun g e => (KQ2.out.lt g e).1)⟩
          case measure => simp [intOf]; omega
        · have hke : k = (3 + v2).toNat := by omega
          have hlti : ¬ (k : Int) < 3 + v2 := by omega
          rw [hke] at KL
          clear howq hBr hFr hke
          go_wp2
          go_ret
          exact ⟨_, LL, t2, 0, rfl, KQ2.out, Or.inl ⟨by rw [KR.out, KL.out], rfl⟩, KB2.out, KF2.out⟩
  · have hRR : ∃ er : Er, R = .bad er ∧ E2 = er.v := by
      rcases hS2 with ⟨-, h2⟩ | ⟨er, h1, h2⟩
      · exact absurd h2 hE2
      · exact ⟨er, by rw [KRR.out, h1], h2⟩
    have KR := Kept.mk hRR
    clear hS2 hRR
    by_cases hmany : (want : Int) < L.length + (3 + v2)
    · have hfa := dfail_any KB.out
      rw [if_neg hE2] at hfa
      have KFA := Kept.mk hfa
      clear hfa
      go_wp2_with fail
      refine Calls.mono KFA.out (fun e w3 hp => ?_)
      obtain ⟨rfl, hB3, hF3⟩ := hp
      have cE3 := hB3.cE
      have KB3 := Kept.mk hB3
      have KF3 := Kept.mk hF3
      clear hB3 hF3
      go_wp2
      go_ret
      exact ⟨_, L, t2, E2, rfl, KQ.out.far (fun g hg => KF3.out.block g (KQ.out.lt g hg).2 (by have := (KQ.out.lt g hg).1; omega) (fun e => by have := (KQ.out.lt g hg).1; have := KO.out g e.symm; omega)), Or.inr KR.out, KB3.out, KF.out.trans KF3.out⟩
    · go_wp2
      go_ret
      exact ⟨_, L, t2, E2, rfl, KQ.out, Or.inr KR.out, KB.out, KF.out⟩
set_option maxHeartbeats 2000000 in
set_option maxRecDepth 100000 in
theorem dnext_18 {W0 w0 w : World} {rb : Nat} {ob : Option Nat} {inV : Value} {p out : List Int} {most t : Nat} {L : List Int} {q : Value} {R : Rs (List Int)} (want : Nat) (hR : R = nxF p L 18 want t) (hw : L.length < want) (hwm : want ≤ 400) (hF : Fr rb ob w0 w) (hq : Own .i64 3 w w0.heap.size q L) (hrb : rb < w0.heap.size) (hob : ∀ k, ob = some k → k < w0.heap.size) (h : Bts W0 w rb ob inV p most out t 0) :
    Calls Tryd.prog 59 #[.pointer (some ⟨rb, 0, none⟩), q, .int .i64 18, .int .i64 want] w fun e w' => AfterN W0 w0 w' rb ob inV p most out R e := by
  obtain ⟨i0, z0, hi, hz, hs, hb, hc⟩ := info64
  obtain ⟨qa, qc, rfl, -, -, -⟩ := hq.rd.form
  have cE := h.cE
  have hW0 : W0.heap.size ≤ w0.heap.size := Nat.le_trans h.hb (Nat.le_of_lt hrb)
  have KQ := Kept.mk hq
  have KB := Kept.mk h
  have KF := Kept.mk hF
  have KO := Kept.mk hob
  rw [nxF, if_neg (by omega), if_neg (fun e => by have := e.1; omega), if_neg (by omega)] at hR
  unfold timesF at hR
  simp only [Int.reduceEq, if_false, if_true] at hR
  have KN := Kept.mk (dnumR (R := numF p 7 t) 7 (by omega) (Or.inl ⟨rfl, rfl⟩) h)
  have KRR := Kept.mk hR
  clear hq h hF hR
  go_enter Tryd.func59, Tryd.ntmps59
  go_wp2_with fail
  refine Calls.mono KN.out (fun e w1 hp => ?_)
  obtain ⟨v2, t2, E2, rfl, hv2, hS2, hB2, hF2⟩ := hp
  have hv20 := hv2.1
  have hv21 : v2 < 128 := by simpa using hv2.2
  have cE2 := hB2.cE
  have how2 := KQ.out.far (w' := w1) (fun g hg => hF2.block g (KQ.out.lt g hg).2 (by have := (KQ.out.lt g hg).1; omega) (fun e => by have := (KQ.out.lt g hg).1; have := KO.out g e.symm; omega))
  have hFF := KF.out.trans hF2
  clear KQ KB KF hv2 cE
  have KQ := Kept.mk how2
  have KB := Kept.mk hB2
  have KF := Kept.mk hFF
  clear hB2 hF2 hFF how2
  by_cases hE2 : E2 = 0
  · subst hE2
    have hRR : R = if (want : Int) < L.length + (11 + v2) then .bad .form else .ok (L ++ List.replicate (11 + v2).toNat 0) t2 := by
      rcases hS2 with ⟨h1, -⟩ | ⟨er, -, h2⟩
      · rw [KRR.out, h1]
      · exact absurd h2.symm (er_ne er)
    by_cases hmany : (want : Int) < L.length + (11 + v2)
    · rw [if_pos hmany] at hRR
      have hfa := dfail_any KB.out
      rw [if_pos rfl] at hfa
      have KFA := Kept.mk hfa
      have KR := Kept.mk hRR
      clear hfa
      clear hS2 hRR
      go_wp2_with fail
      refine Calls.mono KFA.out (fun e w3 hp => ?_)
      obtain ⟨rfl, hB3, hF3⟩ := hp
      have cE3 := hB3.cE
      have KB3 := Kept.mk hB3
      have KF3 := Kept.mk hF3
      clear hB3 hF3
      go_wp2
      go_ret
      exact ⟨_, L, t2, 4, rfl, KQ.out.far (fun g hg => KF3.out.block g (KQ.out.lt g hg).2 (by have := (KQ.out.lt g hg).1; omega) (fun e => by have := (KQ.out.lt g hg).1; have := KO.out g e.symm; omega)), Or.inr ⟨.form, KR.out, rfl⟩, KB3.out, KF.out.trans KF3.out⟩
    · rw [if_neg hmany] at hRR
      have KR := Kept.mk hRR
      clear hS2 hRR
      go_wp2
      clear cE2
      go_loopw [1, 11] (fun s1 s11 wr => ∃ (k : Nat) (q : Value) (LL : List Int), k ≤ (11 + v2).toNat ∧ s11 = .int .i64 k ∧ s1 = q ∧ LL = L ++ List.replicate k 0 ∧ Own .i64 3 wr w0.heap.size q LL ∧ Bts W0 wr rb ob inV p most out t2 0 ∧ Fr rb ob w0 wr) (fun _ s11 _ => (11 + v2).toNat - (intOf s11).toNat)
      case atStart => exact ⟨0, _, L, by omega, rfl, rfl, by simp, KQ.out, KB.out, KF.out⟩
      case round =>
        obtain ⟨k, q, LL, hk, rfl, rfl, hLL, howq, hBr, hFr⟩ := hrel
        have hll : LL.length ≤ 400 := by
          rw [hLL, List.length_append, List.length_replicate]
          omega
        have hwz := hFr.size
        have KL := Kept.mk hLL
        clear hLL
        obtain ⟨na, nc, rfl, -, hl2, hcm2⟩ := howq.rd.form
        clear hl2 hcm2
        have KQ2 := Kept.mk howq
        have KB2 := Kept.mk hBr
        have KF2 := Kept.mk hFr
        by_cases hlt : k < (11 + v2).toNat
        · have hlti : (k : Int) < 11 + v2 := by omega
          have hrd := Kept.mk (Rd.one .i64 wr 0 3)
          have how := Kept.mk (howq.alloc (.cells #[.int .i64 0] 3))
          clear howq hBr hFr
          go_wp2_with (at_builtin; refine wpList_append_rd _ rfl _ _ 49 rfl .i64 anyB 8 w0.heap.size 3 i0 z0 Tryd.underlying49 hi hz hs hb hc (by omega) (.slice na LL.length nc) LL rfl how.out _ [0] rfl hrd.out (by simp; omega) (by simp; omega) ?_; intro v' w1 hown hgrow hat; have KO1 := Kept.mk hown; have KG1 := Kept.mk hgrow; clear hown hgrow hat)
          go_roundw
          case rel => exact ⟨k + 1, v', LL ++ [0], by omega, by go_num, rfl, by rw [KL.out, List.append_assoc, ← List.replicate_succ'], KO1.out, KB2.out.grown (m := w0.heap.size) KG1.out (fun g e => (KQ2.out.lt g e).1) hrb KO.out hW0, KF2.out.grown KG1.out (fun g e => (KQ2.out.lt g e).1)⟩
          case measure => simp [intOf]; omega
        · have hke : k = (11 + v2).toNat := by omega
          have hlti : ¬ (k : Int) < 11 + v2 := by omega
          rw [hke] at KL
          clear howq hBr hFr hke
          go_wp2
          go_ret
          exact ⟨_, LL, t2, 0, rfl, KQ2.out, Or.inl ⟨by rw [KR.out, KL.out], rfl⟩, KB2.out, KF2.out⟩
  · have hRR : ∃ er : Er, R = .bad er ∧ E2 = er.v := by
      rcases hS2 with ⟨-, h2⟩ | ⟨er, h1, h2⟩
      · exact absurd h2 hE2
      · exact ⟨er, by rw [KRR.out, h1], h2⟩
    have KR := Kept.mk hRR
    clear hS2 hRR
    by_cases hmany : (want : Int) < L.length + (11 + v2)
    · have hfa := dfail_any KB.out
      rw [if_neg hE2] at hfa
      have KFA := Kept.mk hfa
      clear hfa
      go_wp2_with fail
      refine Calls.mono KFA.out (fun e w3 hp => ?_)
      obtain ⟨rfl, hB3, hF3⟩ := hp
      have cE3 := hB3.cE
      have KB3 := Kept.mk hB3
      have KF3 := Kept.mk hF3
      clear hB3 hF3
      go_wp2
      go_ret
      exact ⟨_, L, t2, E2, rfl, KQ.out.far (fun g hg => KF3.out.block g (KQ.out.lt g hg).2 (by have := (KQ.out.lt g hg).1; omega) (fun e => by have := (KQ.out.lt g hg).1; have := KO.out g e.symm; omega)), Or.inr KR.out, KB3.out, KF.out.trans KF3.out⟩
    · go_wp2
      go_ret
      exact ⟨_, L, t2, E2, rfl, KQ.out, Or.inr KR.out, KB.out, KF.out⟩
end Go.Proofs.YtjijkcmbbccfmaaDoor
