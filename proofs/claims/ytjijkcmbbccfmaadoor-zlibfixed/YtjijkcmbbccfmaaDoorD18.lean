/-
  The document's reader: DocInflate, the ways and the end.
-/
import Derived.Test.YtjijkcmbbccfmaaDoorD18A
namespace Go.Proofs.YtjijkcmbbccfmaaDoor
open Go.RowKit
set_option linter.unusedVariables false

set_option maxHeartbeats 4000000 in
set_option maxRecDepth 100000 in
theorem diW0 (va : Option Addr) (vc : Nat) (p : List Int) (most : Nat) (w : World) (R : Rs (List Int)) : (diA va vc p most w R).1 := by
  intro hl hm Q0 K2 hK2 hm0 hm1 wr u9 u10 u11 u12 u13 u24 u25 u26 u27 u28 u29 u30 u31 u32 u33 u34 u35 u36 u37 u38 u39 u40 u41 u42 u43 u44 u45 u46 u47 u48 u49 u50 u51 u52 u53 u54 u55 u56 u57 u58 u59 u60 u61 u62 u63 u64 u65 u66 u67 u68 u69 tk o ob' htk hrb cE KB f KF Q1 l1 hl1 hl1b K1 hK1 K0 hK0 w2 t2 ht2 cE2 KB2 R3 KX3 KW KR3
  rw [dway0] at KR3
  have KC := Kept.mk (dstoredR KB2.out)
  rw [← KR3.out] at KC
  go_wp2_with (go_at_call 28; refine Calls.mono KC.out (fun e w6 hp => ?_); obtain ⟨ob6, o6, t6, E6, rfl, hS6, hB6, -⟩ := hp; have KS6 := Kept.mk hS6; have KB6 := Kept.mk hB6; have KLE := Kept.mk (KW.out _ _ _ hS6); clear hS6 hB6)
  go_roundw
  case rel =>
    by_cases hE6 : E6 = 0
    · have hle := KLE.out hE6
      have hf := KF.out
      have h6 := KB6.out.tle
      exact ⟨l1, f, t6, o6, ob6, E6, rfl, hl1, by omega, KX3.out _ _ _ KS6.out, KB6.out⟩
    · obtain ⟨er, her1, her2⟩ := preD_off (KX3.out _ _ _ KS6.out) hE6
      exact ⟨l1, 8 * p.length + 1, t6, o6, ob6, E6, rfl, hl1, by omega, Or.inr ⟨er, her1, her2⟩, KB6.out⟩
  case measure =>
    rw [eOf_on KB6.out, eOf_on KB.out, tOf_on KB6.out, tOf_on KB.out, if_pos rfl]
    simp only [intOf]
    by_cases hE6 : E6 = 0
    · have hle := KLE.out hE6
      have h6 := KB6.out.tle
      rw [if_pos hE6]
      have hl2 : l1 = 0 ∨ l1 = 1 := by omega
      rcases hl2 with rfl | rfl
      · show 1 * (1 * (8 * p.length - t6 + 1)) < 1 * (1 * (8 * p.length - tk + 1))
        omega
      · show 1 * (0 * (8 * p.length - t6 + 1)) < 1 * (1 * (8 * p.length - tk + 1))
        omega
    · rw [if_neg hE6]
      show 0 * ((1 - l1).toNat * (8 * p.length - t6 + 1)) < 1 * (1 * (8 * p.length - tk + 1))
      omega

set_option maxHeartbeats 4000000 in
set_option maxRecDepth 100000 in
theorem diW1 (va : Option Addr) (vc : Nat) (p : List Int) (most : Nat) (w : World) (R : Rs (List Int)) : (diA va vc p most w R).2.1 := by
  intro hl hm Q0 K2 hK2 hm0 hm1 wr u9 u10 u11 u12 u13 u24 u25 u26 u27 u28 u29 u30 u31 u32 u33 u34 u35 u36 u37 u38 u39 u40 u41 u42 u43 u44 u45 u46 u47 u48 u49 u50 u51 u52 u53 u54 u55 u56 u57 u58 u59 u60 u61 u62 u63 u64 u65 u66 u67 u68 u69 tk o ob' htk hrb cE KB f KF Q1 l1 hl1 hl1b K1 hK1 K0 hK0 w2 t2 ht2 cE2 KB2 R3 KX3 KW KR3
  rw [dway1] at KR3
  obtain ⟨FL, hFL, h1, h2⟩ : ∃ x, fixedL = x ∧ AllIn 0 16 x ∧ x.length ≤ 400 := ⟨_, rfl, fixedL_in, by rw [fixedL_len]; omega⟩
  obtain ⟨FD, hFD, h3, h4⟩ : ∃ x, fixedD = x ∧ AllIn 0 16 x ∧ x.length ≤ 400 := ⟨_, rfl, fixedD_in, by rw [fixedD_len]; omega⟩
  have KC := Kept.mk (dfixed_any w2)
  rw [hFL, hFD] at KC KR3
  have KSY : Kept (∀ w5 lv dv, Rd .i64 (fun b => w2.heap.size ≤ b) w5 lv FL → Rd .i64 (fun b => w2.heap.size ≤ b) w5 dv FD → Below w2.heap.size w2 w5 → Calls Tryd.prog 30 #[.pointer (some ⟨w.heap.size, 0, none⟩), lv, dv] w5 fun e w' => AfterV w w5 w' w.heap.size ob' (.slice va p.length vc) p most R3 e) := ⟨fun w5 lv dv hlv hdv hb5 => dsymbols_any (E := 0) (R := R3) (8 * p.length - t2 + 1) (Nat.le_refl _) hlv.any hdv.any h1 h3 h2 h4 (Or.inl ⟨rfl, KR3.out⟩) (KB2.out.far hb5)⟩
  clear hFL hFD h1 h2 h3 h4
  go_wp2_with (first | (go_at_call 29; refine Calls.mono KC.out (fun e w5 hp => ?_); obtain ⟨lv, dv, rfl, hlv, hdv, hb5⟩ := hp; have KC2 := Kept.mk (KSY.out _ _ _ hlv hdv hb5); clear hlv hdv hb5) | (go_at_call 30; refine Calls.mono KC2.out (fun e w6 hp => ?_); obtain ⟨ob6, o6, t6, E6, rfl, hS6, hB6, -⟩ := hp; have KS6 := Kept.mk hS6; have KB6 := Kept.mk hB6; have KLE := Kept.mk (KW.out _ _ _ hS6); clear hS6 hB6))
  go_roundw
  case rel =>
    by_cases hE6 : E6 = 0
    · have hle := KLE.out hE6
      have hf := KF.out
      have h6 := KB6.out.tle
      exact ⟨l1, f, t6, o6, ob6, E6, rfl, hl1, by omega, KX3.out _ _ _ KS6.out, KB6.out⟩
    · obtain ⟨er, her1, her2⟩ := preD_off (KX3.out _ _ _ KS6.out) hE6
      exact ⟨l1, 8 * p.length + 1, t6, o6, ob6, E6, rfl, hl1, by omega, Or.inr ⟨er, her1, her2⟩, KB6.out⟩
  case measure =>
    rw [eOf_on KB6.out, eOf_on KB.out, tOf_on KB6.out, tOf_on KB.out, if_pos rfl]
    simp only [intOf]
    by_cases hE6 : E6 = 0
    · have hle := KLE.out hE6
      have h6 := KB6.out.tle
      rw [if_pos hE6]
      have hl2 : l1 = 0 ∨ l1 = 1 := by omega
      rcases hl2 with rfl | rfl
      · show 1 * (1 * (8 * p.length - t6 + 1)) < 1 * (1 * (8 * p.length - tk + 1))
        omega
      · show 1 * (0 * (8 * p.length - t6 + 1)) < 1 * (1 * (8 * p.length - tk + 1))
        omega
    · rw [if_neg hE6]
      show 0 * ((1 - l1).toNat * (8 * p.length - t6 + 1)) < 1 * (1 * (8 * p.length - tk + 1))
      omega

set_option maxHeartbeats 4000000 in
set_option maxRecDepth 100000 in
theorem diW2 (va : Option Addr) (vc : Nat) (p : List Int) (most : Nat) (w : World) (R : Rs (List Int)) : (diA va vc p most w R).2.2.1 := by
  intro hl hm Q0 K2 hK2 hm0 hm1 wr u9 u10 u11 u12 u13 u24 u25 u26 u27 u28 u29 u30 u31 u32 u33 u34 u35 u36 u37 u38 u39 u40 u41 u42 u43 u44 u45 u46 u47 u48 u49 u50 u51 u52 u53 u54 u55 u56 u57 u58 u59 u60 u61 u62 u63 u64 u65 u66 u67 u68 u69 tk o ob' htk hrb cE KB f KF Q1 l1 hl1 hl1b K1 hK1 K0 hK0 w2 t2 ht2 cE2 KB2 R3 KX3 KW KR3
  have h3 := KR3.out
  rw [dway2] at h3
  obtain ⟨R4, hR4, hn4⟩ := preD_bind (show PreD R3 ((tlF p t2).bind _) 0 from Or.inl ⟨rfl, h3⟩)
  have hR4e := preD_on hR4 rfl
  have KC := Kept.mk (dlengths_any KB2.out)
  rw [← hR4e] at KC
  have KN4 := Kept.mk hn4
  have KSY : Kept (∀ w5 lv dv Ll Ld t5 E5, Rd .i64 (fun g => w2.heap.size ≤ g) w5 lv Ll → Rd .i64 (fun g => w2.heap.size ≤ g) w5 dv Ld → AllIn 0 16 Ll → AllIn 0 16 Ld → Ll.length ≤ 400 → Ld.length ≤ 400 → StD R4 (Ll, Ld) t5 E5 → Bts w w5 w.heap.size ob' (.slice va p.length vc) p most o t5 E5 → Calls Tryd.prog 30 #[.pointer (some ⟨w.heap.size, 0, none⟩), lv, dv] w5 fun e w' => AfterV w w5 w' w.heap.size ob' (.slice va p.length vc) p most R3 e) := ⟨fun w5 lv dv Ll Ld t5 E5 hlv hdv hli hdi hll hdl hS5 hB5 => by
    have hx := KN4.out _ _ _ hS5
    dsimp only at hx
    exact dsymbols_any (R := R3) (8 * p.length - t5 + 1) (Nat.le_refl _) hlv.any hdv.any hli hdi hll hdl hx hB5⟩
  clear h3 hR4 hn4 hR4e KN4
  go_wp2_with (first | (go_at_call 31; refine Calls.mono KC.out (fun e w5 hp => ?_); obtain ⟨lv, dv, Ll, Ld, t5, E5, rfl, hlv, hdv, hli, hdi, hll, hdl, hS5, hB5, -⟩ := hp; have KC2 := Kept.mk (KSY.out _ _ _ _ _ _ _ hlv hdv hli hdi hll hdl hS5 hB5); clear hlv hdv hli hdi hll hdl hS5 hB5) | (go_at_call 30; refine Calls.mono KC2.out (fun e w6 hp => ?_); obtain ⟨ob6, o6, t6, E6, rfl, hS6, hB6, -⟩ := hp; have KS6 := Kept.mk hS6; have KB6 := Kept.mk hB6; have KLE := Kept.mk (KW.out _ _ _ hS6); clear hS6 hB6))
  go_roundw
  case rel =>
    by_cases hE6 : E6 = 0
    · have hle := KLE.out hE6
      have hf := KF.out
      have h6 := KB6.out.tle
      exact ⟨l1, f, t6, o6, ob6, E6, rfl, hl1, by omega, KX3.out _ _ _ KS6.out, KB6.out⟩
    · obtain ⟨er, her1, her2⟩ := preD_off (KX3.out _ _ _ KS6.out) hE6
      exact ⟨l1, 8 * p.length + 1, t6, o6, ob6, E6, rfl, hl1, by omega, Or.inr ⟨er, her1, her2⟩, KB6.out⟩
  case measure =>
    rw [eOf_on KB6.out, eOf_on KB.out, tOf_on KB6.out, tOf_on KB.out, if_pos rfl]
    simp only [intOf]
    by_cases hE6 : E6 = 0
    · have hle := KLE.out hE6
      have h6 := KB6.out.tle
      rw [if_pos hE6]
      have hl2 : l1 = 0 ∨ l1 = 1 := by omega
      rcases hl2 with rfl | rfl
      · show 1 * (1 * (8 * p.length - t6 + 1)) < 1 * (1 * (8 * p.length - tk + 1))
        omega
      · show 1 * (0 * (8 * p.length - t6 + 1)) < 1 * (1 * (8 * p.length - tk + 1))
        omega
    · rw [if_neg hE6]
      show 0 * ((1 - l1).toNat * (8 * p.length - t6 + 1)) < 1 * (1 * (8 * p.length - tk + 1))
      omega

set_option maxHeartbeats 4000000 in
set_option maxRecDepth 100000 in
theorem diW3 (va : Option Addr) (vc : Nat) (p : List Int) (most : Nat) (w : World) (R : Rs (List Int)) : (diA va vc p most w R).2.2.2.1 := by
  intro hl hm Q0 K2 hK2 hm0 hm1 wr u9 u10 u11 u12 u13 u24 u25 u26 u27 u28 u29 u30 u31 u32 u33 u34 u35 u36 u37 u38 u39 u40 u41 u42 u43 u44 u45 u46 u47 u48 u49 u50 u51 u52 u53 u54 u55 u56 u57 u58 u59 u60 u61 u62 u63 u64 u65 u66 u67 u68 u69 tk o ob' htk hrb cE KB f KF Q1 l1 hl1 hl1b K1 hK1 K0 hK0 w2 t2 ht2 cE2 KB2 R3 KX3 KW KR3
  rw [dway3] at KR3
  have KC := Kept.mk (dfail_any KB2.out)
  rw [if_pos rfl] at KC
  obtain ⟨ob6, hob6⟩ : ∃ x : Option Nat, ob' = x := ⟨_, rfl⟩
  obtain ⟨t6, ht6⟩ : ∃ x : Nat, t2 = x := ⟨_, rfl⟩
  obtain ⟨o6, ho6⟩ : ∃ x : List Int, o = x := ⟨_, rfl⟩
  obtain ⟨E6, hE6⟩ : ∃ x : Int, (4 : Int) = x := ⟨_, rfl⟩
  have hS6 : StD R3 o6 t6 E6 := Or.inr ⟨.form, KR3.out, hE6.symm⟩
  have KS6 := Kept.mk hS6
  have KLE := Kept.mk (KW.out _ _ _ hS6)
  have KCB : Kept (∀ w6, Bts w w6 w.heap.size ob' (.slice va p.length vc) p most o t2 4 → Bts w w6 w.heap.size ob6 (.slice va p.length vc) p most o6 t6 E6) := ⟨fun w6 h => by rw [← hob6, ← ht6, ← ho6, ← hE6]; exact h⟩
  clear hob6 ht6 ho6 hE6 hS6
  go_wp2_with (go_at_call 32; refine Calls.mono KC.out (fun e w6 hp => ?_); obtain ⟨rfl, hB6, -⟩ := hp; have KB6 := Kept.mk (KCB.out _ hB6); clear hB6)
  go_roundw
  case rel =>
    by_cases hE6 : E6 = 0
    · have hle := KLE.out hE6
      have hf := KF.out
      have h6 := KB6.out.tle
      exact ⟨l1, f, t6, o6, ob6, E6, rfl, hl1, by omega, KX3.out _ _ _ KS6.out, KB6.out⟩
    · obtain ⟨er, her1, her2⟩ := preD_off (KX3.out _ _ _ KS6.out) hE6
      exact ⟨l1, 8 * p.length + 1, t6, o6, ob6, E6, rfl, hl1, by omega, Or.inr ⟨er, her1, her2⟩, KB6.out⟩
  case measure =>
    rw [eOf_on KB6.out, eOf_on KB.out, tOf_on KB6.out, tOf_on KB.out, if_pos rfl]
    simp only [intOf]
    by_cases hE6 : E6 = 0
    · have hle := KLE.out hE6
      have h6 := KB6.out.tle
      rw [if_pos hE6]
      have hl2 : l1 = 0 ∨ l1 = 1 := by omega
      rcases hl2 with rfl | rfl
      · show 1 * (1 * (8 * p.length - t6 + 1)) < 1 * (1 * (8 * p.length - tk + 1))
        omega
      · show 1 * (0 * (8 * p.length - t6 + 1)) < 1 * (1 * (8 * p.length - tk + 1))
        omega
    · rw [if_neg hE6]
      show 0 * ((1 - l1).toNat * (8 * p.length - t6 + 1)) < 1 * (1 * (8 * p.length - tk + 1))
      omega

set_option maxHeartbeats 4000000 in
set_option maxRecDepth 100000 in
theorem diE (va : Option Addr) (vc : Nat) (p : List Int) (most : Nat) (w : World) (R : Rs (List Int)) : (diA va vc p most w R).2.2.2.2.1 := by
  intro hl hm Q0 K2 hK2 hm0 hm1 wr u9 u10 u11 u12 u13 u24 u25 u26 u27 u28 u29 u30 u31 u32 u33 u34 u35 u36 u37 u38 u39 u40 u41 u42 u43 u44 u45 u46 u47 u48 u49 u50 u51 u52 u53 u54 u55 u56 u57 u58 u59 u60 u61 u62 u63 u64 u65 u66 u67 u68 u69 f tk o ob' Ek hf cE htk hrb KB KST hEk
  have hRk := preD_on KST.out hEk
  rw [goF_one (by decide)] at hRk
  subst hEk
  obtain ⟨outV, hBK, hown, -⟩ := KB.out.blk
  have c1 := hBK.c1
  have c2 := hBK.c2
  obtain ⟨oa, oc, rfl, -, -, -⟩ := hown.rd.form
  have KRk := Kept.mk hRk
  have KO := Kept.mk hown
  have hlp := KB.out.lp
  clear hRk hown hBK
  go_wp2
  go_quiet (fail)
  go_wp2
  go_ret3
  rw [KRk.out]
  exact ⟨_, rfl, KO.out, KB.out.ao, by have := KB.out.lo; omega, below_drewN KB.out.bel _⟩


theorem docInflate_any {S : Nat → Prop} (v : Value) (p : List Int) (most : Nat) (w : World) (hv : Rd .u8 S w v p) (hp : AllB p) (hl : p.length ≤ 70368744177664) (hm : most ≤ 1048576) :
    Calls Tryd.prog 12 #[v, .int .i64 most] w fun e w' => AfterI w w' (inflF p most) e := by
  obtain ⟨va, vc, rfl, -, -, -⟩ := hv.form
  have hB : Bts w (w.alloc (.cells #[.slice va p.length vc, .int .i64 0, .slice none 0 0, .int .i64 most, .int .i64 0] 45)) w.heap.size none (.slice va p.length vc) p most [] 0 0 := by
    refine ⟨⟨.slice none 0 0, heap_alloc_new w _, Own.nil _ _ _ _, rfl⟩, by omega, (Below.refl _ w).alloc (Nat.le_refl _) _, Nat.le_refl _, by simp, hv.any, hp, AllIn.nil, hl, hm, by simp⟩
  exact (diA va vc p most w (inflF p most)).2.2.2.2.2 hl hm hB (Or.inl ⟨rfl, by rw [goF_zero]; rfl⟩) (diW0 va vc p most w _) (diW1 va vc p most w _) (diW2 va vc p most w _) (diW3 va vc p most w _) (diE va vc p most w _)
end Go.Proofs.YtjijkcmbbccfmaaDoor
