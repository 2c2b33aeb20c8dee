/-
  Walks: Wrap, the program's and the document's.
-/
import Derived.Test.YtjijkcmbbccfmaaDoorF34
import Derived.Test.YtjijkcmbbccfmaaDoorZ1
import Derived.OwnWalk
namespace Go.Proofs.YtjijkcmbbccfmaaDoor
open Go.RowKit

theorem adlW_range : ∀ (l : List Int) (a b : Int), 0 ≤ a → a < 65521 → 0 ≤ b → b < 65521 → 0 ≤ (adlP l a b).1 ∧ (adlP l a b).1 < 65521 ∧ 0 ≤ (adlP l a b).2 ∧ (adlP l a b).2 < 65521
  | [], a, b, h1, h2, h3, h4 => ⟨h1, h2, h3, h4⟩
  | x :: l, a, b, h1, h2, h3, h4 => by
    rw [adlP]
    exact adlW_range l _ _ (by omega) (by omega) (by omega) (by omega)
theorem adlR (l : List Int) : 0 ≤ adlF l ∧ adlF l < 4294967296 := by
  have := adlW_range l 1 0 (by omega) (by omega) (by omega) (by omega)
  unfold adlF
  omega
/-- The four bytes of a sum. -/
def sumL (p : List Int) : List Int := [adlF p / 16777216, adlF p / 65536 % 256, adlF p / 256 % 256, adlF p % 256]
theorem sumL_all (p : List Int) : AllB (sumL p) := by
  have := adlR p
  intro x hx
  unfold sumL at hx
  simp only [List.mem_cons, List.not_mem_nil, or_false] at hx
  rcases hx with rfl | rfl | rfl | rfl <;> omega
/-- A stream with its frame. -/
def wrF (p : List Int) (way : Int) : List Int := [120, 1] ++ dfF p way ++ sumL p
def wrpF (p : List Int) (way : Int) : List Int × Int := if (dflF p way).2 = 0 then (wrF p way, 0) else ([], (dflF p way).2)
theorem hd_all : AllB [120, 1] := by
  intro x hx
  simp only [List.mem_cons, List.not_mem_nil, or_false] at hx
  omega
theorem wrF_all {p : List Int} (h : AllB p) (way : Int) : AllB (wrF p way) := (hd_all.append (dfF_all h way)).append (sumL_all p)
theorem wrF_length (p : List Int) (way : Int) : (wrF p way).length = (dfF p way).length + 6 := by
  unfold wrF sumL
  simp only [List.length_append, List.length_cons, List.length_nil]
  omega
theorem wrpF_all {p : List Int} (h : AllB p) (way : Int) : AllB (wrpF p way).1 := by
  unfold wrpF
  split
  · exact wrF_all h way
  · exact AllIn.nil
theorem dfl_err {p : List Int} {way : Int} (h : (dflF p way).2 = 0) : dflF p way = (dfF p way, 0) ∧ p.length ≤ 1048576 := by
  unfold dflF at h ⊢
  by_cases h1 : way < 0 ∨ 2 < way
  · rw [if_pos h1] at h
    cases h
  · rw [if_neg h1] at h ⊢
    by_cases h2 : 1048576 < p.length
    · rw [if_pos h2] at h
      cases h
    · rw [if_neg h2]
      exact ⟨rfl, by omega⟩
theorem dfl_bad {p : List Int} {way : Int} (h : ¬ (dflF p way).2 = 0) : (dflF p way).1 = [] := by
  unfold dflF at h ⊢
  by_cases h1 : way < 0 ∨ 2 < way
  · rw [if_pos h1]
  · rw [if_neg h1] at h ⊢
    by_cases h2 : 1048576 < p.length
    · rw [if_pos h2]
    · rw [if_neg h2] at h
      exact absurd rfl h

set_option maxHeartbeats 1000000 in
set_option maxRecDepth 100000 in
theorem wrap_any (pv : Value) (p : List Int) (way : Int) (w : World) (hp : Rd .u8 anyB w pv p) (ha : AllB p) :
    Calls Tryd.prog 15 #[pv, .int .i64 way] w fun e w' => ∃ v', e = .returned (.tuple #[v', .int .i64 (wrpF p way).2]) ∧ Own .u8 5 w' w.heap.size v' (wrpF p way).1 ∧ Below w.heap.size w w' := by
  obtain ⟨i0, z0, hi, hz, hs, hb0, hc⟩ := info8
  obtain ⟨pa, pc, rfl, -, -, -⟩ := hp.form
  have KD := deflate_any _ p way w hp ha
  by_cases h0 : (dflF p way).2 = 0
  · have KE : Kept (wrpF p way = (wrF p way, 0)) := ⟨by unfold wrpF; rw [if_pos h0]⟩
    obtain ⟨hd, hl⟩ := dfl_err h0
    have hDl := dfF_length hl way
    have hAr := adlR p
    rw [hd] at KD
    have KD := Kept.mk KD
    have KW : Kept (wrF p way = [120, 1] ++ dfF p way ++ [adlF p / 16777216, adlF p / 65536 % 256, adlF p / 256 % 256, adlF p % 256]) := ⟨rfl⟩
    have KAd : Kept (∀ w', Below w.heap.size w w' → Calls Tryd.prog 17 #[.slice pa p.length pc] w' fun e w2 => e = .returned (.int .u32 (adlF p)) ∧ w2 = w') := ⟨fun w' hb => adler_any w' _ p ha (hp.later hb (Nat.le_refl _))⟩
    clear hp ha h0 hd
    generalize wrF p way = Wr at *
    generalize dfF p way = D at *
    generalize adlF p = A at *
    have hb1 : i0.bytes * (D.length + 6) ≤ 281474976710656 := by rw [hb0]; omega
    have hb2 : D.length + 6 ≤ maxLen := by unfold maxLen; omega
    go_enter Tryd.func15, Tryd.ntmps15
    go_wp2_with fail
    refine Calls.mono KD.out (fun e w1 hq => ?_)
    obtain ⟨v1, rfl, ho1, hbb1⟩ := hq
    obtain ⟨a1, c1, rfl, -, -, -⟩ := ho1.rd.form
    have KO1 := Kept.mk ho1
    have KB1 := Kept.mk hbb1
    have hz1 := hbb1.size
    have K2 := Kept.mk (KAd.out w1 hbb1)
    clear ho1 hbb1 KD KAd
    go_wp2_with fail
    refine Calls.mono K2.out (fun e w2 hq => ?_)
    obtain ⟨rfl, rfl⟩ := hq
    clear K2
    go_wp2_with (first
      | (at_builtin; refine wpList_append_rd _ rfl _ _ 22 rfl .u8 anyB 1 w2.heap.size 5 i0 z0 Tryd.underlying22 hi hz hs hb0 hc (by omega) _ _ rfl KO7.out _ [A / 16777216, A / 65536 % 256, A / 256 % 256, A % 256] rfl KR7.out (by simp only [List.length_append, List.length_cons, List.length_nil]; omega) KB7.out.size ?_; intro v8 w8 o8 g8 hat8; have KB8 := Kept.mk (KB7.out.grown g8 KB7.out.size (own_ge KO7.out)); have KO8 := Kept.mk o8; clear o8 g8 hat8 KO7 KR7)
      | (at_builtin; refine wpList_append_rd _ rfl _ _ 22 rfl .u8 anyB 1 w2.heap.size 5 i0 z0 Tryd.underlying22 hi hz hs hb0 hc (by omega) _ _ rfl KO5.out _ D rfl KR5.out (by simp only [List.length_append, List.length_cons, List.length_nil]; omega) KB5.out.size ?_; intro v6 w6 o6 g6 hat6; have KB6 := Kept.mk (KB5.out.grown g6 KB5.out.size (own_ge KO5.out)); have KR7 := Kept.mk (Rd.many .u8 w6 [A / 16777216, A / 65536 % 256, A / 256 % 256, A % 256] 5 (by simp [maxLen])); have KO7 := Kept.mk (o6.alloc (.cells (cellsK .u8 [A / 16777216, A / 65536 % 256, A / 256 % 256, A % 256]).toArray 5)); have KB7 := Kept.mk (KB6.out.alloc KB6.out.size (.cells (cellsK .u8 [A / 16777216, A / 65536 % 256, A / 256 % 256, A % 256]).toArray 5)); clear o6 g6 hat6 KO5 KR5)
      | (at_builtin; refine wpList_append_rd _ rfl _ _ 22 rfl .u8 anyB 1 w2.heap.size 5 i0 z0 Tryd.underlying22 hi hz hs hb0 hc (by omega) _ [] rfl KO4.out _ [120, 1] rfl KR4.out (by simp) KB4.out.size ?_; intro v5 w5 o5 g5 hat5; have KB5 := Kept.mk (KB4.out.grown g5 KB4.out.size (own_ge KO4.out)); have KO5 := Kept.mk o5; have KR5 := Kept.mk (KO1.out.later KB5.out (Nat.le_refl _)).rd.any; clear o5 g5 hat5 KO4 KR4)
      | (at_make; refine wpList_make_own _ rfl _ _ 22 rfl w2.heap.size 5 i0 z0 1 Tryd.underlying22 hi hz hs .i64 .i64 (2 + (D.length : Int) + 4) (D.length + 6) rfl rfl (by omega) hb1 hb2 (Nat.le_refl _) ?_; intro w3 o3 g3; have hbm := (Below.refl w2.heap.size w2).grown g3 (Nat.le_refl _) (by intro k hk; cases hk); have hO3 : Own .u8 5 w3 w2.heap.size (.slice (some ⟨w2.heap.size, 0, none⟩) 0 (D.length + 6)) [] := o3; have KR4 := Kept.mk (Rd.many .u8 w3 [120, 1] 5 (by decide)); have KO4 := Kept.mk (hO3.alloc (.cells (cellsK .u8 [120, 1]).toArray 5)); have KB4 := Kept.mk (hbm.alloc hbm.size (.cells (cellsK .u8 [120, 1]).toArray 5)); clear o3 g3 hbm hO3))
    go_ret2
    rw [KE.out, KW.out]
    exact ⟨_, rfl, KO8.out.mono hz1, KB1.out.trans (KB8.out.mono hz1)⟩
  · have KE : Kept (wrpF p way = ([], (dflF p way).2)) := ⟨by unfold wrpF; rw [if_neg h0]⟩
    have hne : ¬ (dflF p way).2 = 0 := h0
    have KD := Kept.mk KD
    clear hp ha h0
    generalize (dflF p way).2 = E at *
    generalize (dflF p way).1 = D at *
    go_enter Tryd.func15, Tryd.ntmps15
    go_wp2_with fail
    refine Calls.mono KD.out (fun e w1 hq => ?_)
    obtain ⟨v1, rfl, -, hbb1⟩ := hq
    have KB1 := Kept.mk hbb1
    clear hbb1 KD
    go_wp2
    go_ret2
    rw [KE.out]
    exact ⟨_, rfl, Own.nil .u8 5 _ _, KB1.out⟩

theorem Own.litW (w : World) (xs : List Int) (h : xs.length ≤ 1000) : Own .u8 5 (w.alloc (.cells (cellsK .u8 xs).toArray 5)) w.heap.size (.slice (some ⟨w.heap.size, 0, none⟩) xs.length xs.length) xs :=
  ⟨by rw [cellsK_length, Nat.mul_one], .inr ⟨w.heap.size, xs.length, (cellsK .u8 xs).toArray, rfl, Nat.le_refl _, heap_alloc_new w _, Nat.le_refl _, by unfold maxLen; omega, by simp [cellsK], by rw [Nat.mul_one, ← cellsK_length .u8 xs]; simp⟩⟩

set_option maxHeartbeats 1000000 in
set_option maxRecDepth 100000 in
theorem rwrap_any (pv : Value) (p : List Int) (way : Int) (w : World) (hp : Rd .u8 anyB w pv p) (ha : AllB p) (hl : p.length ≤ 1048576) :
    Calls Tryd.prog 22 #[pv, .int .i64 way] w fun e w' => ∃ v', e = .returned v' ∧ Own .u8 5 w' w.heap.size v' (wrF p way) ∧ Below w.heap.size w w' := by
  obtain ⟨i0, z0, hi, hz, hs, hb0, hc⟩ := info8
  obtain ⟨pa, pc, rfl, -, -, -⟩ := hp.form
  have hba := (Below.refl w.heap.size w).alloc (Nat.le_refl _) (.cells (cellsK .u8 [120, 1]).toArray 5)
  have KD : Kept (Calls Tryd.prog 36 #[.slice pa p.length pc, .int .i64 way] (w.alloc (.cells #[.int .u8 120, .int .u8 1] 5)) fun e w' => ∃ v', e = .returned v' ∧ Own .u8 5 w' (w.alloc (.cells (cellsK .u8 [120, 1]).toArray 5)).heap.size v' (dfF p way) ∧ Below (w.alloc (.cells (cellsK .u8 [120, 1]).toArray 5)).heap.size (w.alloc (.cells (cellsK .u8 [120, 1]).toArray 5)) w') := ⟨dDeflate_any _ p way _ (hp.later hba (Nat.le_refl _)) ha (by omega)⟩
  have KO0 : Kept (Own .u8 5 (w.alloc (.cells (cellsK .u8 [120, 1]).toArray 5)) w.heap.size (.slice (some ⟨w.heap.size, 0, none⟩) 2 2) [120, 1]) := ⟨Own.litW w [120, 1] (by simp)⟩
  have hDl := dfF_length hl way
  have hAr := adlR p
  have KW : Kept (wrF p way = [120, 1] ++ dfF p way ++ [adlF p / 16777216, adlF p / 65536 % 256, adlF p / 256 % 256, adlF p % 256]) := ⟨rfl⟩
  have KAd : Kept (∀ w', Below w.heap.size w w' → Calls Tryd.prog 35 #[.slice pa p.length pc] w' fun e w2 => e = .returned (.int .u32 (adlF p)) ∧ w2 = w') := ⟨fun w' hb => radler_any w' _ p ha (hp.later hb (Nat.le_refl _))⟩
  have KB0 := Kept.mk hba
  clear hp ha hba
  generalize wrF p way = Wr at *
  generalize dfF p way = D at *
  generalize adlF p = A at *
  go_enter Tryd.func22, Tryd.ntmps22
  go_wp2_with fail
  refine Calls.mono KD.out (fun e w1 hq => ?_)
  obtain ⟨v1, rfl, ho1, hbb1⟩ := hq
  have KR1 := Kept.mk ho1.rd.any
  have KB1 := Kept.mk (KB0.out.trans (hbb1.mono KB0.out.size))
  have KO1 := Kept.mk (KO0.out.later hbb1 (Nat.le_refl _))
  clear ho1 hbb1 KD KO0
  go_wp2_with (at_builtin; refine wpList_append_rd _ rfl _ _ 22 rfl .u8 anyB 1 w.heap.size 5 i0 z0 Tryd.underlying22 hi hz hs hb0 hc (by omega) _ _ rfl KO1.out _ D rfl KR1.out (by simp only [List.length_cons, List.length_nil]; omega) KB1.out.size ?_; intro v2 w2 o2 g2 hat2; have KB2 := Kept.mk (KB1.out.grown g2 KB1.out.size (own_ge KO1.out)); have KO2 := Kept.mk o2; have K2 := Kept.mk (KAd.out w2 KB2.out); clear o2 g2 hat2 KO1 KR1)
  refine Calls.mono K2.out (fun e w3 hq => ?_)
  obtain ⟨rfl, rfl⟩ := hq
  have KR7 := Kept.mk (Rd.many .u8 w3 [A / 16777216, A / 65536 % 256, A / 256 % 256, A % 256] 5 (by simp [maxLen]))
  have KO7 := Kept.mk (KO2.out.alloc (.cells (cellsK .u8 [A / 16777216, A / 65536 % 256, A / 256 % 256, A % 256]).toArray 5))
  have KB7 := Kept.mk (KB2.out.alloc KB2.out.size (.cells (cellsK .u8 [A / 16777216, A / 65536 % 256, A / 256 % 256, A % 256]).toArray 5))
  clear K2 KO2 KB2 KAd
  go_wp2_with (at_builtin; refine wpList_append_rd _ rfl _ _ 22 rfl .u8 anyB 1 w.heap.size 5 i0 z0 Tryd.underlying22 hi hz hs hb0 hc (by omega) _ _ rfl KO7.out _ [A / 16777216, A / 65536 % 256, A / 256 % 256, A % 256] rfl KR7.out (by simp only [List.length_append, List.length_cons, List.length_nil]; omega) KB7.out.size ?_; intro v8 w8 o8 g8 hat8; have KB8 := Kept.mk (KB7.out.grown g8 KB7.out.size (own_ge KO7.out)); have KO8 := Kept.mk o8; clear o8 g8 hat8 KO7 KR7)
  go_ret
  rw [KW.out]
  exact ⟨_, rfl, KO8.out, KB8.out⟩
end Go.Proofs.YtjijkcmbbccfmaaDoor
