/-
  Walks: PutCopy, DocPutCopy.
-/
import Derived.Test.YtkidoknklgoffaaDA
namespace Go.Proofs.Ytkidoknklgoffaa
open Go.RowKit

/-- May a copy be written so? -/
def cpOk (at_ n : Int) : Prop := 0 ≤ at_ ∧ at_ < 4294967296 ∧ 1 ≤ n ∧ n < 16777216
instance (at_ n : Int) : Decidable (cpOk at_ n) := by unfold cpOk; infer_instance
/-- What PutCopy answers. -/
def AfterC (w w' : World) (p : List Int) (at_ n : Int) (e : Ending) : Prop :=
  ∃ v, e = .returned (.tuple #[v, .int .i64 (if cpOk at_ n then 0 else 1)]) ∧ Own .u8 5 w' w.heap.size v (if cpOk at_ n then p ++ cpL at_ n else []) ∧ Below w.heap.size w w'
theorem afterC_no {w : World} {p : List Int} {at_ n : Int} (h : ¬ cpOk at_ n) : AfterC w w p at_ n (.returned (.tuple #[.slice none 0 0, .int .i64 1])) :=
  ⟨.slice none 0 0, by rw [if_neg h], by rw [if_neg h]; exact Own.nil _ _ _ _, Below.refl _ _⟩

set_option maxHeartbeats 2000000 in
set_option maxRecDepth 100000 in
theorem putCopy_any {S : Nat → Prop} (v : Value) (p : List Int) (at_ n : Int) (w : World) (h : Rd .u8 S w v p) (hp : AllB p) (hl : p.length + 20 ≤ 140737488355328) :
    Calls Try.prog 14 #[v, .int .i64 at_, .int .i64 n] w fun e w' => AfterC w w' p at_ n e := by
  by_cases h0 : at_ < 0
  · have KN := Kept.mk (afterC_no (w := w) (p := p) (at_ := at_) (n := n) (fun h => by unfold cpOk at h; omega))
    have g0 : decide (at_ < 0) = true := by simpa using h0
    clear h0
    go_enter Try.func14, Try.ntmps14
    go_wp2
    go_ret2
    exact KN.out
  · have g0 : decide (at_ < 0) = false := by simpa using h0
    by_cases h1 : 4294967296 ≤ at_
    · have KN := Kept.mk (afterC_no (w := w) (p := p) (at_ := at_) (n := n) (fun h => by unfold cpOk at h; omega))
      have g1 : decide ((4294967296 : Int) ≤ at_) = true := by simpa using h1
      clear h0 h1
      go_enter Try.func14, Try.ntmps14
      go_wp2
      go_ret2
      exact KN.out
    · have g1 : decide ((4294967296 : Int) ≤ at_) = false := by simpa using h1
      by_cases h2 : n < 1
      · have KN := Kept.mk (afterC_no (w := w) (p := p) (at_ := at_) (n := n) (fun h => by unfold cpOk at h; omega))
        have g2 : decide (n < 1) = true := by simpa using h2
        clear h0 h1 h2
        go_enter Try.func14, Try.ntmps14
        go_wp2
        go_ret2
        exact KN.out
      · have g2 : decide (n < 1) = false := by simpa using h2
        by_cases h3 : 16777216 ≤ n
        · have KN := Kept.mk (afterC_no (w := w) (p := p) (at_ := at_) (n := n) (fun h => by unfold cpOk at h; omega))
          have g3 : decide ((16777216 : Int) ≤ n) = true := by simpa using h3
          clear h0 h1 h2 h3
          go_enter Try.func14, Try.ntmps14
          go_wp2
          go_ret2
          exact KN.out
        · have g3 : decide ((16777216 : Int) ≤ n) = false := by simpa using h3
          obtain ⟨A, rfl⟩ := Int.eq_ofNat_of_zero_le (show 0 ≤ at_ by omega)
          obtain ⟨N, rfl⟩ := Int.eq_ofNat_of_zero_le (show 0 ≤ n by omega)
          have hok : cpOk A N := by unfold cpOk; omega
          have hA : A < 4294967296 := by omega
          have hN : N < 16777216 := by omega
          have hN1 : 1 ≤ N := by omega
          have KOk := Kept.mk hok
          clear h0 h1 h2 h3 hok
          have K1 := Kept.mk (Nu.clone_any v p w (nuRd h hp) (by omega))
          clear h hp
          go_enter Try.func14, Try.ntmps14
          go_wp2_with fail
          refine Calls.mono K1.out (fun e w1 hp => ?_)
          obtain ⟨v1, rfl, ho1, hb1⟩ := hp
          have hO1 : Own .u8 5 w1 w.heap.size v1 p := ho1
          have K2 := Kept.mk (appendCopy_any v1 p A N w1 w.heap.size hO1 hb1.size hA hN (by omega))
          have KB1 := Kept.mk hb1
          have KO1 := Kept.mk hO1
          clear ho1 hb1 hO1 K1
          go_wp2_with fail
          refine Calls.mono K2.out (fun e w2 hp => ?_)
          obtain ⟨v2, rfl, ho2, hg2⟩ := hp
          have KB2 := Kept.mk (KB1.out.trans (hg2.below KB1.out.size (own_ge KO1.out)))
          have KO2 := Kept.mk ho2
          clear ho2 hg2
          go_wp2
          go_ret2
          refine ⟨v2, ?_, ?_, KB2.out⟩
          · rw [if_pos KOk.out]
            rfl
          · rw [if_pos KOk.out]
            exact KO2.out

set_option maxHeartbeats 2000000 in
set_option maxRecDepth 100000 in
theorem docPutCopy_any {S : Nat → Prop} (v : Value) (p : List Int) (at_ n : Int) (w : World) (h : Rd .u8 S w v p) (hl : p.length + 20 ≤ 140737488355328) :
    Calls Try.prog 15 #[v, .int .i64 at_, .int .i64 n] w fun e w' => AfterC w w' p at_ n e := by
  by_cases h0 : at_ < 0
  · have KN := Kept.mk (afterC_no (w := w) (p := p) (at_ := at_) (n := n) (fun h => by unfold cpOk at h; omega))
    have g0 : decide (at_ < 0) = true := by simpa using h0
    clear h0
    go_enter Try.func15, Try.ntmps15
    go_wp2
    go_ret2
    exact KN.out
  · have g0 : decide (at_ < 0) = false := by simpa using h0
    by_cases h1 : 4294967296 ≤ at_
    · have KN := Kept.mk (afterC_no (w := w) (p := p) (at_ := at_) (n := n) (fun h => by unfold cpOk at h; omega))
      have g1 : decide ((4294967296 : Int) ≤ at_) = true := by simpa using h1
      clear h0 h1
      go_enter Try.func15, Try.ntmps15
      go_wp2
      go_ret2
      exact KN.out
    · have g1 : decide ((4294967296 : Int) ≤ at_) = false := by simpa using h1
      by_cases h2 : n < 1
      · have KN := Kept.mk (afterC_no (w := w) (p := p) (at_ := at_) (n := n) (fun h => by unfold cpOk at h; omega))
        have g2 : decide (n < 1) = true := by simpa using h2
        clear h0 h1 h2
        go_enter Try.func15, Try.ntmps15
        go_wp2
        go_ret2
        exact KN.out
      · have g2 : decide (n < 1) = false := by simpa using h2
        by_cases h3 : 16777216 ≤ n
        · have KN := Kept.mk (afterC_no (w := w) (p := p) (at_ := at_) (n := n) (fun h => by unfold cpOk at h; omega))
          have g3 : decide ((16777216 : Int) ≤ n) = true := by simpa using h3
          clear h0 h1 h2 h3
          go_enter Try.func15, Try.ntmps15
          go_wp2
          go_ret2
          exact KN.out
        · have g3 : decide ((16777216 : Int) ≤ n) = false := by simpa using h3
          obtain ⟨A, rfl⟩ := Int.eq_ofNat_of_zero_le (show 0 ≤ at_ by omega)
          obtain ⟨N, rfl⟩ := Int.eq_ofNat_of_zero_le (show 0 ≤ n by omega)
          have hok : cpOk A N := by unfold cpOk; omega
          have hA : A < 4294967296 := by omega
          have hN : N < 16777216 := by omega
          have hN1 : 1 ≤ N := by omega
          have KOk := Kept.mk hok
          clear h0 h1 h2 h3 hok
          obtain ⟨i0, z0, hi, hz, hs, hb0, hc⟩ := info8
          have KH := Kept.mk h
          clear h
          by_cases hn6 : N = 65536
          · subst hn6
            have e6 : ((65536 : Nat) : Int) = 65536 := rfl
            rw [e6] at KOk g2 g3 ⊢
            have hcp : Kept (cpL A 65536 = (cpA A 0 7).1 :: (cpA A 0 7).2) := ⟨rfl⟩
            go_enter Try.func15, Try.ntmps15
            go_wp2
            go_loopw [8, 9, 10] (fun cv lv iv wr => ∃ k : Nat, iv = .int .i64 k ∧ k ≤ 7 ∧ cv = .int .u8 (cpA A 0 k).1 ∧ Own .u8 5 wr w.heap.size lv (cpA A 0 k).2 ∧ Below w.heap.size w wr) (fun _ _ iv _ => 7 - (intOf iv).toNat)
            case atStart => exact ⟨0, rfl, by omega, rfl, Own.nil _ _ _ _, Below.refl _ _⟩
            case round =>
              obtain ⟨k, rfl, hk, rfl, how, hbel⟩ := hrel
              have hwz := hbel.size
              have KB := Kept.mk hbel
              have hlen := cpA_len A 0 k
              have hrg := cpA_range A 0 k
              have hstep : Kept (cpA A 0 (k + 1) = if byF A 0 k = 0 then cpA A 0 k else ((cpA A 0 k).1 + 2 ^ k, (cpA A 0 k).2 ++ [byF A 0 k])) := ⟨rfl⟩
              have hcd : Kept (cpA A 0 k = ((cpA A 0 k).1, (cpA A 0 k).2)) := ⟨rfl⟩
              generalize (cpA A 0 k).1 = C at *
              generalize (cpA A 0 k).2 = L at *
              obtain ⟨la, lc, rfl, -, -, -⟩ := how.rd.form
              have KW := Kept.mk how
              clear hbel how
              by_cases hk7 : k = 7
              · subst hk7
                have h7 : cpL A 65536 = C :: L := by rw [hcp.out, hcd.out]
                have K7 := Kept.mk h7
                have hC : 0 ≤ C ∧ C < 256 := by
                  have := hrg.2
                  simp only [Int.reducePow] at this
                  omega
                have KRp := Kept.mk (KH.out.later KB.out (Nat.le_refl _))
                clear h7 hrg
                go_wp2_with (first | (at_builtin; refine wpList_append_rd _ rfl _ _ 22 rfl .u8 S 1 wr.heap.size 5 i0 z0 Try.underlying22 hi hz hs hb0 hc (by omega) (.slice none 0 0) [] rfl (Own.nil _ _ _ _) _ p rfl KRp.out (by simp; omega) (Nat.le_refl _) ?_; intro v5 w5 hown hgrow hat; rw [List.nil_append] at hown; obtain ⟨pa5, pc5, rfl, -, -, -⟩ := hown.rd.form; have hB5 : Below wr.heap.size wr w5 := (Below.refl _ wr).grown hgrow (Nat.le_refl _) (fun k e => by simp [Value.ownBlock] at e); have KO5 := Kept.mk (hown.alloc (.cells #[.int .u8 C] 5)); have KR5 := Kept.mk (Rd.one .u8 w5 C 5); have KL5 := Kept.mk (KW.out.later (hB5.alloc hB5.size (.cells #[.int .u8 C] 5)) (Nat.le_refl _)); have hz5 := hB5.size; have KB5 := Kept.mk (hB5.alloc hB5.size (.cells #[.int .u8 C] 5)); clear hown hgrow hat hB5) | (at_builtin; refine wpList_append_rd _ rfl _ _ 22 rfl .u8 anyB 1 wr.heap.size 5 i0 z0 Try.underlying22 hi hz hs hb0 hc (by omega) (.slice pa5 p.length pc5) p rfl KO5.out _ [C] rfl KR5.out (by simp; omega) (by simp; omega) ?_; intro v6 w6 hown hgrow hat; obtain ⟨pa6, pc6, rfl, -, -, -⟩ := hown.rd.form; rw [List.length_append] at hown; have hB6 : Below wr.heap.size wr w6 := KB5.out.grown hgrow (by simp; omega) (own_ge KO5.out); have KO6 : Kept (Own .u8 5 w6 wr.heap.size (.slice pa6 (p.length + 1) pc6) (p ++ [C])) := ⟨hown⟩; have KL6 := Kept.mk ((KW.out.later hB6 (Nat.le_refl _)).rd); have hz6 := hB6.size; have KB6 := Kept.mk hB6; clear hown hgrow hat hB6) | (at_builtin; refine wpList_append_rd _ rfl _ _ 22 rfl .u8 _ 1 wr.heap.size 5 i0 z0 Try.underlying22 hi hz hs hb0 hc (by omega) (.slice pa6 (p.length + 1) pc6) (p ++ [C]) rfl KO6.out _ L rfl KL6.out (by simp; omega) (by omega) ?_; intro v7 w7 hown hgrow hat; have KO7 := Kept.mk hown; have KB7 := Kept.mk (KB6.out.grown hgrow (by omega) (own_ge KO6.out)); clear hown hgrow hat))
                go_ret2
                refine ⟨v7, ?_, ?_, KB.out.trans (KB7.out.mono hwz)⟩
                · rw [if_pos KOk.out]
                  rfl
                · rw [if_pos KOk.out, K7.out]
                  have := KO7.out.mono (base' := w.heap.size) hwz
                  rw [List.append_assoc] at this
                  exact this
              · have hkl : decide ((k : Int) < 7) = true := by simp; omega
                have hpw : (2 : Int) ^ k ≤ 64 := by
                  have : (2 : Nat) ^ k ≤ 2 ^ 6 := Nat.pow_le_pow_right (by omega) (by omega)
                  exact_mod_cast this
                have hpw0 : (0 : Int) < 2 ^ k := Int.pow_pos (by omega)
                have KCw : Kept ((C + 2 ^ k) % 256 = C + 2 ^ k) := ⟨by rw [Int.emod_eq_of_lt (by omega) (by omega)]⟩
                clear hpw hpw0 hrg
                by_cases h4 : k < 4
                · have h4o : decide ((3 : Int) < (k : Int)) = false := by simp; omega
                  have hby : byF A 0 k = (A : Int) / 2 ^ (8 * k) % 256 := by unfold byF; rw [if_pos h4, show (256 : Int) ^ k = 2 ^ (8 * k) from by rw [Int.pow_mul]; rfl]
                  by_cases hz0 : (A : Int) / 2 ^ (8 * k) % 256 = 0
                  · have hzo : decide ((0 : Int) < (A : Int) / 2 ^ (8 * k) % 256) = false := by simp; omega
                    have KT : Kept (cpA A 0 (k + 1) = (C, L)) := ⟨by rw [hstep.out, if_pos (by rw [hby]; exact hz0), hcd.out]⟩
                    clear hz0 hby h4
                    go_wp2
                    exact ⟨⟨k + 1, rfl, by omega, by rw [KT.out], by rw [KT.out]; exact KW.out, KB.out⟩, by simp [intOf]; omega⟩
                  · have hzo : decide ((0 : Int) < (A : Int) / 2 ^ (8 * k) % 256) = true := by simp; omega
                    have KT : Kept (cpA A 0 (k + 1) = (C + 2 ^ k, L ++ [(A : Int) / 2 ^ (8 * k) % 256])) := ⟨by rw [hstep.out, if_neg (by rw [hby]; exact hz0), hby]⟩
                    clear hz0 hby h4
                    go_upto_region 14 with fail
                    generalize (A : Int) / 2 ^ (8 * k) % 256 = b at *
                    have KR1 := Kept.mk (Rd.one .u8 wr b 5)
                    have KW1 := Kept.mk (KW.out.alloc (.cells #[.int .u8 b] 5))
                    have KB1 := Kept.mk (KB.out.alloc hwz (.cells #[.int .u8 b] 5))
                    go_wp2_with (at_builtin; refine wpList_append_rd _ rfl _ _ 22 rfl .u8 anyB 1 w.heap.size 5 i0 z0 Try.underlying22 hi hz hs hb0 hc (by omega) (.slice la L.length lc) L rfl KW1.out _ [b] rfl KR1.out (by simp; omega) (by simp; omega) ?_; intro v4 w4 hown hgrow hat; obtain ⟨na4, nc4, rfl, -, -, -⟩ := hown.rd.form; have KO4 := Kept.mk hown; have KG4 := Kept.mk (KB1.out.grown hgrow (by simp; omega) (own_ge KW1.out)); clear hown hgrow hat)
                    have h1 := KO4.out
                    rw [List.length_append] at h1
                    have hcw := KCw.out
                    exact ⟨⟨k + 1, rfl, by omega, by rw [KT.out]; simp only [hcw], by rw [KT.out]; exact h1, KG4.out⟩, by simp [intOf]; omega⟩
                · obtain ⟨j, rfl⟩ : ∃ j, k = j + 4 := ⟨k - 4, by omega⟩
                  have hj : decide ((j : Int) + 4 < 7) = true := by simp; omega
                  have h4o : decide ((3 : Int) < (j : Int) + 4) = true := by simp; omega
                  have hby : byF A 0 (j + 4) = 0 := by unfold byF; rw [if_neg h4]; simp
                  have KT : Kept (cpA A 0 (j + 4 + 1) = (C, L)) := ⟨by rw [hstep.out, if_pos hby, hcd.out]⟩
                  clear hby h4
                  go_wp2
                  exact ⟨⟨j + 4 + 1, rfl, by omega, by rw [KT.out], by rw [KT.out]; exact KW.out, KB.out⟩, by simp [intOf]; omega⟩
          · have hno : ((N : Int) == 65536) = false := by simp; omega
            have hcp : Kept (cpL A N = (cpA A N 7).1 :: (cpA A N 7).2) := ⟨by unfold cpL; rw [if_neg (by omega)]⟩
            clear hn6
            go_enter Try.func15, Try.ntmps15
            go_wp2
            go_loopw [8, 9, 10] (fun cv lv iv wr => ∃ k : Nat, iv = .int .i64 k ∧ k ≤ 7 ∧ cv = .int .u8 (cpA A N k).1 ∧ Own .u8 5 wr w.heap.size lv (cpA A N k).2 ∧ Below w.heap.size w wr) (fun _ _ iv _ => 7 - (intOf iv).toNat)
            case atStart => exact ⟨0, rfl, by omega, rfl, Own.nil _ _ _ _, Below.refl _ _⟩
            case round =>
              obtain ⟨k, rfl, hk, rfl, how, hbel⟩ := hrel
              have hwz := hbel.size
              have KB := Kept.mk hbel
              have hlen := cpA_len A N k
              have hrg := cpA_range A N k
              have hstep : Kept (cpA A N (k + 1) = if byF A N k = 0 then cpA A N k else ((cpA A N k).1 + 2 ^ k, (cpA A N k).2 ++ [byF A N k])) := ⟨rfl⟩
              have hcd : Kept (cpA A N k = ((cpA A N k).1, (cpA A N k).2)) := ⟨rfl⟩
              generalize (cpA A N k).1 = C at *
              generalize (cpA A N k).2 = L at *
              obtain ⟨la, lc, rfl, -, -, -⟩ := how.rd.form
              have KW := Kept.mk how
              clear hbel how
              by_cases hk7 : k = 7
              · subst hk7
                have h7 : cpL A N = C :: L := by rw [hcp.out, hcd.out]
                have K7 := Kept.mk h7
                have hC : 0 ≤ C ∧ C < 256 := by
                  have := hrg.2
                  simp only [Int.reducePow] at this
                  omega
                have KRp := Kept.mk (KH.out.later KB.out (Nat.le_refl _))
                clear h7 hrg
                go_wp2_with (first | (at_builtin; refine wpList_append_rd _ rfl _ _ 22 rfl .u8 S 1 wr.heap.size 5 i0 z0 Try.underlying22 hi hz hs hb0 hc (by omega) (.slice none 0 0) [] rfl (Own.nil _ _ _ _) _ p rfl KRp.out (by simp; omega) (Nat.le_refl _) ?_; intro v5 w5 hown hgrow hat; rw [List.nil_append] at hown; obtain ⟨pa5, pc5, rfl, -, -, -⟩ := hown.rd.form; have hB5 : Below wr.heap.size wr w5 := (Below.refl _ wr).grown hgrow (Nat.le_refl _) (fun k e => by simp [Value.ownBlock] at e); have KO5 := Kept.mk (hown.alloc (.cells #[.int .u8 C] 5)); have KR5 := Kept.mk (Rd.one .u8 w5 C 5); have KL5 := Kept.mk (KW.out.later (hB5.alloc hB5.size (.cells #[.int .u8 C] 5)) (Nat.le_refl _)); have hz5 := hB5.size; have KB5 := Kept.mk (hB5.alloc hB5.size (.cells #[.int .u8 C] 5)); clear hown hgrow hat hB5) | (at_builtin; refine wpList_append_rd _ rfl _ _ 22 rfl .u8 anyB 1 wr.heap.size 5 i0 z0 Try.underlying22 hi hz hs hb0 hc (by omega) (.slice pa5 p.length pc5) p rfl KO5.out _ [C] rfl KR5.out (by simp; omega) (by simp; omega) ?_; intro v6 w6 hown hgrow hat; obtain ⟨pa6, pc6, rfl, -, -, -⟩ := hown.rd.form; rw [List.length_append] at hown; have hB6 : Below wr.heap.size wr w6 := KB5.out.grown hgrow (by simp; omega) (own_ge KO5.out); have KO6 : Kept (Own .u8 5 w6 wr.heap.size (.slice pa6 (p.length + 1) pc6) (p ++ [C])) := ⟨hown⟩; have KL6 := Kept.mk ((KW.out.later hB6 (Nat.le_refl _)).rd); have hz6 := hB6.size; have KB6 := Kept.mk hB6; clear hown hgrow hat hB6) | (at_builtin; refine wpList_append_rd _ rfl _ _ 22 rfl .u8 _ 1 wr.heap.size 5 i0 z0 Try.underlying22 hi hz hs hb0 hc (by omega) (.slice pa6 (p.length + 1) pc6) (p ++ [C]) rfl KO6.out _ L rfl KL6.out (by simp; omega) (by omega) ?_; intro v7 w7 hown hgrow hat; have KO7 := Kept.mk hown; have KB7 := Kept.mk (KB6.out.grown hgrow (by omega) (own_ge KO6.out)); clear hown hgrow hat))
                go_ret2
                refine ⟨v7, ?_, ?_, KB.out.trans (KB7.out.mono hwz)⟩
                · rw [if_pos KOk.out]
                  rfl
                · rw [if_pos KOk.out, K7.out]
                  have := KO7.out.mono (base' := w.heap.size) hwz
                  rw [List.append_assoc] at this
                  exact this
              · have hkl : decide ((k : Int) < 7) = true := by simp; omega
                have hpw : (2 : Int) ^ k ≤ 64 := by
                  have : (2 : Nat) ^ k ≤ 2 ^ 6 := Nat.pow_le_pow_right (by omega) (by omega)
                  exact_mod_cast this
                have hpw0 : (0 : Int) < 2 ^ k := Int.pow_pos (by omega)
                have KCw : Kept ((C + 2 ^ k) % 256 = C + 2 ^ k) := ⟨by rw [Int.emod_eq_of_lt (by omega) (by omega)]⟩
                clear hpw hpw0 hrg
                by_cases h4 : k < 4
                · have h4o : decide ((3 : Int) < (k : Int)) = false := by simp; omega
                  have hby : byF A N k = (A : Int) / 2 ^ (8 * k) % 256 := by unfold byF; rw [if_pos h4, show (256 : Int) ^ k = 2 ^ (8 * k) from by rw [Int.pow_mul]; rfl]
                  by_cases hz0 : (A : Int) / 2 ^ (8 * k) % 256 = 0
                  · have hzo : decide ((0 : Int) < (A : Int) / 2 ^ (8 * k) % 256) = false := by simp; omega
                    have KT : Kept (cpA A N (k + 1) = (C, L)) := ⟨by rw [hstep.out, if_pos (by rw [hby]; exact hz0), hcd.out]⟩
                    clear hz0 hby h4
                    go_wp2
                    exact ⟨⟨k + 1, rfl, by omega, by rw [KT.out], by rw [KT.out]; exact KW.out, KB.out⟩, by simp [intOf]; omega⟩
                  · have hzo : decide ((0 : Int) < (A : Int) / 2 ^ (8 * k) % 256) = true := by simp; omega
                    have KT : Kept (cpA A N (k + 1) = (C + 2 ^ k, L ++ [(A : Int) / 2 ^ (8 * k) % 256])) := ⟨by rw [hstep.out, if_neg (by rw [hby]; exact hz0), hby]⟩
                    clear hz0 hby h4
                    go_upto_region 14 with fail
                    generalize (A : Int) / 2 ^ (8 * k) % 256 = b at *
                    have KR1 := Kept.mk (Rd.one .u8 wr b 5)
                    have KW1 := Kept.mk (KW.out.alloc (.cells #[.int .u8 b] 5))
                    have KB1 := Kept.mk (KB.out.alloc hwz (.cells #[.int .u8 b] 5))
                    go_wp2_with (at_builtin; refine wpList_append_rd _ rfl _ _ 22 rfl .u8 anyB 1 w.heap.size 5 i0 z0 Try.underlying22 hi hz hs hb0 hc (by omega) (.slice la L.length lc) L rfl KW1.out _ [b] rfl KR1.out (by simp; omega) (by simp; omega) ?_; intro v4 w4 hown hgrow hat; obtain ⟨na4, nc4, rfl, -, -, -⟩ := hown.rd.form; have KO4 := Kept.mk hown; have KG4 := Kept.mk (KB1.out.grown hgrow (by simp; omega) (own_ge KW1.out)); clear hown hgrow hat)
                    have h1 := KO4.out
                    rw [List.length_append] at h1
                    have hcw := KCw.out
                    exact ⟨⟨k + 1, rfl, by omega, by rw [KT.out]; simp only [hcw], by rw [KT.out]; exact h1, KG4.out⟩, by simp [intOf]; omega⟩
                · obtain ⟨j, rfl⟩ : ∃ j, k = j + 4 := ⟨k - 4, by omega⟩
                  have hj : decide ((j : Int) + 4 < 7) = true := by simp; omega
                  have h4o : decide ((3 : Int) < (j : Int) + 4) = true := by simp; omega
                  have hby : byF A N (j + 4) = (N : Int) / 2 ^ (8 * j) % 256 := by unfold byF; rw [if_neg h4, Nat.add_sub_cancel, show (256 : Int) ^ j = 2 ^ (8 * j) from by rw [Int.pow_mul]; rfl]
                  by_cases hz0 : (N : Int) / 2 ^ (8 * j) % 256 = 0
                  · have hzo : decide ((0 : Int) < (N : Int) / 2 ^ (8 * j) % 256) = false := by simp; omega
                    have KT : Kept (cpA A N (j + 4 + 1) = (C, L)) := ⟨by rw [hstep.out, if_pos (by rw [hby]; exact hz0), hcd.out]⟩
                    clear hz0 hby h4
                    go_wp2
                    exact ⟨⟨j + 4 + 1, rfl, by omega, by rw [KT.out], by rw [KT.out]; exact KW.out, KB.out⟩, by simp [intOf]; omega⟩
                  · have hzo : decide ((0 : Int) < (N : Int) / 2 ^ (8 * j) % 256) = true := by simp; omega
                    have KT : Kept (cpA A N (j + 4 + 1) = (C + 2 ^ (j + 4), L ++ [(N : Int) / 2 ^ (8 * j) % 256])) := ⟨by rw [hstep.out, if_neg (by rw [hby]; exact hz0), hby]⟩
                    clear hz0 hby h4
                    go_upto_region 14 with fail
                    generalize (N : Int) / 2 ^ (8 * j) % 256 = b at *
                    have KR1 := Kept.mk (Rd.one .u8 wr b 5)
                    have KW1 := Kept.mk (KW.out.alloc (.cells #[.int .u8 b] 5))
                    have KB1 := Kept.mk (KB.out.alloc hwz (.cells #[.int .u8 b] 5))
                    go_wp2_with (at_builtin; refine wpList_append_rd _ rfl _ _ 22 rfl .u8 anyB 1 w.heap.size 5 i0 z0 Try.underlying22 hi hz hs hb0 hc (by omega) (.slice la L.length lc) L rfl KW1.out _ [b] rfl KR1.out (by simp; omega) (by simp; omega) ?_; intro v4 w4 hown hgrow hat; obtain ⟨na4, nc4, rfl, -, -, -⟩ := hown.rd.form; have KO4 := Kept.mk hown; have KG4 := Kept.mk (KB1.out.grown hgrow (by simp; omega) (own_ge KW1.out)); clear hown hgrow hat)
                    have h1 := KO4.out
                    rw [List.length_append] at h1
                    have hcw := KCw.out
                    exact ⟨⟨j + 4 + 1, rfl, by omega, by rw [KT.out]; simp only [hcw], by rw [KT.out]; exact h1, KG4.out⟩, by simp [intOf]; omega⟩
end Go.Proofs.Ytkidoknklgoffaa
