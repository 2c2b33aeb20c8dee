/-
  Walks: blocksOf.
-/
import Derived.Test.YtkidoknklgoffaaDK
namespace Go.Proofs.Ytkidoknklgoffaa
open Go.RowKit

set_option maxHeartbeats 2000000 in
set_option maxRecDepth 100000 in
theorem blocksOf_any {S : Nat → Prop} (bv : Value) (base : List Int) (w : World) (g : Rd .u8 S w bv base) (hg : AllB base) (hgl : base.length ≤ 1048576) :
    Calls Try.prog 27 #[bv] w fun e w' => ∃ (bm n : Nat) (D : DataW Unit), e = .returned (.map (some bm)) ∧ w.heap.size ≤ bm ∧ w'.ownsMap Try.prog 54 (plainElem Try.prog 3) bm n D ∧ MapOk base D ∧ (16 ≤ base.length → Fst base D) ∧ Below w.heap.size w w' := by
  obtain ⟨ba, bc, rfl, -, hbl, hbm⟩ := g.form
  have hm := run_makeMap_hint ((base.length : Int) / 16) w
  have KG := Kept.mk g
  have KA := Kept.mk hg
  unfold maxLen at hbm
  clear g hg
  have hown0 := Kept.mk (World.ownsMap_made (H := Unit) w Try.prog 54 (plainElem Try.prog 3))
  have KB0 := Kept.mk ((Below.refl w.heap.size w).alloc (Nat.le_refl _) (.map #[] 0))
  go_enter Try.func27, Try.ntmps27
  go_wp2_with (simp only [hm])
  go_loopw [4] (fun av wr => ∃ (a n : Nat) (D : DataW Unit), av = .int .i64 a ∧ n ≤ a ∧ a ≤ base.length + 16 ∧ wr.ownsMap Try.prog 54 (plainElem Try.prog 3) w.heap.size n D ∧ MapOk base D ∧ (0 < a → 16 ≤ base.length → Fst base D) ∧ (a = 0 → D = .map []) ∧ Below w.heap.size w wr) (fun av _ => base.length + 17 - (intOf av).toNat)
  case atStart => exact ⟨0, 0, .map [], rfl, Nat.le_refl _, by omega, hown0.out, mapOk_empty base, fun h => absurd h (by omega), fun _ => rfl, KB0.out⟩
  case round =>
    obtain ⟨a, n, D, rfl, hn, hal, hown, hok, hfst, hz, hbel⟩ := hrel
    have KO := Kept.mk hown
    have KK := Kept.mk (And.intro hok (And.intro hfst hz))
    have KB := Kept.mk hbel
    have hwz := hbel.size
    clear hown hok hfst hz hbel
    by_cases hin : a + 16 ≤ base.length
    · have hino : decide ((a : Int) + 16 ≤ (base.length : Int)) = true := by simp; omega
      have hbl2 := block_len hin
      have hAb := (KA.out.drop a).take 16
      obtain ⟨ib, io, ic2, he1, hib, -, -, -, hcb0⟩ := KG.out.open (by omega)
      simp only [Value.slice.injEq, true_and] at he1
      obtain ⟨rfl, rfl⟩ := he1
      have hb3 : ¬ bc = a := by omega
      have hab : (a : Int) ≤ (base.length : Int) := by omega
      have hat : ∀ w, (Instr.arrayAt 54 (.slice (some ⟨ib, io + a, none⟩) (base.length - a) (bc - a))).run Try.prog w = .ok (.pointer (some ⟨ib, io + a, none⟩)) w := fun w => run_arrayAt w 54 _ 16 _ _ _ Try.underlying54 (by omega)
      have hcb : ∀ k, k < 16 → wr.cell? ⟨ib, io + a + k, none⟩ = some (.int .u8 (((base.drop a).take 16).getD k 0)) := by
        intro k hk
        rw [KB.out.cell (p := ⟨ib, io + a + k, none⟩) hib, Nat.add_assoc, hcb0 (a + k) (by omega)]
        congr 2
        simp only [List.getD, List.getElem?_drop, List.getElem?_take]
        rw [if_pos hk]
      have KKey := Kept.mk (key_some _ hbl2 hAb)
      obtain ⟨ks, hks⟩ : ∃ ks, ks = (base.drop a).take 16 := ⟨_, rfl⟩
      rw [← hks] at hcb KKey hbl2
      have KKs := Kept.mk hks
      clear hks hAb hcb0
      match ks, hbl2 with
      | [x0, x1, x2, x3, x4, x5, x6, x7, x8, x9, x10, x11, x12, x13, x14, x15], _ =>
        clear hbl2
        have cx0 : wr.cell? ⟨ib, io + a, none⟩ = some (.int .u8 x0) := hcb 0 (by omega)
        have cx1 : wr.cell? ⟨ib, io + a + 1, none⟩ = some (.int .u8 x1) := hcb 1 (by omega)
        have cx2 : wr.cell? ⟨ib, io + a + 2, none⟩ = some (.int .u8 x2) := hcb 2 (by omega)
        have cx3 : wr.cell? ⟨ib, io + a + 3, none⟩ = some (.int .u8 x3) := hcb 3 (by omega)
        have cx4 : wr.cell? ⟨ib, io + a + 4, none⟩ = some (.int .u8 x4) := hcb 4 (by omega)
        have cx5 : wr.cell? ⟨ib, io + a + 5, none⟩ = some (.int .u8 x5) := hcb 5 (by omega)
        have cx6 : wr.cell? ⟨ib, io + a + 6, none⟩ = some (.int .u8 x6) := hcb 6 (by omega)
        have cx7 : wr.cell? ⟨ib, io + a + 7, none⟩ = some (.int .u8 x7) := hcb 7 (by omega)
        have cx8 : wr.cell? ⟨ib, io + a + 8, none⟩ = some (.int .u8 x8) := hcb 8 (by omega)
        have cx9 : wr.cell? ⟨ib, io + a + 9, none⟩ = some (.int .u8 x9) := hcb 9 (by omega)
        have cx10 : wr.cell? ⟨ib, io + a + 10, none⟩ = some (.int .u8 x10) := hcb 10 (by omega)
        have cx11 : wr.cell? ⟨ib, io + a + 11, none⟩ = some (.int .u8 x11) := hcb 11 (by omega)
        have cx12 : wr.cell? ⟨ib, io + a + 12, none⟩ = some (.int .u8 x12) := hcb 12 (by omega)
        have cx13 : wr.cell? ⟨ib, io + a + 13, none⟩ = some (.int .u8 x13) := hcb 13 (by omega)
        have cx14 : wr.cell? ⟨ib, io + a + 14, none⟩ = some (.int .u8 x14) := hcb 14 (by omega)
        have cx15 : wr.cell? ⟨ib, io + a + 15, none⟩ = some (.int .u8 x15) := hcb 15 (by omega)
        clear hcb
        have KKey2 : Kept (keyOf Try.prog 54 (.agg #[.int .u8 x0, .int .u8 x1, .int .u8 x2, .int .u8 x3, .int .u8 x4, .int .u8 x5, .int .u8 x6, .int .u8 x7, .int .u8 x8, .int .u8 x9, .int .u8 x10, .int .u8 x11, .int .u8 x12, .int .u8 x13, .int .u8 x14, .int .u8 x15]) = some (klF [x0, x1, x2, x3, x4, x5, x6, x7, x8, x9, x10, x11, x12, x13, x14, x15])) := KKey
        clear KKey
        go_upto_region 6 with (simp only [hat])
        clear cx0 cx1 cx2 cx3 cx4 cx5 cx6 cx7 cx8 cx9 cx10 cx11 cx12 cx13 cx14 cx15 hat hm
        have KO1 := Kept.mk (KO.out.alloc (.cells #[.int .u8 x0, .int .u8 x1, .int .u8 x2, .int .u8 x3, .int .u8 x4, .int .u8 x5, .int .u8 x6, .int .u8 x7, .int .u8 x8, .int .u8 x9, .int .u8 x10, .int .u8 x11, .int .u8 x12, .int .u8 x13, .int .u8 x14, .int .u8 x15] 54))
        have KB1 := Kept.mk (KB.out.alloc (by omega) (.cells #[.int .u8 x0, .int .u8 x1, .int .u8 x2, .int .u8 x3, .int .u8 x4, .int .u8 x5, .int .u8 x6, .int .u8 x7, .int .u8 x8, .int .u8 x9, .int .u8 x10, .int .u8 x11, .int .u8 x12, .int .u8 x13, .int .u8 x14, .int .u8 x15] 54))
        by_cases hh : Maps.has D (klF [x0, x1, x2, x3, x4, x5, x6, x7, x8, x9, x10, x11, x12, x13, x14, x15]) = true
        · have KH := Kept.mk hh
          go_wp2_with (first | (at_lookup; refine wpList_lookup_own_ok_int _ rfl _ _ 51 rfl 54 3 .i64 keyed16 Try.underlying51 Try.underlying3 (zeroI _) w.heap.size n D rfl KO1.out _ _ rfl KKey2.out ?_; intro c hat hwc; rw [KH.out]; clear hat hwc))
          refine ⟨⟨a + 16, n, D, rfl, by omega, by omega, KO1.out, KK.out.1, fun _ h16 => ?_, fun h => absurd h (by omega), KB1.out⟩, by simp [intOf]; omega⟩
          by_cases ha0 : a = 0
          · have hD := KK.out.2.2 ha0
            have hh2 := KH.out
            rw [hD] at hh2
            simp [Maps.has] at hh2
          · exact KK.out.2.1 (by omega) h16
        · have hh2 : Maps.has D (klF [x0, x1, x2, x3, x4, x5, x6, x7, x8, x9, x10, x11, x12, x13, x14, x15]) = false := by simpa using hh
          have KH := Kept.mk hh2
          have hwfa : (Lit.int .i64 (a : Int)).wf = true := by
            have e1 : IntKind.i64.min = -9223372036854775808 := rfl
            have e2 : IntKind.i64.max = 9223372036854775807 := rfl
            simp only [Lit.wf, e1, e2, Bool.and_eq_true, decide_eq_true_eq]
            omega
          have KE := Kept.mk (plainElem_int (H := Unit) (P := Try.prog) Try.underlying3 hwfa)
          have hnm : n < maxLen := by unfold maxLen; omega
          clear hh hh2 hwfa
          go_wp2_with (first | (at_lookup; refine wpList_lookup_own_ok_int _ rfl _ _ 51 rfl 54 3 .i64 keyed16 Try.underlying51 Try.underlying3 (zeroI _) w.heap.size n D rfl KO1.out _ _ rfl KKey2.out ?_; intro c hat hwc; rw [KH.out]; clear hat hwc) | (at_mapUpdate; refine wpList_mapUpdate_own _ rfl _ _ _ 51 rfl 54 3 keyed16 Try.underlying51 (plainElem Try.prog 3) w.heap.size n D rfl KO1.out hnm _ _ _ rfl rfl KKey2.out _ _ KE.out ?_; intro w2 hown2 hgrow2; have KO2 := Kept.mk hown2; have KG2 := Kept.mk (KB1.out.grown hgrow2 (by simp; omega) (by intro k hk; simp at hk; omega)); clear hown2 hgrow2))
          have hok := KK.out.1
          have hks := KKs.out
          have hput := mapOk_put hok KA.out hin
          rw [← hks] at hput
          refine ⟨⟨a + 16, n + 1, _, rfl, by omega, by omega, KO2.out, hput, fun _ h16 => ?_, fun h => absurd h (by omega), KG2.out⟩, by simp [intOf]; omega⟩
          by_cases ha0 : a = 0
          · subst ha0
            rw [hks, List.drop_zero]
            exact fst_first hok.1 KA.out h16
          · exact fst_put (KK.out.2.1 (by omega) h16) KH.out _
    · have hino : decide ((a : Int) + 16 ≤ (base.length : Int)) = false := by simp; omega
      clear hin
      go_wp2
      go_ret
      refine ⟨w.heap.size, n, D, rfl, Nat.le_refl _, KO.out, KK.out.1, fun h16 => KK.out.2.1 ?_ h16, KB.out⟩
      simp at hino
      omega
end Go.Proofs.Ytkidoknklgoffaa
