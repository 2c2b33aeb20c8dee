/-
  Walks: Make.
-/
import Derived.Test.YtkidoknklgoffaaDW9
import Derived.Test.YtkidoknklgoffaaDT
namespace Go.Proofs.Ytkidoknklgoffaa
open Go.RowKit

/-- A delta's bytes: both sizes, and instructions. -/
def dlL (base target I : List Int) : List Int := Nu.sizeL base.length ++ (Nu.sizeL target.length ++ I)
theorem sizeL_allB (x : Int) (h0 : 0 ≤ x) (h1 : x < 18446744073709551616) : AllB (Nu.sizeL x) := Nu.sizeF_bytes 9 x h0 (by omega)
theorem dlL_all {base target I : List Int} (hb : base.length ≤ 1048576) (ht : target.length ≤ 1048576) (hI : AllB I) : AllB (dlL base target I) :=
  (sizeL_allB _ (by omega) (by omega)).append ((sizeL_allB _ (by omega) (by omega)).append hI)
/-- What such a delta makes. -/
theorem appl_tl {base target I : List Int} (hg : AllB base) (hb : base.length ≤ 1048576) (ht : target.length ≤ 1048576) (h : Tl base I target) (most : Nat) (hm : target.length ≤ most) : applF base (dlL base target I) most = .ok target := by
  have e1 : Nu.sizeS (dlL base target I) 0 = ((base.length : Int), ((Nu.sizeL base.length).length : Int), 0) := by
    have := Nu.sizeS_there [] (Nu.sizeL target.length ++ I) base.length (by omega) (by omega)
    unfold dlL
    simpa using this
  have e2 : Nu.sizeS (dlL base target I) ((Nu.sizeL base.length).length : Int) = ((target.length : Int), ((Nu.sizeL base.length).length : Int) + ((Nu.sizeL target.length).length : Int), 0) :=
    Nu.sizeS_there (Nu.sizeL base.length) I target.length (by omega) (by omega)
  have e3 : hdF base.length (dlL base target I) most = .ok (target.length, (Nu.sizeL base.length ++ Nu.sizeL target.length).length) := by
    unfold hdF
    rw [e1]
    simp only [ne_eq, not_true_eq_false, if_false]
    rw [e2]
    simp only [not_true_eq_false, if_false]
    rw [if_neg (by omega), Int.toNat_natCast, List.length_append]
    congr 2
  unfold applF
  rw [e3]
  simp only []
  have hA := dlL_all hb ht h.1
  have e4 := h.2 (Nu.sizeL base.length ++ Nu.sizeL target.length) [] target.length [] ((sizeL_allB _ (by omega) (by omega)).append (sizeL_allB _ (by omega) (by omega))) AllIn.nil (by simp)
  have e5 : (Nu.sizeL base.length ++ Nu.sizeL target.length) ++ (I ++ []) = dlL base target I := by unfold dlL; simp
  rw [e5] at e4
  unfold goD at e4
  rw [goF_fuel base _ hg hA _ (dlL base target I).length.succ ((dlL base target I).length - (Nu.sizeL base.length ++ Nu.sizeL target.length).length + 1) _ _ (by omega) (by omega), e4]
  have e6 : ((Nu.sizeL base.length ++ Nu.sizeL target.length) ++ I).length = (dlL base target I).length := by unfold dlL; simp
  rw [e6, Nat.sub_self, goF_ge base _ _ _ (by omega), List.nil_append, if_neg (by omega)]

/-- What stands behind a place. -/
theorem Rd.tail {k : IntKind} {S : Nat → Prop} {w : World} {a : Option Addr} {n c i : Nat} {xs : List Int} (h : Rd k S w (.slice a n c) xs) (hi : i ≤ xs.length) : Rd k S w (.slice (a.map fun x => x.add i) (n - i) (c - i)) (xs.drop i) := by
  obtain ⟨a0, c0, hv, h1, h2, h3, h4⟩ := h
  cases hv
  have hlen : (xs.drop i).length = xs.length - i := by simp
  refine ⟨_, c - i, by rw [hlen], by rw [hlen]; omega, by omega, fun e => ?_, fun h0 => ?_⟩
  · cases a with
    | none => have := h3 rfl; omega
    | some x => cases e
  · rw [hlen] at h0
    obtain ⟨b, off, rfl, hlt, hs, hcells⟩ := h4 (by omega)
    refine ⟨b, off + i, by simp [add_plain], hlt, hs, fun q hq => ?_⟩
    rw [hlen] at hq
    have := hcells (i + q) (by omega)
    rw [show off + i + q = off + (i + q) from by omega, this]
    congr 2
    simp only [List.getD, List.getElem?_drop]

set_option maxHeartbeats 4000000 in
set_option maxRecDepth 100000 in
theorem make_any {S S' : Nat → Prop} (bv tv : Value) (base target : List Int) (w : World) (g : Rd .u8 S w bv base) (h : Rd .u8 S' w tv target) (hg : AllB base) (ht : AllB target) (hgl : base.length ≤ 1048576) (hl : target.length ≤ 1048576) :
    Calls Try.prog 16 #[bv, tv] w fun e w' => ∃ v I, e = .returned (.tuple #[v, .int .i64 0]) ∧ Own .u8 5 w' w.heap.size v (dlL base target I) ∧ Tl base I target ∧ I.length ≤ target.length + (target.length + 126) / 127 ∧ (base = target → 16 ≤ base.length → I.length ≤ 8) ∧ Below w.heap.size w w' := by
  have ho1 : decide ((1048576 : Int) < (base.length : Int)) = false := by simp; omega
  have ho2 : decide ((1048576 : Int) < (target.length : Int)) = false := by simp; omega
  have K1 := Kept.mk (Nu.putSize_any (.slice none 0 0) [] (base.length : Int) w (Nu.Rd.nil w) (by omega) (by omega) (by simp))
  obtain ⟨ba, bc, rfl, -, hbl, hbm⟩ := g.form
  obtain ⟨ta, tc, rfl, htn, htl, htm⟩ := h.form
  unfold maxLen at hbm htm
  have hg0 : Rd .u8 (fun b => b < w.heap.size) w (.slice ba base.length bc) base := g.weak fun b hb _ => hb
  have hh0 : Rd .u8 (fun b => b < w.heap.size) w (.slice ta target.length tc) target := h.weak fun b hb _ => hb
  have KG := Kept.mk hg0
  have KH := Kept.mk hh0
  have KA := Kept.mk (And.intro hg ht)
  clear g h hg ht hg0 hh0
  go_enter Try.func16, Try.ntmps16
  go_wp2_with fail
  refine Calls.mono K1.out (fun e w1 hp => ?_)
  obtain ⟨v1, rfl, hown1, hb1⟩ := hp
  rw [List.nil_append] at hown1
  have K2 := Kept.mk (Nu.putSize_any v1 (Nu.sizeL base.length) (target.length : Int) w1 (Nu.Rd.own hown1 (Nu.sizeL_allB _ (by omega) (by omega))) (by omega) (by omega) (by have := Nu.sizeL_length base.length; omega))
  have KB1 := Kept.mk hb1
  clear hown1 hb1 K1
  go_wp2_with fail
  refine Calls.mono K2.out (fun e w2 hp => ?_)
  obtain ⟨v2, rfl, hown2, hb2⟩ := hp
  have hB2 : Below w.heap.size w w2 := KB1.out.trans (hb2.mono KB1.out.size)
  have hO2 : Own .u8 5 w2 w.heap.size v2 (Nu.sizeL base.length ++ Nu.sizeL target.length) := Own.mono (k := .u8) hown2 KB1.out.size
  have K3 := Kept.mk (blocksOf_any _ base w2 (KG.out.later hB2 (Nat.le_refl _)) KA.out.1 hgl)
  obtain ⟨hd, hhd⟩ : ∃ hd, hd = Nu.sizeL base.length ++ Nu.sizeL target.length := ⟨_, rfl⟩
  rw [← hhd] at hO2
  have hhl : hd.length ≤ 20 := by
    rw [hhd, List.length_append]
    have h1 := Nu.sizeL_length base.length
    have h2 := Nu.sizeL_length target.length
    omega
  have KHd := Kept.mk hhd
  have KB2 := Kept.mk hB2
  have KO2 := Kept.mk hO2
  clear hown2 hb2 hB2 hO2 K2 KB1 hhd
  go_wp2_with fail
  refine Calls.mono K3.out (fun e w3 hp => ?_)
  obtain ⟨bm, n, D, rfl, hbm3, hmap, hok, hfst, hb3⟩ := hp
  have hB3 : Below w.heap.size w w3 := KB2.out.trans (hb3.mono KB2.out.size)
  have KO3 := Kept.mk (KO2.out.later hb3 (Nat.le_refl _))
  have KM3 := Kept.mk hmap
  have KK := Kept.mk (And.intro hok hfst)
  have KB3 := Kept.mk hB3
  have hne : v2.ownBlock ≠ some bm := by
    intro e
    have := (KO2.out.lt bm e).2
    omega
  have hbw : w.heap.size ≤ bm := Nat.le_trans KB2.out.size hbm3
  clear hmap hok hfst hb3 hB3 K3 hbm3
  obtain ⟨oa, oc, rfl, -, -, -⟩ := KO3.out.rd.form
  go_wp2
  go_loopw [6, 8, 9] (fun ov dv av wr => ∃ (dn at_ : Nat) (I : List Int), dv = .int .i64 dn ∧ av = .int .i64 at_ ∧ Own .u8 5 wr w.heap.size ov (hd ++ I) ∧ wr.ownsMap Try.prog 54 (plainElem Try.prog 3) bm n D ∧ ov.ownBlock ≠ some bm ∧ Tl base I (target.take dn) ∧ dn ≤ at_ ∧ at_ ≤ target.length ∧ I.length ≤ dn + dn / 127 ∧ (base = target → 16 ≤ base.length → (at_ = 0 ∧ dn = 0 ∧ I = []) ∨ (dn = target.length ∧ I.length ≤ 8)) ∧ Below w.heap.size w wr) (fun _ _ av _ => target.length + 1 - (intOf av).toNat)
  case atStart => exact ⟨0, 0, [], rfl, rfl, by rw [List.append_nil]; exact KO3.out, KM3.out, hne, Tl.nil base, Nat.le_refl _, Nat.zero_le _, by simp, fun _ _ => Or.inl ⟨rfl, rfl, rfl⟩, KB3.out⟩
  case round =>
    clear KO3 KM3 KB3 hne KO2
    obtain ⟨dn, at_, I, rfl, rfl, hown, hmap, hobm, hTl, hda, hatl, hIl, hsp, hbel⟩ := hrel
    obtain ⟨ys, hys⟩ : ∃ ys, ys = hd ++ I := ⟨_, rfl⟩
    rw [← hys] at hown
    have hyl : ys.length = hd.length + I.length := by rw [hys, List.length_append]
    have KY := Kept.mk hys
    have hyb : ys.length ≤ 4194304 := by omega
    have KYl := Kept.mk hyl
    clear hys hyl
    obtain ⟨oa, oc, rfl, -, -, -⟩ := hown.rd.form
    have hwz := hbel.size
    have hbmz := hmap.lt
    have KO := Kept.mk hown
    have KM := Kept.mk hmap
    have KT := Kept.mk hTl
    have KI := Kept.mk hIl
    have KSp := Kept.mk hsp
    have KB := Kept.mk hbel
    clear hown hmap hTl hIl hsp hbel
    by_cases hin : at_ + 16 ≤ target.length
    · have hino : decide ((at_ : Int) + 16 ≤ (target.length : Int)) = true := by simp; omega
      have hbl2 := block_len hin
      have hAb := (KA.out.2.drop at_).take 16
      obtain ⟨ib, io, ic2, he1, hib, -, -, hibw, hcb0⟩ := KH.out.open (by omega)
      simp only [Value.slice.injEq, true_and] at he1
      obtain ⟨rfl, rfl⟩ := he1
      have hb3 : ¬ tc = at_ := by omega
      have hab : (at_ : Int) ≤ (target.length : Int) := by omega
      have hat : ∀ w, (Instr.arrayAt 54 (.slice (some ⟨ib, io + at_, none⟩) (target.length - at_) (tc - at_))).run Try.prog w = .ok (.pointer (some ⟨ib, io + at_, none⟩)) w := fun w => run_arrayAt w 54 _ 16 _ _ _ Try.underlying54 (by omega)
      have hcb : ∀ k, k < 16 → wr.cell? ⟨ib, io + at_ + k, none⟩ = some (.int .u8 (((target.drop at_).take 16).getD k 0)) := by
        intro k hk
        rw [KB.out.cell (p := ⟨ib, io + at_ + k, none⟩) hib, Nat.add_assoc, hcb0 (at_ + k) (by omega)]
        congr 2
        simp only [List.getD, List.getElem?_drop, List.getElem?_take]
        rw [if_pos hk]
      have KKey := Kept.mk (key_some _ hbl2 hAb)
      obtain ⟨ks, hks⟩ : ∃ ks, ks = (target.drop at_).take 16 := ⟨_, rfl⟩
      rw [← hks] at hcb KKey hbl2 hAb
      have KKs := Kept.mk hks
      have KAb := Kept.mk hAb
      clear hks hcb0 hAb
      match ks, hbl2 with
      | [x0, x1, x2, x3, x4, x5, x6, x7, x8, x9, x10, x11, x12, x13, x14, x15], _ =>
        clear hbl2
        have cx0 : wr.cell? ⟨ib, io + at_, none⟩ = some (.int .u8 x0) := hcb 0 (by omega)
        have cx1 : wr.cell? ⟨ib, io + at_ + 1, none⟩ = some (.int .u8 x1) := hcb 1 (by omega)
        have cx2 : wr.cell? ⟨ib, io + at_ + 2, none⟩ = some (.int .u8 x2) := hcb 2 (by omega)
        have cx3 : wr.cell? ⟨ib, io + at_ + 3, none⟩ = some (.int .u8 x3) := hcb 3 (by omega)
        have cx4 : wr.cell? ⟨ib, io + at_ + 4, none⟩ = some (.int .u8 x4) := hcb 4 (by omega)
        have cx5 : wr.cell? ⟨ib, io + at_ + 5, none⟩ = some (.int .u8 x5) := hcb 5 (by omega)
        have cx6 : wr.cell? ⟨ib, io + at_ + 6, none⟩ = some (.int .u8 x6) := hcb 6 (by omega)
        have cx7 : wr.cell? ⟨ib, io + at_ + 7, none⟩ = some (.int .u8 x7) := hcb 7 (by omega)
        have cx8 : wr.cell? ⟨ib, io + at_ + 8, none⟩ = some (.int .u8 x8) := hcb 8 (by omega)
        have cx9 : wr.cell? ⟨ib, io + at_ + 9, none⟩ = some (.int .u8 x9) := hcb 9 (by omega)
        have cx10 : wr.cell? ⟨ib, io + at_ + 10, none⟩ = some (.int .u8 x10) := hcb 10 (by omega)
        have cx11 : wr.cell? ⟨ib, io + at_ + 11, none⟩ = some (.int .u8 x11) := hcb 11 (by omega)
        have cx12 : wr.cell? ⟨ib, io + at_ + 12, none⟩ = some (.int .u8 x12) := hcb 12 (by omega)
        have cx13 : wr.cell? ⟨ib, io + at_ + 13, none⟩ = some (.int .u8 x13) := hcb 13 (by omega)
        have cx14 : wr.cell? ⟨ib, io + at_ + 14, none⟩ = some (.int .u8 x14) := hcb 14 (by omega)
        have cx15 : wr.cell? ⟨ib, io + at_ + 15, none⟩ = some (.int .u8 x15) := hcb 15 (by omega)
        clear hcb
        have KKey2 : Kept (keyOf Try.prog 54 (.agg #[.int .u8 x0, .int .u8 x1, .int .u8 x2, .int .u8 x3, .int .u8 x4, .int .u8 x5, .int .u8 x6, .int .u8 x7, .int .u8 x8, .int .u8 x9, .int .u8 x10, .int .u8 x11, .int .u8 x12, .int .u8 x13, .int .u8 x14, .int .u8 x15]) = some (klF [x0, x1, x2, x3, x4, x5, x6, x7, x8, x9, x10, x11, x12, x13, x14, x15])) := KKey
        clear KKey
        by_cases hh : Maps.has D (klF [x0, x1, x2, x3, x4, x5, x6, x7, x8, x9, x10, x11, x12, x13, x14, x15]) = true
        · have KHs := Kept.mk hh
          clear hh
          go_upto_region 12 with (first | rw [hat] | (at_lookup; refine wpList_lookup_own_ok_int _ rfl _ _ 51 rfl 54 3 .i64 keyed16 Try.underlying51 Try.underlying3 (zeroI _) bm n D rfl KM.out _ _ rfl KKey2.out ?_; intro c hatc hwc; rw [KHs.out]; have KC := Kept.mk hatc; clear hatc hwc))
          clear cx0 cx1 cx2 cx3 cx4 cx5 cx6 cx7 cx8 cx9 cx10 cx11 cx12 cx13 cx14 cx15 hat
          obtain ⟨cN, hc1, hc2, hc3⟩ := KK.out.1.2 _ rfl KAb.out KHs.out
          have hcc : c = (cN : Int) := by
            have := KC.out
            rw [hc1] at this
            injection this with this
            injection this with _ this
            exact this.symm
          subst hcc
          have hseg : (base.drop cN).take 16 = (target.drop at_).take 16 := by rw [hc3]; exact KKs.out
          have KSeg := Kept.mk hseg
          have KG4 := Kept.mk (grow_any _ _ base target cN at_ 16 dn wr (KG.out.later KB.out (Nat.le_refl _)) (KH.out.later KB.out (Nat.le_refl _)) KA.out.1 KA.out.2 hgl hl hc2 hin hda hseg)
          clear hc1 hc3 hseg
          go_wp2_with fail
          refine Calls.mono KG4.out (fun e w4 hp => ?_)
          obtain ⟨f, a, c, rfl, g1, g2, g3, g4, g5, g6, g7, g8, hb4⟩ := hp
          have K78 := Kept.mk (And.intro g7 g8)
          have hz4 := hb4.size
          have hB5 : Below w.heap.size w (w4.alloc (.cells #[.int .i64 f, .int .i64 a, .int .i64 c] 56)) := (KB.out.trans (hb4.mono hwz)).alloc (by omega) _
          have hO5 : Own .u8 5 (w4.alloc (.cells #[.int .i64 f, .int .i64 a, .int .i64 c] 56)) w.heap.size (.slice oa ys.length oc) ys := (KO.out.later hb4 (Nat.le_refl _)).alloc _
          have hM5 : (w4.alloc (.cells #[.int .i64 f, .int .i64 a, .int .i64 c] 56)).ownsMap Try.prog 54 (plainElem Try.prog 3) bm n D := by
            refine World.ownsMap.alloc ?_ _
            obtain ⟨es, clock, e1, e2⟩ := KM.out
            exact ⟨es, clock, by rw [hb4.block bm hbmz]; exact e1, e2⟩
          have hMB5 : MB (w4.alloc (.cells #[.int .i64 f, .int .i64 a, .int .i64 c] 56)) w4.heap.size f a c := heap_alloc_new w4 _
          have hsl : ¬ tc = dn := by omega
          have hsl1 : (dn : Int) ≤ (a : Int) := by omega
          have hsl2 : (a : Int) ≤ (target.length : Int) := by omega
          have hsl3 : (a : Int) ≤ (tc : Int) := by omega
          have hpr := (KH.out.later hB5 (Nat.le_refl _)).piece2 (i := dn) (j := a) (by omega) (by omega)
          have hpl : ((target.drop dn).take (a - dn)).length = a - dn := by simp; omega
          have K5 := Kept.mk (appendInserts_any _ _ ys ((target.drop dn).take (a - dn)) _ w.heap.size hO5 hpr hB5.size (by rw [hpl]; omega))
          have KB5 := Kept.mk hB5
          have KO5 := Kept.mk hO5
          have KM5 := Kept.mk hM5
          have KMB5 := Kept.mk hMB5
          have KPl := Kept.mk hpl
          clear g7 g8 hb4 hB5 hO5 hM5 hMB5 hpr hpl
          go_wp2_with fail
          refine Calls.mono K5.out (fun e w6 hp => ?_)
          obtain ⟨v6, rfl, hO6, hG6⟩ := hp
          have hob4 : ∀ q, (Value.slice oa ys.length oc).ownBlock = some q → q < w4.heap.size := fun q hq => by
            have := (KO.out.lt q hq).2
            omega
          have hz6 : w4.heap.size + 1 ≤ w6.heap.size := by
            have := hG6.size
            simpa using this
          have hMB6 : MB w6 w4.heap.size f a c := by
            have h1 := KMB5.out
            unfold MB at h1 ⊢
            rw [hG6.block w4.heap.size (by simp) (fun e => by have := hob4 _ e.symm; omega)]
            exact h1
          have hM6 : w6.ownsMap Try.prog 54 (plainElem Try.prog 3) bm n D := by
            obtain ⟨es, clock, e1, e2⟩ := KM5.out
            exact ⟨es, clock, by rw [hG6.block bm (by simp; omega) (fun e => hobm e.symm)]; exact e1, e2⟩
          have hob6 : v6.ownBlock ≠ some bm := by
            rcases hG6.at_ with e | ⟨q, e, hq⟩
            · rw [e]; exact hobm
            · rw [e]
              intro e2
              injection e2 with e2
              simp at hq
              omega
          have hob6m : v6.ownBlock ≠ some w4.heap.size := by
            rcases hG6.at_ with e | ⟨q, e, hq⟩
            · rw [e]
              intro e2
              have := hob4 _ e2
              omega
            · rw [e]
              intro e2
              injection e2 with e2
              simp at hq
              omega
          have hB6 : Below w.heap.size w w6 := KB5.out.trans (hG6.below KB5.out.size (own_ge KO5.out))
          have hly : (ys ++ insL ((target.drop dn).take (a - dn))).length ≤ 8388608 := by
            rw [List.length_append, insL_len _ _ (Nat.le_refl _), KPl.out]
            omega
          obtain ⟨oa6, oc6, rfl, -, -, -⟩ := hO6.rd.form
          have K6 := Kept.mk (appendCopy_any _ _ f c w6 w.heap.size hO6 hB6.size (by omega) (by omega) (by omega))
          have c0 := hMB6.c0
          have c1 := hMB6.c1
          have c2 := hMB6.c2
          obtain ⟨ys6, hys6⟩ : ∃ ys6, ys6 = ys ++ insL ((target.drop dn).take (a - dn)) := ⟨_, rfl⟩
          rw [← hys6] at K6 hO6 hob6 hob6m hly ⊢
          have KY6 := Kept.mk hys6
          have KO6 := Kept.mk hO6
          have KM6 := Kept.mk hM6
          have KMB6 := Kept.mk hMB6
          have KB6 := Kept.mk hB6
          clear hys6 hO6 hM6 hMB6 hB6 hG6
          go_wp2_with fail
          refine Calls.mono K6.out (fun e w7 hp => ?_)
          obtain ⟨v7, rfl, hO7, hG7⟩ := hp
          obtain ⟨oa7, oc7, rfl, -, -, -⟩ := hO7.rd.form
          have hMB7 : MB w7 w4.heap.size f a c := by
            have h1 := KMB6.out
            unfold MB at h1 ⊢
            rw [hG7.block w4.heap.size (by omega) (fun e => hob6m e.symm)]
            exact h1
          have hM7 : w7.ownsMap Try.prog 54 (plainElem Try.prog 3) bm n D := by
            obtain ⟨es, clock, e1, e2⟩ := KM6.out
            exact ⟨es, clock, by rw [hG7.block bm (by omega) (fun e => hob6 e.symm)]; exact e1, e2⟩
          have hob7 : (Value.slice oa7 (ys6 ++ cpL f c).length oc7).ownBlock ≠ some bm := by
            rcases hG7.at_ with e | ⟨q, e, hq⟩
            · rw [e]; exact hob6
            · rw [e]
              intro e2
              injection e2 with e2
              omega
          have hB7 : Below w.heap.size w w7 := KB6.out.trans (hG7.below KB6.out.size (own_ge KO6.out))
          have d0 := hMB7.c0
          have d1 := hMB7.c1
          have d2 := hMB7.c2
          obtain ⟨ys7, hys7⟩ : ∃ ys7, ys7 = ys6 ++ cpL f c := ⟨_, rfl⟩
          rw [← hys7] at hO7 hob7 ⊢
          have KY7 := Kept.mk hys7
          have KO7 := Kept.mk hO7
          have KM7 := Kept.mk hM7
          have KB7 := Kept.mk hB7
          clear hys7 hO7 hM7 hMB7 hB7 hG7 c0 c1 c2
          go_wp2
          have hI7 : ys7 = hd ++ (I ++ (insL ((target.drop dn).take (a - dn)) ++ cpL f c)) := by rw [KY7.out, KY6.out, KY.out]; simp
          have hTl7 : Tl base (I ++ (insL ((target.drop dn).take (a - dn)) ++ cpL f c)) (target.take (a + c)) := by
            have h1 := KT.out.append ((Tl.ins KA.out.1 _ _ (Nat.le_refl _) ((KA.out.2.drop dn).take (a - dn))).append (Tl.copy KA.out.1 (at_ := f) (n := c) (by omega) (by omega) (by omega) g1))
            have h2 : target.take dn ++ ((target.drop dn).take (a - dn) ++ (base.drop f).take c) = target.take (a + c) := by
              rw [K78.out.1, ← List.append_assoc]
              have e1 : target.take dn ++ (target.drop dn).take (a - dn) = target.take a := by
                rw [show a = dn + (a - dn) from by omega, List.take_add, Nat.add_sub_cancel_left]
              rw [e1, List.take_add]
            rw [h2] at h1
            exact h1
          have hlen7 : (I ++ (insL ((target.drop dn).take (a - dn)) ++ cpL f c)).length ≤ a + c + (a + c) / 127 := by
            have h1 := KI.out
            have h2 := cpL_len f c
            rw [List.length_append, List.length_append, insL_len _ _ (Nat.le_refl _), KPl.out]
            omega
          refine ⟨⟨a + c, a + c, _, by rw [Int.natCast_add], by rw [Int.natCast_add], by rw [← hI7]; exact KO7.out, KM7.out, hob7, hTl7, Nat.le_refl _, g2, hlen7, fun h1 h2 => Or.inr ?_, KB7.out⟩, by simp [intOf]; omega⟩
          rcases KSp.out h1 h2 with ⟨h3, h4, h5⟩ | ⟨h3, -⟩
          · subst h3 h4 h5
            have ha0 : a = 0 := by omega
            have hc0 : cN = 0 := by
              have h6 := (KK.out.2 h2).2
              have h7 := KKs.out
              rw [List.drop_zero, ← h1] at h7
              rw [← h7, KC.out] at h6
              injection h6 with h6
              injection h6 with _ h6
              omega
            have hf0 : f = 0 := by omega
            subst ha0 hf0
            have hcl : c = target.length := by
              rcases K78.out.2 with h6 | h6 | h6
              · rw [h1] at h6; omega
              · omega
              · rw [h1] at h6
                exact absurd rfl h6
            refine ⟨by omega, ?_⟩
            have h8 := cpL_len 0 c
            simp only [Nat.sub_self, List.take_zero, insL_nil, List.nil_append]
            exact h8
          · omega
        · have hh2 : Maps.has D (klF [x0, x1, x2, x3, x4, x5, x6, x7, x8, x9, x10, x11, x12, x13, x14, x15]) = false := by simpa using hh
          have KHs := Kept.mk hh2
          clear hh hh2
          go_wp2_with (first | rw [hat] | (at_lookup; refine wpList_lookup_own_ok_int _ rfl _ _ 51 rfl 54 3 .i64 keyed16 Try.underlying51 Try.underlying3 (zeroI _) bm n D rfl KM.out _ _ rfl KKey2.out ?_; intro c hatc hwc; rw [KHs.out]; have KC := Kept.mk hatc; clear hatc hwc))
          refine ⟨⟨dn, at_ + 1, I, rfl, rfl, by rw [← KY.out]; exact KO.out, KM.out, hobm, KT.out, by omega, by omega, KI.out, fun h1 h2 => ?_, KB.out⟩, by simp [intOf]; omega⟩
          rcases KSp.out h1 h2 with ⟨rfl, rfl, -⟩ | ⟨h3, -⟩
          · exfalso
            have h5 := (KK.out.2 h2).1
            have h6 := KKs.out
            rw [List.drop_zero, ← h1] at h6
            rw [← h6, KHs.out] at h5
            cases h5
          · omega
    · have hino : decide ((at_ : Int) + 16 ≤ (target.length : Int)) = false := by simp; omega
      have hdl : (dn : Int) ≤ (target.length : Int) := by omega
      have hdn : dn ≤ target.length := by omega
      have hll : ys.length + 2 * (target.drop dn).length + 20 ≤ 140737488355328 := by simp; omega
      by_cases hcap : tc = dn
      · have hpr : Rd .u8 (fun b => b < w.heap.size) wr (.slice ta (target.length - dn) 0) (target.drop dn) :=
          ⟨ta, 0, by simp, by simp; omega, by simp, fun _ => rfl, fun h => by simp at h; omega⟩
        have K5 := Kept.mk (appendInserts_any _ _ ys (target.drop dn) wr w.heap.size KO.out hpr hwz hll)
        clear hpr hll
        go_wp2_with fail
        refine Calls.mono K5.out (fun e w5 hp => ?_)
        obtain ⟨v5, rfl, hO5, hG5⟩ := hp
        have KO5 := Kept.mk hO5
        have KB5 := Kept.mk (KB.out.trans (hG5.below KB.out.size (own_ge KO.out)))
        clear hO5 hG5
        go_wp2
        go_ret2
        refine ⟨_, I ++ insL (target.drop dn), rfl, ?_, ?_, ?_, fun h1 h2 => ?_, KB5.out⟩
        · have h1 := KO5.out
          rw [show ys ++ insL (target.drop dn) = dlL base target (I ++ insL (target.drop dn)) from by unfold dlL; rw [KY.out, KHd.out]; simp] at h1
          exact h1
        · have h1 := KT.out.append (Tl.ins (base := base) KA.out.1 _ (target.drop dn) (Nat.le_refl _) (KA.out.2.drop dn))
          rw [List.take_append_drop] at h1
          exact h1
        · have h1 := KI.out
          have h2 : dn ≤ target.length := by omega
          rw [List.length_append, insL_len _ _ (Nat.le_refl _), List.length_drop]
          omega
        · rcases KSp.out h1 h2 with ⟨h3, h4, h5⟩ | ⟨h3, h4⟩
          · rw [h1] at h2
            omega
          · rw [h3, List.drop_length, insL_nil, List.append_nil]
            exact h4
      · have hpr := Rd.tail (KH.out.later KB.out (Nat.le_refl _)) hdn
        have K5 := Kept.mk (appendInserts_any _ _ ys (target.drop dn) wr w.heap.size KO.out hpr hwz hll)
        clear hpr hll
        go_wp2_with fail
        refine Calls.mono K5.out (fun e w5 hp => ?_)
        obtain ⟨v5, rfl, hO5, hG5⟩ := hp
        have KO5 := Kept.mk hO5
        have KB5 := Kept.mk (KB.out.trans (hG5.below KB.out.size (own_ge KO.out)))
        clear hO5 hG5
        go_wp2
        go_ret2
        refine ⟨_, I ++ insL (target.drop dn), rfl, ?_, ?_, ?_, fun h1 h2 => ?_, KB5.out⟩
        · have h1 := KO5.out
          rw [show ys ++ insL (target.drop dn) = dlL base target (I ++ insL (target.drop dn)) from by unfold dlL; rw [KY.out, KHd.out]; simp] at h1
          exact h1
        · have h1 := KT.out.append (Tl.ins (base := base) KA.out.1 _ (target.drop dn) (Nat.le_refl _) (KA.out.2.drop dn))
          rw [List.take_append_drop] at h1
          exact h1
        · have h1 := KI.out
          have h2 : dn ≤ target.length := by omega
          rw [List.length_append, insL_len _ _ (Nat.le_refl _), List.length_drop]
          omega
        · rcases KSp.out h1 h2 with ⟨h3, h4, h5⟩ | ⟨h3, h4⟩
          · rw [h1] at h2
            omega
          · rw [h3, List.drop_length, insL_nil, List.append_nil]
            exact h4
end Go.Proofs.Ytkidoknklgoffaa
