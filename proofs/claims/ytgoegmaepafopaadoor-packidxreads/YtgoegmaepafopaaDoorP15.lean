/-
  Walks: readRows.
-/
import Derived.Test.YtgoegmaepafopaaDoorP13
namespace Go.Proofs.YtgoegmaepafopaaDoor
open Go.RowKit

def namedB (p : List Int) (n : Nat) : Bool := (List.range n).all fun i => decide (2147483648 ≤ shortR p n i → shortR p n i = 2147483648 + (nl (longR p n) i : Int))
theorem namedB_iff (p : List Int) (n : Nat) : namedB p n = true ↔ Named p n := by
  unfold namedB Named
  rw [List.all_eq_true]
  constructor
  · intro h i hi
    exact of_decide_eq_true (h i (by simpa using hi))
  · intro h i hi
    exact decide_eq_true (h i (by simpa using hi))
/-- Block g holds rows up to k as f says; it has n rows in all. -/
def RowsAt (w : World) (g n k : Nat) (f : Nat → RowC) : Prop := ∃ cur, w.heap[g]? = some (.cells cur 39 (0, 0)) ∧ cur.size = n * 34 ∧ ∀ i, i < k → ∀ j, j < 34 → cur[i * 34 + j]? = (f i).l[j]?
theorem RowsAt.cell {w : World} {g n k : Nat} {f : Nat → RowC} (h : RowsAt w g n k f) {t : Nat} (ht : t < n * 34) : ∃ u, w.cell? ⟨g, t, none⟩ = some u := by
  obtain ⟨cur, h1, h2, h3⟩ := h
  rw [cell_of_row w g t cur _ _ h1]
  exact ⟨cur[t], by rw [Array.getElem?_eq_getElem]⟩
theorem RowsAt.frozen {w : World} {g n k : Nat} {f : Nat → RowC} (h : RowsAt w g n k f) (t : Nat) : w.frozen? ⟨g, t, none⟩ = false := by
  obtain ⟨cur, h1, h2, h3⟩ := h
  simp [World.frozen?, h1]
theorem RowsAt.drewN {w : World} {g n k : Nat} {f : Nat → RowC} (h : RowsAt w g n k f) (m : Nat) : RowsAt (w.drewN m) g n k f := h
theorem RowsAt.lt {w : World} {g n k : Nat} {f : Nat → RowC} (h : RowsAt w g n k f) : g < w.heap.size := by
  obtain ⟨cur, h1, h2, h3⟩ := h
  exact (Array.getElem?_eq_some_iff.1 h1).1
/-- Row k is being laid: its first cells are those of c. -/
def RowAt (w : World) (g n k : Nat) (f : Nat → RowC) (c : List Value) : Prop := ∃ cur, w.heap[g]? = some (.cells cur 39 (0, 0)) ∧ cur.size = n * 34 ∧ (∀ i, i < k → ∀ j, j < 34 → cur[i * 34 + j]? = (f i).l[j]?) ∧ ∀ j, j < c.length → cur[k * 34 + j]? = c[j]?
theorem RowAt.rows {w : World} {g n k : Nat} {f : Nat → RowC} {c : List Value} (h : RowAt w g n k f c) : RowsAt w g n k f := by
  obtain ⟨cur, h1, h2, h3, h4⟩ := h
  exact ⟨cur, h1, h2, h3⟩
theorem RowAt.get {w : World} {g n k : Nat} {f : Nat → RowC} {c : List Value} (h : RowAt w g n k f c) {j : Nat} {u : Value} (hu : c[j]? = some u) : w.cell? ⟨g, k * 34 + j, none⟩ = some u := by
  obtain ⟨cur, h1, h2, h3, h4⟩ := h
  have hj : j < c.length := by
    rcases Nat.lt_or_ge j c.length with h' | h'
    · exact h'
    · rw [List.getElem?_eq_none h'] at hu; cases hu
  rw [cell_of_row w g _ cur _ _ h1, h4 j hj]
  exact hu
theorem RowsAt.copy {w : World} {g n k : Nat} {f : Nat → RowC} (h : RowsAt w g n k f) (hk : k < n) (c : List Value) (hc : c.length = 32) :
    ∃ cur, w.heap[g]? = some (.cells cur 39 (0, 0)) ∧ cur.size = n * 34 ∧ RowAt (w.setRow g (cur.toList.take (k * 34) ++ c ++ cur.toList.drop (k * 34 + c.length)).toArray) g n k f c := by
  obtain ⟨cur, h1, h2, h3⟩ := h
  refine ⟨cur, h1, h2, _, setRow_heap w g cur _ _ _ h1, ?_, fun i hi j hj => ?_, fun j hj => ?_⟩
  · rw [List.size_toArray]
    simp only [List.length_append, List.length_take, List.length_drop, Array.length_toList, h2, hc]
    omega
  · rw [← h3 i hi j hj, List.getElem?_toArray, List.append_assoc, List.getElem?_append_left (by rw [List.length_take, Array.length_toList, h2]; omega), List.getElem?_take, if_pos (by omega), Array.getElem?_toList]
  · have hlk : (cur.toList.take (k * 34)).length = k * 34 := by rw [List.length_take, Array.length_toList, h2]; omega
    rw [List.getElem?_toArray, List.append_assoc, List.getElem?_append_right (by rw [hlk]; omega), hlk, List.getElem?_append_left (by omega), show k * 34 + j - k * 34 = j by omega]
theorem RowAt.put {w : World} {g n k : Nat} {f : Nat → RowC} {c : List Value} (h : RowAt w g n k f c) (hk : k < n) (j : Nat) (hj : j < 34) (u : Value) (d : List Value) (hd : ∀ i, i < d.length → d[i]? = if i = j then some u else c[i]?) (hdc : ∀ i, i < d.length → i ≠ j → i < c.length) : RowAt (w.setCell ⟨g, k * 34 + j, none⟩ u) g n k f d := by
  obtain ⟨cur, h1, h2, h3, h4⟩ := h
  refine ⟨cur.setIfInBounds (k * 34 + j) u, heap_setCell_same w g _ cur _ u h1, by simpa using h2, fun i hi q hq => ?_, fun q hq => ?_⟩
  · rw [Array.getElem?_setIfInBounds_ne (by omega)]
    exact h3 i hi q hq
  · rw [hd q hq]
    by_cases hqj : q = j
    · rw [hqj, if_pos rfl, Array.getElem?_setIfInBounds_self_of_lt (by omega)]
    · rw [if_neg hqj, Array.getElem?_setIfInBounds_ne (by omega)]
      exact h4 q (hdc q hq hqj)
theorem RowAt.done {w : World} {g n k : Nat} {f : Nat → RowC} {c : List Value} (h : RowAt w g n k f c) (hc : c = (f k).l) (hl : (f k).l.length = 34) : RowsAt w g n (k + 1) f := by
  obtain ⟨cur, h1, h2, h3, h4⟩ := h
  refine ⟨cur, h1, h2, fun i hi j hj => ?_⟩
  rcases Nat.lt_or_ge i k with h' | h'
  · exact h3 i h' j hj
  · obtain rfl : i = k := by omega
    rw [← hc]
    exact h4 j (by rw [hc, hl]; exact hj)
theorem RowsAt.own {w : World} {g n base : Nat} {rs : List RowC} (h : RowsAt w g n n (rowI rs)) (hn : rs.length = n) (hb : base ≤ g) (hok : ∀ r ∈ rs, r.ok) (hm : n ≤ maxLen) : OwnR 39 w base (.slice (some ⟨g, 0, none⟩) n n) rs := by
  obtain ⟨cur, h1, h2, h3⟩ := h
  subst hn
  refine ⟨⟨flat_len hok, .inr ⟨g, rs.length, cur, rfl, hb, h1, Nat.le_refl _, hm, h2, ?_⟩⟩, hok⟩
  rw [List.take_of_length_le (by rw [Array.length_toList, h2]; omega)]
  apply List.ext_getElem?
  intro t
  rcases Nat.lt_or_ge t (rs.length * 34) with ht | ht
  · have e : t = t / 34 * 34 + t % 34 := by omega
    rw [e, flat_get hok (by omega) (by omega), Array.getElem?_toList]
    exact h3 (t / 34) (by omega) (t % 34) (by omega)
  · rw [List.getElem?_eq_none (by rw [Array.length_toList, h2]; exact ht), List.getElem?_eq_none (by rw [flat_len hok]; exact ht)]


theorem wru32 {x : Int} (h0 : 0 ≤ x) (h1 : x < 4294967296) : IntKind.u32.wrap x = x := by
  rw [IntKind.wrap_u32']; omega
def rrL (p : List Int) (n : Nat) : List RowC := if namedB p n = true then rowsR p n else []

set_option maxHeartbeats 4000000 in
set_option maxRecDepth 100000 in
theorem readRows_any {S : Nat → Prop} (v : Value) (xs : List Int) (n : Nat) (w : World) (h : Rd .u8 S w v xs) (hA : AllB xs) (hf : Fit xs n) (hn : n ≤ 4096) (hl : xs.length + 20 ≤ 140737488355328) :
    Calls Tryd.prog 21 #[v, .int .i64 n] w fun e w' => ∃ v', e = .returned (.tuple #[v', .bool (namedB xs n)]) ∧ OwnR 39 w' w.heap.size v' (rrL xs n) ∧ Below w.heap.size w w' := by
  obtain ⟨i0, z0, hi, hz, hs, hb0, hc⟩ := infoR
  have hfl : 1096 + n * 40 + nl (longR xs n) n * 8 ≤ xs.length := Nat.le_of_eq hf.symm
  obtain ⟨b, off, c, rfl, hblt, hlc, hcm, hSb, hcell⟩ := h.open (by omega)
  have KH := Kept.mk h
  have KCe := Kept.mk hcell
  have KU := Kept.mk (namedB_iff xs n)
  have KRL : Kept (rrL xs n = if namedB xs n = true then rowsR xs n else []) := ⟨rfl⟩
  have KFit := Kept.mk hf
  have hm1 : i0.bytes * n ≤ 281474976710656 := by rw [hb0]; omega
  have hm2 : n ≤ maxLen := by unfold maxLen; omega
  unfold maxLen at hcm
  clear h hcell hf
  generalize namedB xs n = R at *
  generalize rrL xs n = RL at *
  go_enter Tryd.func21, Tryd.ntmps21
  go_wp2_with (at_make; refine wpList_make_full _ rfl _ _ 26 rfl w.heap.size 39 i0 z0 34 Tryd.underlying26 hi hz hs .i64 .i64 (n : Int) (n : Int) n rfl rfl rfl rfl hm1 hm2 (Nat.le_refl _) ?_; intro w1 hown hgrow; have KO1 := Kept.mk hown; have KG1 := Kept.mk hgrow; clear hown hgrow)
  have hB1 : Below w.heap.size w w1 := (Below.refl _ w).grown KG1.out (Nat.le_refl _) (by intro k hk; cases hk)
  have KR1 : Kept (RowsAt w1 w.heap.size n 0 (rowR xs n)) := ⟨by
    rcases KO1.out.2 with ⟨h1, _⟩ | ⟨g, cap, cur, h1, hbg, hh, hnc, hcm2, hcs, htake⟩
    · simp at h1
    · simp at h1
      obtain ⟨rfl, rfl⟩ := h1
      exact ⟨cur, hh, hcs, fun i hi => by omega⟩⟩
  have KB1 := Kept.mk hB1
  clear hB1 KO1 KG1 hm1 hm2
  go_loopw [7, 13] (fun nv iv wr => ∃ k : Nat, k ≤ n ∧ iv = .int .i64 k ∧ nv = .int .i64 ((nl (longR xs n) k : Nat) : Int) ∧ RowsAt wr w.heap.size n k (rowR xs n) ∧ (∀ i, i < k → 2147483648 ≤ shortR xs n i → shortR xs n i = 2147483648 + (nl (longR xs n) i : Int)) ∧ Below w.heap.size w wr) (fun _ iv _ => n - (intOf iv).toNat)
  case atStart => exact ⟨0, Nat.zero_le _, rfl, by simp [nl], KR1.out, (fun i hi => by omega), KB1.out⟩
  case round =>
    obtain ⟨k, hk, rfl, rfl, hrw, hnm, hbel⟩ := hrel
    have KRw := Kept.mk hrw
    have KNm := Kept.mk hnm
    have KBe := Kept.mk hbel
    clear hrw hnm hbel KR1 KB1
    by_cases hlt : k < n
    · have hki : (k : Int) < (n : Int) := by omega
      have hnlk := nl_le (longR xs n) k
      have hnm1 : nl (longR xs n) (k + 1) ≤ nl (longR xs n) n := nl_mono _ (by omega)
      have KSn := Kept.mk (nl_succ (longR xs n) k)
      have KLg := Kept.mk (lng_longR xs n k hlt)
      have hok := rowR_ok hA KFit.out hlt
      have KRR : Kept (rowR xs n k = ⟨seg xs (1032 + k * 32) 32, Nu.bigT xs (1032 + n * 32 + k * 4) 4, if lng (longR xs n) k = true then Nu.bigT xs (1032 + n * 40 + nl (longR xs n) k * 8) 8 else shortR xs n k⟩) := ⟨rfl⟩
      have KL34 := Kept.mk (RowC.len hok)
      have hil : (seg xs (1032 + k * 32) 32).length = 32 := seg_len _ _ _ (by omega)
      have KIl := Kept.mk hil
      have KSrc : Kept (∀ (m j : Nat) (u : Value), (cellsK .u8 (seg xs (1032 + k * 32) 32))[j]? = some u → (wr.drewN m).cell? ((⟨b, off + (1032 + k * 32), none⟩ : Addr).add j) = some u) := ⟨fun m j u hj => by
        obtain ⟨hj', rfl⟩ := cellsK_get hj
        rw [hil] at hj'
        rw [add_plain]
        have e := KBe.out.cell (p := ⟨b, off + (1032 + k * 32 + j), none⟩) hblt
        rw [KCe.out (1032 + k * 32 + j) (by omega)] at e
        rw [Nat.add_assoc]
        refine e.trans ?_
        unfold seg
        simp [List.getD, hj']⟩
      have KCr : Kept (∀ W, Below w.heap.size w W → Calls Tryd.prog 45 #[.slice (some ⟨b, off, none⟩) xs.length c, .int .i64 (1032 + (n : Int) * 32 + (k : Int) * 4), .int .i64 4] W fun e w' => e = .returned (.int .u64 (Nu.bigT xs (1032 + n * 32 + k * 4) 4)) ∧ w' = W) := ⟨fun W hW => by
        have := numberAt_any _ xs (1032 + n * 32 + k * 4) 4 W (KH.out.later hW (Nat.le_refl _)) hA (by omega) (by omega) (by omega) hl
        rwa [show ((1032 + n * 32 + k * 4 : Nat) : Int) = 1032 + (n : Int) * 32 + (k : Int) * 4 by omega] at this⟩
      have KSp : Kept (∀ W, Below w.heap.size w W → Calls Tryd.prog 40 #[.slice (some ⟨b, off, none⟩) xs.length c, .int .i64 n, .int .i64 k] W fun e w' => e = .returned (.int .u64 (shortR xs n k)) ∧ w' = W) := ⟨fun W hW => shortPlace_any _ xs n k W (KH.out.later hW (Nat.le_refl _)) hA (by omega) hl⟩
      have hcrg := bigT_range xs (1032 + n * 32 + k * 4) 4 hA (by omega)
      have hsrg : 0 ≤ shortR xs n k ∧ shortR xs n k < 4294967296 := bigT_range xs (1032 + n * 36 + k * 4) 4 hA (by omega)
      have KLp : Kept (lng (longR xs n) k = true → ∀ W, Below w.heap.size w W → Calls Tryd.prog 45 #[.slice (some ⟨b, off, none⟩) xs.length c, .int .i64 (1032 + (n : Int) * 40 + (nl (longR xs n) k : Int) * 8), .int .i64 8] W fun e w' => e = .returned (.int .u64 (Nu.bigT xs (1032 + n * 40 + nl (longR xs n) k * 8) 8)) ∧ w' = W) := ⟨fun hlg W hW => by
        rw [KSn.out, if_pos hlg] at hnm1
        have := numberAt_any _ xs (1032 + n * 40 + nl (longR xs n) k * 8) 8 W (KH.out.later hW (Nat.le_refl _)) hA (by omega) (by omega) (by omega) hl
        rwa [show ((1032 + n * 40 + nl (longR xs n) k * 8 : Nat) : Int) = 1032 + (n : Int) * 40 + (nl (longR xs n) k : Int) * 8 by omega] at this⟩
      have hxk : 1032 + k * 32 + 32 ≤ xs.length := by omega
      clear hok hil hnm1
      generalize Nu.bigT xs (1032 + n * 32 + k * 4) 4 = cr at *
      generalize Nu.bigT xs (1032 + n * 40 + nl (longR xs n) k * 8) 8 = lp at *
      generalize hsT : shortR xs n k = sT at *
      generalize hq : nl (longR xs n) k = q at *
      generalize seg xs (1032 + k * 32) 32 = I at *
      generalize lng (longR xs n) k = lg at *
      have KsT := Kept.mk hsT
      have Kq := Kept.mk hq
      clear hsT hq
      have e1 : IntKind.i64.wrap ((k : Int) * 32) = (k : Int) * 32 := wr64 (by omega) (by omega)
      have e2 : IntKind.i64.wrap (1032 + (k : Int) * 32) = 1032 + (k : Int) * 32 := wr64 (by omega) (by omega)
      have e3 : (1032 + (k : Int) * 32) ≤ (xs.length : Int) := by omega
      have e4 : (0 : Int) ≤ 1032 + (k : Int) * 32 := by omega
      have e5 : (1032 + (k : Int) * 32).toNat = 1032 + k * 32 := by omega
      have e6 : (xs.length : Int) ≤ (c : Int) := by omega
      have e7 : ¬ c = 1032 + k * 32 := by omega
      have e8 : (1032 + (k : Int) * 32) ≤ (c : Int) := by omega
      go_upto_region 6 with fail
      refine wp_region_last _ 10 (by kernel_rfl) (by kernel_rfl) rfl rfl ?_
      simp only [List.take_succ_cons, List.take_zero]
      repeat (first | go_big_quiet_step (fail) | quiet_step (fail))
      refine wpQuiet_nil ?_
      intro m
      have hcl : (cellsK .u8 I).length = 32 := by rw [cellsK_length, KIl.out]
      obtain ⟨cur, hcur, hcsz, hcp⟩ := (KRw.out.drewN m).copy hlt (cellsK .u8 I) hcl
      refine Sh.wp_copy _ _ _ _ _ rfl _ _ rfl rfl (run_copy_row Tryd.prog (wr.drewN m) 22 22 3 5 w.heap.size (k * 34) 32 32 ⟨b, off + (1032 + k * 32), none⟩ (xs.length - (1032 + k * 32)) (c - (1032 + k * 32)) cur 39 (cellsK .u8 I) Tryd.underlying22 rfl hcur (by rw [hcl]; simp only [Nat.min_def]; split <;> omega) (KSrc.out m) (by rw [hcl, hcsz]; omega) (cellsK_one _ _)) ?_
      obtain ⟨W1, hW1⟩ : ∃ W, (wr.drewN m).setRow w.heap.size (cur.toList.take (k * 34) ++ cellsK .u8 I ++ cur.toList.drop (k * 34 + (cellsK .u8 I).length)).toArray = W := ⟨_, rfl⟩
      have hB1 : Below w.heap.size w W1 := by rw [← hW1]; exact below_setRow (below_drewN KBe.out m) (Nat.le_refl _) _
      rw [hW1] at hcp ⊢
      have KR1 := Kept.mk hcp
      have KB1 := Kept.mk hB1
      have KCr1 := Kept.mk (KCr.out W1 hB1)
      obtain ⟨u32, hu32⟩ := hcp.rows.cell (t := k * 34 + 32) (by omega)
      have hz32 := hcp.rows.frozen (k * 34 + 32)
      have KcL := Kept.mk hcl
      clear hW1 hcp hB1 hcur hcsz hcl KSrc KCr e1 e2 e3 e4 e5 e7 e8
      have f1 : IntKind.i64.wrap ((n : Int) * 32) = (n : Int) * 32 := wr64 (by omega) (by omega)
      have f2 : IntKind.i64.wrap (1032 + (n : Int) * 32) = 1032 + (n : Int) * 32 := wr64 (by omega) (by omega)
      have f3 : IntKind.i64.wrap ((k : Int) * 4) = (k : Int) * 4 := wr64 (by omega) (by omega)
      have f4 : IntKind.i64.wrap (1032 + (n : Int) * 32 + (k : Int) * 4) = 1032 + (n : Int) * 32 + (k : Int) * 4 := wr64 (by omega) (by omega)
      have f5 : IntKind.u32.wrap cr = cr := wru32 (by omega) (by omega)
      go_wp2_with fail
      refine Calls.mono KCr1.out (fun e w2 hp => ?_)
      obtain ⟨rfl, hww⟩ := hp
      subst w2
      go_upto_region 8 with fail
      obtain ⟨W2, hW2⟩ : ∃ W, W1.setCell ⟨w.heap.size, k * 34 + 32, none⟩ (.int .u32 cr) = W := ⟨_, rfl⟩
      have hp2 : RowAt W2 w.heap.size n k (rowR xs n) (cellsK .u8 I ++ [.int .u32 cr]) := by
        rw [← hW2]
        refine KR1.out.put hlt 32 (by omega) _ _ (fun i hi => ?_) (fun i hi hne => ?_)
        · rw [List.length_append, KcL.out] at hi
          by_cases h32 : i = 32
          · rw [if_pos h32, h32, List.getElem?_append_right (by rw [KcL.out]; omega), KcL.out]; rfl
          · rw [if_neg h32, List.getElem?_append_left (by rw [KcL.out]; simp at hi; omega)]
        · rw [List.length_append, KcL.out] at hi
          simp at hi
          rw [KcL.out]; omega
      have hB2 : Below w.heap.size w W2 := by rw [← hW2]; exact KB1.out.setCell (Nat.le_refl _) _
      rw [hW2]
      have KR2 := Kept.mk hp2
      have KB2 := Kept.mk hB2
      have KSp2 := Kept.mk (KSp.out W2 hB2)
      obtain ⟨u33, hu33⟩ := hp2.rows.cell (t := k * 34 + 33) (by omega)
      have hz33 := hp2.rows.frozen (k * 34 + 33)
      clear hW2 hp2 hB2 KR1 KB1 KCr1 hu32 hz32 KSp f1 f2 f3 f4
      go_wp2_with fail
      refine Calls.mono KSp2.out (fun e w3 hp => ?_)
      obtain ⟨rfl, hww⟩ := hp
      subst w3
      go_upto_region 9 with fail
      obtain ⟨W3, hW3⟩ : ∃ W, W2.setCell ⟨w.heap.size, k * 34 + 33, none⟩ (.int .u64 sT) = W := ⟨_, rfl⟩
      have hput : ∀ (W : World) (y z : Int) (c0 : List Value), (c0 = cellsK .u8 I ++ [.int .u32 cr] ∨ c0 = cellsK .u8 I ++ [.int .u32 cr, .int .u64 z]) → RowAt W w.heap.size n k (rowR xs n) c0 → RowAt (W.setCell ⟨w.heap.size, k * 34 + 33, none⟩ (.int .u64 y)) w.heap.size n k (rowR xs n) (cellsK .u8 I ++ [.int .u32 cr, .int .u64 y]) := fun W y z c0 hc0 hW => by
        have hc0l : 33 ≤ c0.length ∧ ∀ i, i < 33 → c0[i]? = (cellsK .u8 I ++ [Value.int .u32 cr])[i]? := by
          rcases hc0 with rfl | rfl
          · exact ⟨by rw [List.length_append, KcL.out]; simp, fun i hi => rfl⟩
          · refine ⟨by rw [List.length_append, KcL.out]; simp, fun i hi => ?_⟩
            rw [show cellsK .u8 I ++ [Value.int .u32 cr, .int .u64 z] = (cellsK .u8 I ++ [Value.int .u32 cr]) ++ [.int .u64 z] by simp, List.getElem?_append_left (by rw [List.length_append, KcL.out]; simp; omega)]
        refine hW.put hlt 33 (by omega) _ _ (fun i hi => ?_) (fun i hi hne => ?_)
        · rw [List.length_append, KcL.out] at hi
          simp at hi
          rw [show cellsK .u8 I ++ [Value.int .u32 cr, .int .u64 y] = (cellsK .u8 I ++ [Value.int .u32 cr]) ++ [.int .u64 y] by simp]
          by_cases h33 : i = 33
          · rw [if_pos h33, h33, List.getElem?_append_right (by rw [List.length_append, KcL.out]; simp), List.length_append, KcL.out]; rfl
          · rw [if_neg h33, List.getElem?_append_left (by rw [List.length_append, KcL.out]; simp; omega), hc0l.2 i (by omega)]
        · rw [List.length_append, KcL.out] at hi
          simp at hi
          have := hc0l.1
          omega
      have hp3 : RowAt W3 w.heap.size n k (rowR xs n) (cellsK .u8 I ++ [.int .u32 cr, .int .u64 sT]) := by
        rw [← hW3]
        exact hput W2 sT 0 _ (.inl rfl) KR2.out
      have hB3 : Below w.heap.size w W3 := by rw [← hW3]; exact KB2.out.setCell (Nat.le_refl _) _
      have hc3 : W3.cell? ⟨w.heap.size, k * 34 + 33, none⟩ = some (.int .u64 sT) := hp3.get (by rw [List.getElem?_append_right (by rw [KcL.out]; omega), KcL.out]; rfl)
      have hz3 := hp3.rows.frozen (k * 34 + 33)
      rw [hW3]
      have KR3 := Kept.mk hp3
      have KB3 := Kept.mk hB3
      have KPut := Kept.mk hput
      clear hW3 hp3 hB3 KR2 KB2 KSp2 hu33 hz33 hput
      have g1 : IntKind.i64.wrap ((k : Int) + 1) = (k : Int) + 1 := wr64 (by omega) (by omega)
      by_cases hT : 2147483648 ≤ sT
      · have dT : decide (sT < 2147483648) = false := decide_eq_false (by omega)
        have Klg : Kept (lg = true) := ⟨by rw [KLg.out]; exact decide_eq_true hT⟩
        have g2 : IntKind.u64.wrap (q : Int) = (q : Int) := wru64 (by omega) (by omega)
        have g3 : IntKind.u64.wrap (2147483648 + (q : Int)) = 2147483648 + (q : Int) := wru64 (by omega) (by omega)
        by_cases hE : sT = 2147483648 + (q : Int)
        · have dE : (sT != 2147483648 + (q : Int)) = false := by rw [hE]; simp
          have KLp3 := Kept.mk (KLp.out Klg.out W3 KB3.out)
          have KDone : Kept (∀ W, RowAt W w.heap.size n k (rowR xs n) (cellsK .u8 I ++ [.int .u32 cr, .int .u64 lp]) → RowsAt W w.heap.size n (k + 1) (rowR xs n)) := ⟨fun W hW => hW.done (by rw [KRR.out, if_pos Klg.out]; rfl) KL34.out⟩
          have KE := Kept.mk hE
          have f1 : IntKind.i64.wrap ((n : Int) * 40) = (n : Int) * 40 := wr64 (by omega) (by omega)
          have f2 : IntKind.i64.wrap (1032 + (n : Int) * 40) = 1032 + (n : Int) * 40 := wr64 (by omega) (by omega)
          have f3 : IntKind.i64.wrap ((q : Int) * 8) = (q : Int) * 8 := wr64 (by omega) (by omega)
          have f4 : IntKind.i64.wrap (1032 + (n : Int) * 40 + (q : Int) * 8) = 1032 + (n : Int) * 40 + (q : Int) * 8 := wr64 (by omega) (by omega)
          have f6 : IntKind.i64.wrap ((q : Int) + 1) = (q : Int) + 1 := wr64 (by omega) (by omega)
          clear hE hT
          go_wp2_with fail
          refine Calls.mono KLp3.out (fun e w4 hp => ?_)
          obtain ⟨rfl, hww⟩ := hp
          subst w4
          go_wp2
          go_roundw
          case rel =>
            refine ⟨k + 1, by omega, by go_num, by rw [KSn.out, if_pos Klg.out]; rfl, KDone.out _ (KPut.out W3 lp sT _ (.inr rfl) KR3.out), fun i hi h31 => ?_, KB3.out.setCell (Nat.le_refl _) _⟩
            rcases Nat.lt_or_ge i k with h' | h'
            · exact KNm.out i h' h31
            · obtain rfl : i = k := by omega
              rw [KsT.out, Kq.out]
              exact KE.out
          case measure => simp [intOf]; omega
        · have dE : (sT != 2147483648 + (q : Int)) = true := by simpa using hE
          have KF : Kept (R = false) := ⟨by
            cases R with
            | false => rfl
            | true =>
              have := KU.out.1 rfl k hlt (by rw [KsT.out]; exact hT)
              rw [KsT.out, Kq.out] at this
              exact absurd this hE⟩
          have KV : Kept (RL = []) := ⟨by rw [KRL.out, KF.out]; rfl⟩
          clear hE hT
          go_wp2
          go_ret2
          exact ⟨_, by rw [KF.out]; rfl, by rw [KV.out]; exact OwnR.nil _ _ _, KB3.out⟩
      · have dT : decide (sT < 2147483648) = true := decide_eq_true (by omega)
        have Klg : Kept (lg = false) := ⟨by rw [KLg.out]; exact decide_eq_false hT⟩
        have KDone : Kept (RowsAt W3 w.heap.size n (k + 1) (rowR xs n)) := ⟨KR3.out.done (by rw [KRR.out, Klg.out]; rfl) KL34.out⟩
        go_wp2
        go_roundw
        case rel =>
          refine ⟨k + 1, by omega, by go_num, by rw [KSn.out, Klg.out]; rfl, KDone.out, fun i hi h31 => ?_, KB3.out⟩
          rcases Nat.lt_or_ge i k with h' | h'
          · exact KNm.out i h' h31
          · obtain rfl : i = k := by omega
            rw [KsT.out] at h31
            omega
        case measure => simp [intOf]; omega
    · have hki : ¬ (k : Int) < (n : Int) := by omega
      obtain rfl : k = n := by omega
      have KF : Kept (R = true) := ⟨KU.out.2 KNm.out⟩
      have KV : Kept (RL = rowsR xs k) := ⟨by rw [KRL.out, if_pos KF.out]⟩
      have KOw : Kept (OwnR 39 wr w.heap.size (.slice (some ⟨w.heap.size, 0, none⟩) k k) (rowsR xs k)) := ⟨by
        refine RowsAt.own (rs := rowsR xs k) ?_ (rowsR_length _ _) (Nat.le_refl _) (rowsR_ok hA KFit.out) (by unfold maxLen; omega)
        obtain ⟨cur, h1, h2, h3⟩ := KRw.out
        exact ⟨cur, h1, h2, fun i hi j hj => by rw [rowsR_get xs k i hi]; exact h3 i hi j hj⟩⟩
      go_wp2
      go_ret2
      exact ⟨_, by rw [KF.out]; rfl, by rw [KV.out]; exact KOw.out, KBe.out⟩
end Go.Proofs.YtgoegmaepafopaaDoor
