/-
  Bytes that the program's text has.
-/
import Derived.Test.YtidpdhnbnecddaaK
import Derived.Lib.SlBytesConst
import Derived.Test.YtidpdhnbnecddaaM16
import Derived.Test.YtidpdhnbnecddaaM11
namespace Go.Proofs.Ytidpdhnbnecddaa
open Go.RowKit

theorem Rd.litF (k : IntKind) (w : World) (xs : List Int) (t : TypeId) (fr : Nat × Nat) (h : xs.length ≤ 1000) : Rd k (fun g => g = w.heap.size) (w.alloc (.cells (cellsK k xs).toArray t fr)) (.slice (some ⟨w.heap.size, 0, none⟩) xs.length xs.length) xs := by
  refine ⟨some ⟨w.heap.size, 0, none⟩, xs.length, rfl, Nat.le_refl _, by unfold maxLen; omega, (fun h => by cases h), fun _ => ⟨w.heap.size, 0, rfl, by simp, rfl, fun i hi => ?_⟩⟩
  have hh := heap_alloc_new w (.cells (cellsK k xs).toArray t fr)
  simp only [Nat.zero_add, World.cell?, hh]
  simp [cellsK, List.getD, List.getElem?_eq_getElem hi]
theorem conv_const (w : World) (C : Array Value) (n c : Nat) : (convert 22 22 (.slice (some ⟨w.heap.size, 0, none⟩) n c)).run Try.prog (w.alloc (.cells C 5)) = .ok (.slice (some ⟨w.heap.size, 0, none⟩) n c) (w.alloc (.cells C 5 (C.size, C.size + 1))) :=
  Lib.run_convert_bytes_const w _ _ C n c Try.underlying22 Try.underlying5
/-- The bytes of a text that the program has. -/
theorem lit_step (w : World) (xs : List Int) (h : xs.length ≤ 1000) : ∃ wa, (convert 22 22 (.slice (some ⟨w.heap.size, 0, none⟩) xs.length xs.length)).run Try.prog (w.alloc (.cells (cellsK .u8 xs).toArray 5)) = .ok (.slice (some ⟨w.heap.size, 0, none⟩) xs.length xs.length) wa ∧
    Rd .u8 anyB wa (.slice (some ⟨w.heap.size, 0, none⟩) xs.length xs.length) xs ∧ Below w.heap.size w wa :=
  ⟨_, conv_const w _ _ _, (Rd.litF .u8 w xs 5 _ h).any, (Below.refl w.heap.size w).alloc (Nat.le_refl _) _⟩


def lE : ByteArray := ⟨#[]⟩
def lA : ByteArray := ⟨#[97]⟩
def lB : ByteArray := ⟨#[98]⟩
def awT : List Int := [49, 10, 120, 10, 50, 10, 51, 10, 121, 10]
def clT : List Int := [60, 60, 60, 60, 60, 60, 60, 32, 97, 10, 50, 10, 124, 124, 124, 124, 124, 124, 124, 32, 98, 97, 115, 101, 10, 49, 10, 61, 61, 61, 61, 61, 61, 61, 10, 51, 10, 62, 62, 62, 62, 62, 62, 62, 32, 98, 10]
theorem aw1 : thM lE lE [49, 10, 50, 10, 51, 10] [49, 10, 120, 10, 50, 10, 51, 10] [49, 10, 50, 10, 51, 10, 121, 10] = (awT, 0, 0) := by kernel_rfl
theorem aw2 : thM lA lB [49, 10] [50, 10] [51, 10] = (clT, 1, 0) := by kernel_rfl
theorem aw3 : thM lA lB [49] [50] [51] = (clT, 1, 0) := by kernel_rfl
theorem str_aw : strOfNums awT = ⟨#[49, 10, 120, 10, 50, 10, 51, 10, 121, 10]⟩ := by kernel_rfl
theorem str_cl : strOfNums clT = ⟨#[60, 60, 60, 60, 60, 60, 60, 32, 97, 10, 50, 10, 124, 124, 124, 124, 124, 124, 124, 32, 98, 97, 115, 101, 10, 49, 10, 61, 61, 61, 61, 61, 61, 61, 10, 51, 10, 62, 62, 62, 62, 62, 62, 62, 32, 98, 10]⟩ := by kernel_rfl
set_option maxHeartbeats 2000000 in
set_option maxRecDepth 100000 in
theorem awake21_any (w : World) : Calls Try.prog 9 #[] w fun e w' => e = .returned (.bool true) ∧ Below w.heap.size w w' := by
  have KW := Kept.mk (Below.refl w.heap.size w)
  go_enter Try.func9, Try.ntmps9
  obtain ⟨wa, cvA1, rdA1, blA1⟩ := lit_step w [49, 10, 50, 10, 51, 10] (by simp)
  have cvA1 : (convert 22 22 (.slice (some ⟨w.heap.size, 0, none⟩) 6 6)).run Try.prog (w.alloc (.cells #[.int .u8 49, .int .u8 10, .int .u8 50, .int .u8 10, .int .u8 51, .int .u8 10] 5)) = .ok (.slice (some ⟨w.heap.size, 0, none⟩) 6 6) wa := cvA1
  obtain ⟨wb, cvA2, rdA2, blA2⟩ := lit_step wa [49, 10, 120, 10, 50, 10, 51, 10] (by simp)
  have cvA2 : (convert 22 22 (.slice (some ⟨wa.heap.size, 0, none⟩) 8 8)).run Try.prog (wa.alloc (.cells #[.int .u8 49, .int .u8 10, .int .u8 120, .int .u8 10, .int .u8 50, .int .u8 10, .int .u8 51, .int .u8 10] 5)) = .ok (.slice (some ⟨wa.heap.size, 0, none⟩) 8 8) wb := cvA2
  obtain ⟨wc, cvA3, rdA3, blA3⟩ := lit_step wb [49, 10, 50, 10, 51, 10, 121, 10] (by simp)
  have cvA3 : (convert 22 22 (.slice (some ⟨wb.heap.size, 0, none⟩) 8 8)).run Try.prog (wb.alloc (.cells #[.int .u8 49, .int .u8 10, .int .u8 50, .int .u8 10, .int .u8 51, .int .u8 10, .int .u8 121, .int .u8 10] 5)) = .ok (.slice (some ⟨wb.heap.size, 0, none⟩) 8 8) wc := cvA3
  have blAA := blA2.trans (blA3.mono blA2.size)
  have KA := Kept.mk (three_of _ _ _ [49, 10, 50, 10, 51, 10] [49, 10, 120, 10, 50, 10, 51, 10] [49, 10, 50, 10, 51, 10, 121, 10] lE lE wc (rdA1.later blAA (Nat.le_refl _)) (rdA2.later blA3 (Nat.le_refl _)) rdA3 (fun x hx => by simp at hx; omega) (fun x hx => by simp at hx; omega) (fun x hx => by simp at hx; omega))
  rw [aw1] at KA
  have hbA := KW.out.trans ((blA1.trans (blAA.mono blA1.size)).mono KW.out.size)
  have KBA := Kept.mk hbA
  have KCA := Kept.mk (blA1.trans (blAA.mono blA1.size))
  clear rdA1 rdA2 rdA3 blA1 blA2 blA3 blAA hbA
  go_wp2_with (first | rw [cvA1] | rw [cvA2] | rw [cvA3])
  clear cvA1 cvA2 cvA3
  refine Calls.mono KA.out (fun e wd hp => ?_)
  obtain ⟨vA, rfl, hoA, hdA⟩ := hp
  have KDA := Kept.mk (KBA.out.trans (hdA.mono KBA.out.size))
  have KEA := Kept.mk (KCA.out.trans (hdA.mono KCA.out.size))
  have KOA := Kept.mk hoA
  clear KA hoA hdA KBA KCA
  obtain ⟨wda, cvB1, rdB1, blB1⟩ := lit_step wd [49, 10] (by simp)
  have cvB1 : (convert 22 22 (.slice (some ⟨wd.heap.size, 0, none⟩) 2 2)).run Try.prog (wd.alloc (.cells #[.int .u8 49, .int .u8 10] 5)) = .ok (.slice (some ⟨wd.heap.size, 0, none⟩) 2 2) wda := cvB1
  obtain ⟨wdb, cvB2, rdB2, blB2⟩ := lit_step wda [50, 10] (by simp)
  have cvB2 : (convert 22 22 (.slice (some ⟨wda.heap.size, 0, none⟩) 2 2)).run Try.prog (wda.alloc (.cells #[.int .u8 50, .int .u8 10] 5)) = .ok (.slice (some ⟨wda.heap.size, 0, none⟩) 2 2) wdb := cvB2
  obtain ⟨wdc, cvB3, rdB3, blB3⟩ := lit_step wdb [51, 10] (by simp)
  have cvB3 : (convert 22 22 (.slice (some ⟨wdb.heap.size, 0, none⟩) 2 2)).run Try.prog (wdb.alloc (.cells #[.int .u8 51, .int .u8 10] 5)) = .ok (.slice (some ⟨wdb.heap.size, 0, none⟩) 2 2) wdc := cvB3
  have blAB := blB2.trans (blB3.mono blB2.size)
  have KB := Kept.mk (three_of _ _ _ [49, 10] [50, 10] [51, 10] lA lB wdc (rdB1.later blAB (Nat.le_refl _)) (rdB2.later blB3 (Nat.le_refl _)) rdB3 (fun x hx => by simp at hx; omega) (fun x hx => by simp at hx; omega) (fun x hx => by simp at hx; omega))
  rw [aw2] at KB
  have hbB := KDA.out.trans ((blB1.trans (blAB.mono blB1.size)).mono KDA.out.size)
  have KBB := Kept.mk hbB
  have KCB := Kept.mk (blB1.trans (blAB.mono blB1.size))
  clear rdB1 rdB2 rdB3 blB1 blB2 blB3 blAB hbB
  go_wp2_with (first | rw [cvB1] | rw [cvB2] | rw [cvB3])
  clear cvB1 cvB2 cvB3
  refine Calls.mono KB.out (fun e wdd hp => ?_)
  obtain ⟨vB, rfl, hoB, hdB⟩ := hp
  have KDB := Kept.mk (KBB.out.trans (hdB.mono KBB.out.size))
  have KEB := Kept.mk (KCB.out.trans (hdB.mono KCB.out.size))
  have KOB := Kept.mk hoB
  clear KB hoB hdB KBB KCB
  have cA := (KOA.out.later KEB.out (Nat.le_refl _)).rd.str (P := Try.prog) (src := 22) Try.underlying22 Try.underlying5 9 Try.underlying9
  have cB := KOB.out.rd.str (P := Try.prog) (src := 22) Try.underlying22 Try.underlying5 9 Try.underlying9
  rw [str_aw] at cA
  rw [str_cl] at cB
  clear KOA KOB
  go_wp2
  go_ret
  exact ⟨rfl, KDB.out⟩


def lN : ByteArray := ⟨#[97, 10, 98]⟩
def lZ : ByteArray := ⟨#[0]⟩
theorem fx1 : thM lN lE [] [] [] = ([], 0, 3) := by kernel_rfl
theorem fx2 (x : List Int) (h : 1048576 < x.length) : thM lZ lE x [] [] = ([], 0, 2) := by
  have hb : bigT x = true := by unfold bigT; rw [decide_eq_true h]; rfl
  unfold thM thE th3
  rw [hb]
  rfl
theorem tens_big : bigT (List.replicate 1001 10) = true := by
  rw [bigT_count _ (by rw [List.length_replicate]; omega), List.count_replicate_self]
  exact decide_eq_true (by omega)
theorem tens_not : bigT (List.replicate 1000 10) = false := by
  rw [bigT_count _ (by rw [List.length_replicate]; omega), List.count_replicate_self]
  have : opn (List.replicate 1000 10) = 0 := by
    unfold opn
    rw [if_pos (.inr (by rw [List.getLast?_replicate]; rfl))]
  rw [this]
  exact decide_eq_false (by omega)
theorem fx3 : thM lE lE [] (List.replicate 1001 10) [] = ([], 0, 2) := by
  unfold thM thE th3
  rw [tens_big]
  rfl
theorem fx_ok : okL lE = true := by kernel_rfl
theorem cut_mid (A : List ByteArray) : cutP [] A [] = [([], A, [])] := rfl
theorem fx4 (x : List Int) (h : bigT x = false) : thM lE lE [] x [] = (jnd (lnS x), 0, 0) := by
  have hl := (bigT_no h).1
  have he : thE lE lE [] x [] = 0 := by
    unfold thE
    rw [h, fx_ok]
    rfl
  have hc : thF lE lE [] 0 (cutP (lnS []) (lnS x) (lnS [])) = (jnd (lnS x), 0) := by
    rw [lnS_nil, cut_mid]
    by_cases hA : lnS x = []
    · rw [hA]; rfl
    · rw [thF_some (L := lnS x) (by unfold setF; rw [if_neg hA]; simp)]
      rfl
  unfold thM th3
  rw [he, if_neg (by simp), hc]
  simp only
  rw [if_neg (by rw [jnd_lnS]; omega)]
  rfl
theorem zeros_all (n : Nat) : AllB (List.replicate n 0) := fun x hx => by rw [List.eq_of_mem_replicate hx]; omega
theorem tens_all (n : Nat) : AllB (List.replicate n 10) := fun x hx => by rw [List.eq_of_mem_replicate hx]; omega
theorem rd_rep (w : World) (g off n c : Nat) (x : Int) (hg : g < w.heap.size) (hn : n ≤ c) (hc : c ≤ maxLen) (h : ∀ i, i < n → w.cell? ⟨g, off + i, none⟩ = some (.int .u8 x)) : Rd .u8 anyB w (.slice (some ⟨g, off, none⟩) n c) (List.replicate n x) := by
  refine ⟨some ⟨g, off, none⟩, c, by rw [List.length_replicate], by rw [List.length_replicate]; exact hn, hc, (fun e => by cases e), fun _ => ⟨g, off, rfl, hg, trivial, fun i hi => ?_⟩⟩
  rw [List.length_replicate] at hi
  rw [h i hi, List.getD, List.getElem?_replicate, if_pos hi]
  rfl
theorem made_zero (n : Nat) : (madeCells (Value.int .u8 0).cells (n * 1)).toList = cellsK .u8 (List.replicate n 0) := by
  rw [Nat.mul_one]
  simp [madeCells, Value.cells, cellsK, List.map_replicate, Nat.mod_one, List.eq_replicate_iff]
/-- Bytes, of which the first ones are tens. -/
def tenK (k : Nat) : List Int := List.replicate k 10 ++ List.replicate (1001 - k) 0
theorem tenK_set {k : Nat} (h : k < 1001) : (cellsK .u8 (tenK k)).set k (.int .u8 10) = cellsK .u8 (tenK (k + 1)) := by
  have e : 1001 - k = (1001 - (k + 1)) + 1 := by omega
  unfold tenK cellsK
  rw [e, List.replicate_succ (n := 1001 - (k + 1)), ← List.map_set (f := fun x => Value.int .u8 x) (a := 10), List.set_append_right _ _ (by simp)]
  simp only [List.length_replicate, Nat.sub_self, List.set_cons_zero]
  rw [List.replicate_succ' (n := k), List.append_assoc]
  rfl
theorem tenK_get {k : Nat} (h : k < 1001) : ∃ y : Int, (cellsK .u8 (tenK k))[k]? = some (.int .u8 y) := by
  unfold tenK cellsK
  refine ⟨0, ?_⟩
  rw [List.getElem?_map, List.getElem?_append_right (by simp)]
  simp only [List.length_replicate, Nat.sub_self, List.getElem?_replicate]
  rw [if_pos (by omega)]
  rfl
theorem tenK_full (i : Nat) (h : i < 1001) : (cellsK .u8 (tenK 1001))[i]? = some (.int .u8 10) := by
  unfold tenK cellsK
  rw [List.getElem?_map, List.getElem?_append_left (by rw [List.length_replicate]; exact h), List.getElem?_replicate, if_pos h]
  rfl
set_option maxRecDepth 100000 in
set_option maxHeartbeats 4000000 in
theorem mgfixed_walk (w : World) : Calls Try.prog 7 #[] w fun e w' => e = .returned (.bool true) ∧ Below w.heap.size w w' := by
  obtain ⟨i0, hi, hz, hs, hbt⟩ := info8z
  have KAw := Kept.mk (awake21_any w)
  go_enter Try.func7, Try.ntmps7
  go_wp2_with fail
  refine Calls.mono KAw.out (fun e w0 hp => ?_)
  obtain ⟨rfl, hb0⟩ := hp
  have KW := Kept.mk hb0
  clear hb0 KAw
  go_upto_region 3 with fail
  obtain ⟨w0a, cvA1, rdA1, blA1⟩ := lit_step w0 [49] (by simp)
  have cvA1 : (convert 22 22 (.slice (some ⟨w0.heap.size, 0, none⟩) 1 1)).run Try.prog (w0.alloc (.cells #[.int .u8 49] 5)) = .ok (.slice (some ⟨w0.heap.size, 0, none⟩) 1 1) w0a := cvA1
  obtain ⟨w0b, cvA2, rdA2, blA2⟩ := lit_step w0a [50] (by simp)
  have cvA2 : (convert 22 22 (.slice (some ⟨w0a.heap.size, 0, none⟩) 1 1)).run Try.prog (w0a.alloc (.cells #[.int .u8 50] 5)) = .ok (.slice (some ⟨w0a.heap.size, 0, none⟩) 1 1) w0b := cvA2
  obtain ⟨w0c, cvA3, rdA3, blA3⟩ := lit_step w0b [51] (by simp)
  have cvA3 : (convert 22 22 (.slice (some ⟨w0b.heap.size, 0, none⟩) 1 1)).run Try.prog (w0b.alloc (.cells #[.int .u8 51] 5)) = .ok (.slice (some ⟨w0b.heap.size, 0, none⟩) 1 1) w0c := cvA3
  have blAA := blA2.trans (blA3.mono blA2.size)
  have KA := Kept.mk (three_of _ _ _ [49] [50] [51] lA lB w0c (rdA1.later blAA (Nat.le_refl _)) (rdA2.later blA3 (Nat.le_refl _)) rdA3 (fun x hx => by simp at hx; omega) (fun x hx => by simp at hx; omega) (fun x hx => by simp at hx; omega))
  rw [aw3] at KA
  have hbA := KW.out.trans ((blA1.trans (blAA.mono blA1.size)).mono KW.out.size)
  have KBA := Kept.mk hbA
  have KCA := Kept.mk (blA1.trans (blAA.mono blA1.size))
  clear rdA1 rdA2 rdA3 blA1 blA2 blA3 blAA hbA
  go_wp2_with (first | rw [cvA1] | rw [cvA2] | rw [cvA3])
  clear cvA1 cvA2 cvA3
  refine Calls.mono KA.out (fun e w0d hp => ?_)
  obtain ⟨vA, rfl, hoA, hdA⟩ := hp
  have KDA := Kept.mk (KBA.out.trans (hdA.mono KBA.out.size))
  have KEA := Kept.mk (KCA.out.trans (hdA.mono KCA.out.size))
  have KOA := Kept.mk hoA
  clear KA hoA hdA KBA KCA
  have K4 := Kept.mk (three_of (.slice none 0 0) (.slice none 0 0) (.slice none 0 0) [] [] [] lN lE w0d (Rd.nil _ _ _) (Rd.nil _ _ _) (Rd.nil _ _ _) AllIn.nil AllIn.nil AllIn.nil)
  rw [fx1] at K4
  go_wp2_with fail
  refine Calls.mono K4.out (fun e w4 hp => ?_)
  obtain ⟨v4, rfl, -, hb4⟩ := hp
  have KF4 := Kept.mk hb4
  clear K4 hb4
  have hm3 : i0.bytes * 1048577 ≤ 281474976710656 := by rw [hbt]; omega
  have hm4 : 1048577 ≤ maxLen := by unfold maxLen; omega
  go_wp2_with (at_make; refine wpList_make_full _ rfl _ _ 22 rfl w4.heap.size 5 i0 (.int .u8 0) 1 Try.underlying22 hi hz hs .i64 .i64 1048577 1048577 1048577 rfl rfl rfl rfl hm3 hm4 (Nat.le_refl _) ?_; intro w5 hown hgrow; have hb := (Below.refl w4.heap.size w4).grown hgrow (Nat.le_refl _) (by intro k hk; cases hk); have KF5 := Kept.mk (KF4.out.trans (hb.mono KF4.out.size)); have hrd : Rd .u8 anyB w5 (.slice (some ⟨w4.heap.size, 0, none⟩) 1048577 1048577) (List.replicate 1048577 0) := (by rw [made_zero] at hown; have h : Own .u8 5 w5 w4.heap.size (.slice (some ⟨w4.heap.size, 0, none⟩) 1048577 1048577) (List.replicate 1048577 0) := (by unfold Own; rw [List.length_replicate]; exact hown); exact h.rd.any); have K5 := three_of _ (.slice none 0 0) (.slice none 0 0) (List.replicate 1048577 0) [] [] lZ lE w5 hrd (Rd.nil _ _ _) (Rd.nil _ _ _) (zeros_all _) AllIn.nil AllIn.nil; rw [fx2 _ (by rw [List.length_replicate]; omega)] at K5; have K5 := Kept.mk K5; clear hown hgrow hb hrd)
  refine Calls.mono K5.out (fun e w6 hp => ?_)
  obtain ⟨v6, rfl, -, hb6⟩ := hp
  have KF6 := Kept.mk (KF5.out.trans (hb6.mono KF5.out.size))
  clear K5 hb6 hm3 hm4 KF5 KF4
  have hm3 : i0.bytes * 1001 ≤ 281474976710656 := by rw [hbt]; omega
  have hm4 : 1001 ≤ maxLen := by unfold maxLen; omega
  have KA6 := Kept.mk (KOA.out.later KF6.out (Nat.le_refl _))
  have KG6 := Kept.mk (KDA.out.trans (KF6.out.mono KDA.out.size))
  clear KF6 KOA KDA KEA
  go_upto_region 7 with (at_make; refine wpList_make_full _ rfl _ _ 22 rfl w6.heap.size 5 i0 (.int .u8 0) 1 Try.underlying22 hi hz hs .i64 .i64 1001 1001 1001 rfl rfl rfl rfl hm3 hm4 (Nat.le_refl _) ?_; intro w7 hown hgrow; have hb := (Below.refl w6.heap.size w6).grown hgrow (Nat.le_refl _) (by intro k hk; cases hk); have KF7 := Kept.mk hb; have Kown := Kept.mk hown; clear hown hgrow hb)
  have Kbk : Kept (Bk w7 w6.heap.size 5 (cellsK .u8 (tenK 0))) := ⟨by
    have h := Kown.out
    rw [made_zero] at h
    rcases h.2 with ⟨h1, -⟩ | ⟨g, cap, cur, h1, -, hg, -, -, hcs, htake⟩
    · cases h1
    · injection h1 with h1 h2 h3
      injection h1 with h1
      injection h1 with h1
      subst h1 h3
      unfold Bk
      rw [hg]
      congr 1
      have e : cur.toList = cellsK .u8 (tenK 0) := by
        rw [← List.take_of_length_le (l := cur.toList) (i := 1001 * 1) (by rw [Array.length_toList, hcs]; exact Nat.le_refl _)]
        rw [htake]
        rfl
      rw [← e]⟩
  obtain ⟨g, hg⟩ : ∃ g, w6.heap.size = g := ⟨_, rfl⟩
  rw [hg] at Kbk ⊢
  have Kg := Kept.mk hg
  clear Kown hg hi hz hs hbt hm3 hm4
  go_upto_region 8 with fail
  go_loopw [48] (fun iv wr => ∃ k : Nat, k ≤ 1001 ∧ iv = .int .i64 k ∧ Bk wr g 5 (cellsK .u8 (tenK k)) ∧ Below w6.heap.size w6 wr) (fun iv _ => 1001 - (intOf iv).toNat)
  case atStart => exact ⟨0, by omega, rfl, Kbk.out, KF7.out⟩
  case round =>
    obtain ⟨k, hk, rfl, hbk, hbl⟩ := hrel
    have KBk := Kept.mk hbk
    have KBl := Kept.mk hbl
    by_cases hlt : k < 1001
    · have hki : (k : Int) < 1001 := by omega
      have n0 : (0 : Int) ≤ (k : Int) := by omega
      have e1 : IntKind.i64.wrap ((k : Int) + 1) = (k : Int) + 1 := wr64 (by omega) (by omega)
      obtain ⟨y, hy⟩ := tenK_get hlt
      have cy := hbk.cell k _ hy
      have fy := hbk.frozen k
      clear hbk hbl hy
      go_wp2
      go_roundw
      case rel => exact ⟨k + 1, by omega, by go_num, by rw [← tenK_set hlt]; exact KBk.out.set k _, KBl.out.setCell (by rw [Kg.out]; exact Nat.le_refl _) _⟩
      case measure => simp [intOf]; omega
    · obtain rfl : k = 1001 := by omega
      rw [show ((1001 : Nat) : Int) = 1001 from rfl]
      have hlt := hbk.lt
      have Kr1 := Kept.mk (rd_rep wr g 0 1001 1001 10 hlt (Nat.le_refl _) (by unfold maxLen; omega) (fun i hi => by rw [Nat.zero_add]; exact hbk.cell i _ (tenK_full i hi)))
      have Kr2 := Kept.mk (rd_rep wr g 1 1000 1000 10 hlt (Nat.le_refl _) (by unfold maxLen; omega) (fun i hi => hbk.cell (1 + i) _ (tenK_full (1 + i) (by omega))))
      have K8 := three_of (.slice none 0 0) _ (.slice none 0 0) [] (List.replicate 1001 10) [] lE lE wr (Rd.nil _ _ _) Kr1.out (Rd.nil _ _ _) AllIn.nil (tens_all _) AllIn.nil
      rw [fx3] at K8
      have K8 := Kept.mk K8
      clear hbk hbl KBk hlt Kr1
      go_wp2_with fail
      refine Calls.mono K8.out (fun e w8 hp => ?_)
      obtain ⟨v8, rfl, -, hb8⟩ := hp
      have KB8 := Kept.mk (KBl.out.trans (hb8.mono KBl.out.size))
      have K9 := three_of (.slice none 0 0) _ (.slice none 0 0) [] (List.replicate 1000 10) [] lE lE w8 (Rd.nil _ _ _) (Kr2.out.later hb8 (Nat.le_refl _)) (Rd.nil _ _ _) AllIn.nil (tens_all _) AllIn.nil
      rw [fx4 _ tens_not] at K9
      have K9 := Kept.mk K9
      have Kjl : Kept ((jnd (lnS (List.replicate 1000 10))).length = 1000) := ⟨by rw [jnd_lnS, List.length_replicate]⟩
      clear K8 hb8 Kr2
      generalize jnd (lnS (List.replicate 1000 10)) = J at *
      go_wp2_with fail
      refine Calls.mono K9.out (fun e w9 hp => ?_)
      obtain ⟨v9, rfl, ho9, hb9⟩ := hp
      have KB9 := Kept.mk (KB8.out.trans (hb9.mono KB8.out.size))
      obtain ⟨p9, c9, hv9, -⟩ := ho9.rd.form
      simp only at hv9
      rw [Kjl.out] at hv9
      subst hv9
      have cA := (KA6.out.later KB9.out (Nat.le_refl _)).rd.str (P := Try.prog) (src := 22) Try.underlying22 Try.underlying5 9 Try.underlying9
      rw [str_cl] at cA
      have Kend := Kept.mk (KG6.out.trans (KB9.out.mono KG6.out.size))
      clear K9 ho9 hb9 KA6
      go_wp2
      go_ret
      exact ⟨rfl, Kend.out⟩
end Go.Proofs.Ytidpdhnbnecddaa
