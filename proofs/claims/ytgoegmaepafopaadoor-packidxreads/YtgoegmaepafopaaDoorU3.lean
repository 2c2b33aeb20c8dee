/-
  Walks: the document's id.
-/
import Derived.Test.YtgoegmaepafopaaDoorRF
namespace Go.Proofs.YtgoegmaepafopaaDoor
open Go.RowKit Go.Sort

def idM (p : List Int) (t k : Nat) : List Int := (List.range 32).map fun i => if i < k then p.getD (t + i) 0 else 0
theorem idM_len (p : List Int) (t k : Nat) : (idM p t k).length = 32 := by simp [idM]
theorem idM_zero (p : List Int) (t : Nat) : idM p t 0 = z32 := by
  unfold idM z32
  apply List.ext_getElem
  · simp
  · intro i h1 h2
    rw [List.getElem_map, List.getElem_replicate, if_neg (by omega)]
theorem idM_get (p : List Int) (t k i : Nat) (h : i < (idM p t k).length) : (idM p t k)[i] = if i < k then p.getD (t + i) 0 else 0 := by simp [idM]
theorem idM_step (p : List Int) (t : Nat) {k : Nat} : (idM p t k).set k (p.getD (t + k) 0) = idM p t (k + 1) := by
  apply List.ext_getElem
  · rw [List.length_set, idM_len, idM_len]
  · intro i h1 h2
    rw [List.getElem_set, idM_get, idM_get]
    by_cases h : k = i
    · subst h
      rw [if_pos rfl, if_pos (by omega)]
    · rw [if_neg h]
      by_cases h3 : i < k
      · rw [if_pos h3, if_pos (by omega)]
      · rw [if_neg h3, if_neg (by omega)]
theorem seg_get (p : List Int) (t m i : Nat) (h : i < (seg p t m).length) : (seg p t m)[i] = p.getD (t + i) 0 := by
  have hl : t + i < p.length := by
    unfold seg at h
    rw [List.length_take, List.length_drop] at h
    omega
  simp [seg, List.getD, List.getElem?_eq_getElem hl]
theorem idM_all {p : List Int} {t : Nat} (h : t + 32 ≤ p.length) : idM p t 32 = seg p t 32 := by
  apply List.ext_getElem
  · rw [idM_len, seg_len _ _ _ h]
  · intro i h1 h2
    rw [idM_get, seg_get, if_pos (by rw [idM_len] at h1; exact h1)]

set_option maxHeartbeats 2000000 in
set_option maxRecDepth 100000 in
theorem id_any {S : Nat → Prop} (v : Value) (xs : List Int) (t : Nat) (w : World) (h : Rd .u8 S w v xs) (ht : t + 32 ≤ xs.length) (hl : xs.length + 20 ≤ 140737488355328) :
    Calls Tryd.prog 27 #[v, .int .i64 t] w fun e w' => e = .returned (.agg (cellsK .u8 (seg xs t 32)).toArray) ∧ Below w.heap.size w w' := by
  obtain ⟨w0, hw0, hb0, hb1, hs0, hB0⟩ := two_ids w
  have hw0' : (w.alloc (.cells #[.int .u8 0, .int .u8 0, .int .u8 0, .int .u8 0, .int .u8 0, .int .u8 0, .int .u8 0, .int .u8 0, .int .u8 0, .int .u8 0, .int .u8 0, .int .u8 0, .int .u8 0, .int .u8 0, .int .u8 0, .int .u8 0, .int .u8 0, .int .u8 0, .int .u8 0, .int .u8 0, .int .u8 0, .int .u8 0, .int .u8 0, .int .u8 0, .int .u8 0, .int .u8 0, .int .u8 0, .int .u8 0, .int .u8 0, .int .u8 0, .int .u8 0, .int .u8 0] 24)).alloc (.cells #[.int .u8 0, .int .u8 0, .int .u8 0, .int .u8 0, .int .u8 0, .int .u8 0, .int .u8 0, .int .u8 0, .int .u8 0, .int .u8 0, .int .u8 0, .int .u8 0, .int .u8 0, .int .u8 0, .int .u8 0, .int .u8 0, .int .u8 0, .int .u8 0, .int .u8 0, .int .u8 0, .int .u8 0, .int .u8 0, .int .u8 0, .int .u8 0, .int .u8 0, .int .u8 0, .int .u8 0, .int .u8 0, .int .u8 0, .int .u8 0, .int .u8 0, .int .u8 0] 24) = w0 := hw0
  obtain ⟨b, off, c, rfl, hblt, hlc, hcm, hSb, hcell⟩ := h.open (by omega)
  have KC := Kept.mk hcell
  have Kblt := Kept.mk hblt
  have K0 := Kept.mk hb0
  have K1 := Kept.mk hb1
  have KB0 := Kept.mk hB0
  clear hb0 hb1 hB0 h hw0 hcell hblt
  go_enter Tryd.func27, Tryd.ntmps27
  go_upto_region 2 with fail
  clear hw0'
  go_wp2_with fail
  go_loopw [6] (fun iv wr => ∃ k : Nat, k ≤ 32 ∧ iv = .int .i64 k ∧ BlkK .u8 wr w.heap.size 24 z32 ∧ BlkK .u8 wr (w.heap.size + 1) 24 (idM xs t k) ∧ Below w.heap.size w wr) (fun iv _ => 32 - (intOf iv).toNat)
  case atStart => exact ⟨0, Nat.zero_le _, rfl, K0.out, by rw [idM_zero]; exact K1.out, KB0.out⟩
  case round =>
    obtain ⟨k, hk, rfl, hbl0, hbl1, hbel⟩ := hrel
    have KB := Kept.mk hbel
    have Kb0 := Kept.mk hbl0
    have Kb1 := Kept.mk hbl1
    have hfl := idM_len xs t k
    clear K0 K1 KB0 hs0
    by_cases hlt : k < 32
    · have hki : (k : Int) < 32 := by omega
      obtain ⟨q, hq⟩ : ∃ q, q = t + k := ⟨_, rfl⟩
      have e1 : IntKind.i64.wrap ((t : Int) + (k : Int)) = (q : Int) := by rw [wr64 (by omega) (by omega)]; omega
      have e2 : (q : Int) < (xs.length : Int) := by omega
      have e3 : IntKind.i64.wrap ((k : Int) + 1) = (k : Int) + 1 := wr64 (by omega) (by omega)
      have hcq : wr.cell? ⟨b, off + q, none⟩ = some (.int .u8 (xs.getD q 0)) := by rw [hbel.cell (p := ⟨b, off + q, none⟩) Kblt.out]; exact KC.out q (by omega)
      have hcF := hbl1.cell k (by rw [hfl]; exact hlt)
      have hfz := hbl1.frozen k
      have KSt : Kept ((idM xs t k).set k (xs.getD q 0) = idM xs t (k + 1)) := ⟨by rw [hq]; exact idM_step xs t⟩
      clear hbel hbl0 hbl1 hfl hq
      generalize xs.getD q 0 = y at *
      generalize (idM xs t k).getD k 0 = y0 at *
      go_wp2
      go_roundw
      case rel => exact ⟨k + 1, by omega, by go_num, Kb0.out.other (by omega) _, by rw [← KSt.out]; exact Kb1.out.set k _, KB.out.setCell (by show w.heap.size ≤ w.heap.size + 1; omega) _⟩
      case measure => simp [intOf]; omega
    · obtain rfl : k = 32 := by omega
      have K2 : Kept (BlkK .u8 wr (w.heap.size + 1) 24 (seg xs t 32)) := ⟨by rw [← idM_all ht]; exact Kb1.out⟩
      have hgl : (seg xs t 32).length = 32 := seg_len _ _ _ ht
      have HR := Kept.mk K2.out.range
      have HT := Kept.mk (Kb0.out.there (cellsK .u8 (seg xs t 32)).toArray.size (by rw [List.size_toArray, cellsK_length, hgl, z32_length]))
      have HI : Kept ((Tryd.prog.info? 24).map (·.size) = some (cellsK .u8 (seg xs t 32)).length) := ⟨by rw [cellsK_length, hgl]; exact info_id⟩
      have HI2 : Kept ((Tryd.prog.info? 24).map (·.size) = some (cellsK .u8 (seg xs t 32)).toArray.size) := ⟨by rw [List.size_toArray]; exact HI.out⟩
      have HO := Kept.mk (cellsK_all .u8 (seg xs t 32))
      have HF := Kept.mk (Kb0.out.over (ws := seg xs t 32) (by rw [hgl, z32_length]))
      have HBf := Kept.mk (Sh.below_cells (b := w.heap.size) (Nat.le_refl _) (cellsK .u8 (seg xs t 32)) 0 w wr KB.out)
      clear Kb0 Kb1 K2 KB hfl hgl hbl0 hbl1 hbel
      generalize hF : seg xs t 32 = F at *
      have KF := Kept.mk hF
      clear hF
      go_wp2_with (first | (refine wpList_load_mid rfl 24 _ rfl (w.heap.size + 1) 0 rfl (cellsK .u8 F) _ HR.out Tryd.underlying24 rfl HI.out ?_) | (refine wpList_store_mid rfl 24 _ _ rfl w.heap.size 0 (cellsK .u8 F).toArray rfl rfl HT.out HI2.out HO.out ?_))
      refine bodyPost_ret (v := .agg (cellsK .u8 F).toArray) (results_cell_row (p := 4) (ty := 24) Tryd.results27 _ _ w.heap.size 24 _ (0, 0) _ rfl HF.out Tryd.underlying24 rfl HI2.out) rfl ⟨by rw [KF.out], HBf.out⟩

open Go.RowKit Go.Sort

def szE (p : List Int) : Int := if (cntS p).2 ≠ 0 then (cntS p).2 else sizeE p (cntS p).1.toNat
theorem rbig_any {S : Nat → Prop} (v : Value) (xs : List Int) (t n : Nat) (w : World) (h : Rd .u8 S w v xs) (hA : AllB xs) (hn : 1 ≤ n) (hn8 : n ≤ 8) (ht : t + n ≤ xs.length) :
    Calls Tryd.prog 28 #[v, .int .i64 t, .int .i64 n] w fun e w' => e = .returned (.int .u64 (Nu.bigT xs t n)) ∧ w' = w := by
  obtain ⟨b, off, c, rfl, hlt, hlc, hcm, -, hc⟩ := h.open (by omega)
  exact Nu.refBig_ok b off c xs t n w hn hn8 ht hlc (by unfold maxLen at hcm; omega) hA hc
theorem seg_four {p : List Int} {t : Nat} (h : t + 4 ≤ p.length) : seg p t 4 = [p.getD t 0, p.getD (t + 1) 0, p.getD (t + 2) 0, p.getD (t + 3) 0] := by
  have hl := seg_len p t 4 h
  apply List.ext_getElem
  · rw [hl]; rfl
  · intro i h1 h2
    rw [seg_get]
    have : i = 0 ∨ i = 1 ∨ i = 2 ∨ i = 3 := by omega
    rcases this with rfl | rfl | rfl | rfl <;> rfl
theorem short_byte {p : List Int} (hA : AllB p) {t : Nat} (h : t + 4 ≤ p.length) : (2147483648 ≤ Nu.bigT p t 4) ↔ 128 ≤ p.getD t 0 := by
  have h0 := hA.getD (by omega) t
  have h1 := hA.getD (by omega) (t + 1)
  have h2 := hA.getD (by omega) (t + 2)
  have h3 := hA.getD (by omega) (t + 3)
  have e : Nu.bigT p t 4 = Nu.bigV 0 (seg p t 4) := rfl
  rw [e, seg_four h]
  show 2147483648 ≤ (((0 * 256 + p.getD t 0) * 256 + p.getD (t + 1) 0) * 256 + p.getD (t + 2) 0) * 256 + p.getD (t + 3) 0 ↔ _
  generalize p.getD t 0 = a at *
  generalize p.getD (t + 1) 0 = b at *
  generalize p.getD (t + 2) 0 = c at *
  generalize p.getD (t + 3) 0 = d at *
  omega
theorem up_fan {p : List Int} : upB (fanRL p) = true ↔ ∀ j, j + 1 < 256 → fanR p j ≤ fanR p (j + 1) := by
  rw [upB_iff]
  have hl : (fanRL p).length = 256 := map256_length _
  unfold Up
  rw [hl]
  constructor
  · intro h j hj
    have := h j hj
    unfold fanRL at this
    rwa [map256_get _ (by omega), map256_get _ (by omega)] at this
  · intro h j hj
    unfold fanRL
    rw [map256_get _ (by omega), map256_get _ (by omega)]
    exact h j hj

def SzEnd (Z C : Int) (w w' : World) (e : Ending) : Prop := (∃ (n : Int) (l : Int), e = .returned (.tuple #[.int .i64 n, .int .i64 l, .int .i64 Z]) ∧ (Z = 0 → n = C)) ∧ w' = w
theorem SzEnd.bad {Z C k : Int} {w : World} {e : Ending} (h : e = .returned (.tuple #[.int .i64 0, .int .i64 0, .int .i64 k])) (hZ : Z = k) (hk : k ≠ 0) : SzEnd Z C w w e := ⟨⟨0, 0, by rw [h, hZ], fun h0 => absurd (hZ.symm.trans h0) hk⟩, rfl⟩
theorem SzEnd.good {Z C : Int} {n m : Nat} {w : World} {e : Ending} (h : e = .returned (.tuple #[.int .i64 n, .int .i64 m, .int .i64 0])) (hZ : Z = 0) (hk : Z = 0 → (n : Int) = C) : SzEnd Z C w w e := ⟨⟨n, m, by rw [h, hZ], hk⟩, rfl⟩
set_option maxHeartbeats 4000000 in
set_option maxRecDepth 100000 in
theorem sizes_any {S : Nat → Prop} (v : Value) (xs : List Int) (w : World) (h : Rd .u8 S w v xs) (hA : AllB xs) (hl : xs.length + 20 ≤ 140737488355328) :
    Calls Tryd.prog 25 #[v] w fun e w' => SzEnd (szE xs) (cntS xs).1 w w' e := by
  obtain ⟨a, c, rfl, hac, hlc, hcm⟩ := h.form
  have KH := Kept.mk h
  have KA := Kept.mk hA
  have KE0 : Kept (szE xs = if (cntS xs).2 ≠ 0 then (cntS xs).2 else sizeE xs (cntS xs).1.toNat) := ⟨rfl⟩
  have KE : Kept (cntS xs = if xs.length < 1096 then (0, 5) else if xs.take 8 ≠ headB then (0, 4) else if upB (fanRL xs) = false then (0, 4) else if 4096 < fanR xs 255 then (0, 10) else (fanR xs 255, 0)) := ⟨rfl⟩
  clear h
  generalize szE xs = Z at *
  generalize cntS xs = E at *
  by_cases h1 : xs.length < 1096
  · have d1 : decide ((xs.length : Int) < 1096) = true := decide_eq_true (by omega)
    have KV : Kept (Z = 5) := ⟨by rw [KE0.out, KE.out, if_pos h1]; rfl⟩
    clear h1
    go_enter Tryd.func25, Tryd.ntmps25
    go_wp2
    go_ret3
    exact SzEnd.bad rfl KV.out (by decide)
  · have d1 : decide ((xs.length : Int) < 1096) = false := decide_eq_false (by omega)
    have h1096 : 1096 ≤ xs.length := by omega
    obtain ⟨b, off, c', hv, hblt, -, -, hSb, hcell⟩ := KH.out.open (by omega)
    simp at hv
    obtain ⟨rfl, rfl⟩ := hv
    have KCell := Kept.mk hcell
    have hr8 : Rd .u8 anyB w (.slice (some ⟨b, off, none⟩) 8 c) (xs.take 8) := by
      refine ⟨some ⟨b, off, none⟩, c, by rw [List.length_take]; congr 1; omega, by rw [List.length_take]; omega, hcm, (fun h => by cases h), fun _ => ⟨b, off, rfl, hblt, trivial, fun i hi => ?_⟩⟩
      rw [List.length_take] at hi
      rw [hcell i (by omega)]
      simp [List.getD, show i < 8 by omega]
    have cv8 := hr8.str Tryd.underlying22 Tryd.underlying5 9 Tryd.underlying9
    have hse := strs_eq (hA.take 8) headB_allB
    rw [← headS, Lib.toList_data ⟨#[255, 116, 79, 99, 0, 0, 0, 2]⟩] at hse
    have hne : ((strOfNums (xs.take 8)).toList == [255, 116, 79, 99, 0, 0, 0, 2]) = decide (xs.take 8 = headB) := hse
    have i8 : (8 : Int) ≤ (xs.length : Int) := by omega
    have c8 : (8 : Int) ≤ (c : Int) := by omega
    clear hcell hr8
    by_cases h2 : xs.take 8 = headB
    · rw [decide_eq_true h2] at hne hse
      have hne' : ((strOfNums (xs.take 8)).toList == [255, 116, 79, 99, 0, 0, 0, 2]) = true := hne
      have KE2 : Kept (E = if upB (fanRL xs) = false then (0, 4) else if 4096 < fanR xs 255 then (0, 10) else (fanR xs 255, 0)) := ⟨by rw [KE.out, if_neg h1, if_neg (by simpa using h2)]⟩
      clear hne h1 h2 hse
      generalize strOfNums (xs.take 8) = T8 at *
      have KBg : Kept (∀ t, t + 4 ≤ xs.length → Calls Tryd.prog 28 #[.slice (some ⟨b, off, none⟩) xs.length c, .int .i64 (t : Int), .int .i64 4] w fun e w' => e = .returned (.int .u64 (Nu.bigT xs t 4)) ∧ w' = w) := ⟨fun t ht => rbig_any _ xs t 4 w KH.out hA (by omega) (by omega) ht⟩
      go_enter Tryd.func25, Tryd.ntmps25
      go_wp2_with fail
      clear cv8 hne'
      go_loop [5, 6] (fun lv iv => ∃ (k : Nat) (l : Int), k ≤ 256 ∧ iv = .int .i64 k ∧ lv = .int .u64 l ∧ (k = 0 → l = 0) ∧ (∀ j, k = j + 1 → l = fanR xs j) ∧ (∀ j, j + 1 < k → fanR xs j ≤ fanR xs (j + 1))) (fun _ iv => 256 - (intOf iv).toNat)
      case atStart => exact ⟨0, 0, Nat.zero_le _, rfl, rfl, fun _ => rfl, fun j h => by omega, fun j h => by omega⟩
      case round =>
        obtain ⟨k, l, hk, rfl, rfl, hl0, hl1, hup⟩ := hrel
        have Kl0 := Kept.mk hl0
        have Kl1 := Kept.mk hl1
        have Kup := Kept.mk hup
        clear hl0 hl1 hup
        by_cases hlt : k < 256
        · have hki : (k : Int) < 256 := by omega
          have KC := Kept.mk (KBg.out (8 + k * 4) (by omega))
          have e1 : IntKind.i64.wrap (4 * (k : Int)) = 4 * (k : Int) := wr64 (by omega) (by omega)
          have e2 : IntKind.i64.wrap (8 + 4 * (k : Int)) = 8 + 4 * (k : Int) := wr64 (by omega) (by omega)
          have e3 : IntKind.i64.wrap ((k : Int) + 1) = (k : Int) + 1 := wr64 (by omega) (by omega)
          have e5 : Kept (((8 + k * 4 : Nat) : Int) = 8 + 4 * (k : Int)) := ⟨by omega⟩
          rw [e5.out] at KC
          have KF : Kept (fanR xs k = Nu.bigT xs (8 + k * 4) 4) := ⟨rfl⟩
          rw [← KF.out] at KC
          have Ky0 : Kept (0 ≤ fanR xs k) := ⟨(bigT_range xs (8 + k * 4) 4 KA.out (by omega)).1⟩
          obtain ⟨y, hy⟩ : ∃ y, fanR xs k = y := ⟨_, rfl⟩
          have Ky := Kept.mk hy
          rw [hy] at KC Ky0
          clear hy KF
          by_cases hyl : y < l
          · have d2 : decide (y < l) = true := decide_eq_true hyl
            have hk1 : k ≠ 0 := fun h => by have := Kl0.out h; have := Ky0.out; omega
            have hU : upB (fanRL xs) = false := by
              rcases hq : upB (fanRL xs) with _ | _
              · rfl
              · exfalso
                have h3 := up_fan.1 hq (k - 1) (by omega)
                rw [show k - 1 + 1 = k by omega, Ky.out, ← Kl1.out (k - 1) (by omega)] at h3
                omega
            have KV : Kept (Z = 4) := ⟨by rw [KE0.out, KE2.out, if_pos hU]; rfl⟩
            clear hU hk1 hyl
            go_wp2_with fail
            refine Calls.mono KC.out (fun e w1 hp => ?_)
            obtain ⟨rfl, rfl⟩ := hp
            go_wp2
            go_ret3
            exact SzEnd.bad rfl KV.out (by decide)
          · have d2 : decide (y < l) = false := decide_eq_false hyl
            have Kyl : Kept (l ≤ y) := ⟨by omega⟩
            clear hyl
            go_wp2_with fail
            refine Calls.mono KC.out (fun e w1 hp => ?_)
            obtain ⟨rfl, rfl⟩ := hp
            go_wp2
            go_round
            case rel =>
              refine ⟨k + 1, y, by omega, by go_num, rfl, fun h => by omega, fun j h => ?_, fun j h => ?_⟩
              · obtain rfl : k = j := by omega
                exact Ky.out.symm
              · rcases Nat.lt_or_ge (j + 1) k with h' | h'
                · exact Kup.out j h'
                · obtain rfl : k = j + 1 := by omega
                  rw [Ky.out, ← Kl1.out j rfl]
                  exact Kyl.out
            case measure => simp [intOf]; omega
        · have hki : ¬ (k : Int) < 256 := by omega
          obtain rfl : k = 256 := by omega
          have hU : upB (fanRL xs) = true := up_fan.2 Kup.out
          have hl255 := Kl1.out 255 rfl
          have hrg := bigT_range xs (8 + 255 * 4) 4 KA.out (by omega)
          have hrg' : 0 ≤ fanR xs 255 ∧ fanR xs 255 < 4294967296 := hrg
          have KE3 : Kept (E = if 4096 < l then (0, 10) else (l, 0)) := ⟨by rw [KE2.out, if_neg (by rw [hU]; decide), hl255]⟩
          rw [← hl255] at hrg'
          clear hrg hU hl255 Kl0 Kl1 Kup KE2 KE KBg
          by_cases h4 : 4096 < l
          · have d4 : decide (4096 < l) = true := decide_eq_true h4
            have KV : Kept (Z = 10) := ⟨by rw [KE0.out, KE3.out, if_pos h4]; rfl⟩
            go_wp2
            go_ret3
            exact SzEnd.bad rfl KV.out (by decide)
          · have d4 : decide (4096 < l) = false := decide_eq_false h4
            have KE4 : Kept (E = (l, 0)) := ⟨by rw [KE3.out, if_neg h4]⟩
            obtain ⟨n, rfl⟩ : ∃ n : Nat, l = (n : Int) := ⟨l.toNat, by omega⟩
            have hn : n ≤ 4096 := by omega
            have KZ : Kept (Z = sizeE xs n) := ⟨by rw [KE0.out, KE4.out]; rfl⟩
            have KZn : Kept (Z = 0 → (n : Int) = E.1) := ⟨fun _ => by rw [KE4.out]⟩
            clear h4 hrg' KE3 KE4 KE0 hki
            have e0 : IntKind.i64.wrap (n : Int) = (n : Int) := wr64 (by omega) (by omega)
            have e1 : IntKind.i64.wrap (40 * (n : Int)) = 40 * (n : Int) := wr64 (by omega) (by omega)
            have e2 : IntKind.i64.wrap (1032 + 40 * (n : Int)) = 1032 + 40 * (n : Int) := wr64 (by omega) (by omega)
            have e3 : IntKind.i64.wrap (1032 + 40 * (n : Int) + 64) = 1032 + 40 * (n : Int) + 64 := wr64 (by omega) (by omega)
            by_cases h5 : xs.length < 1096 + n * 40
            · have d5 : decide ((xs.length : Int) < 1032 + 40 * (n : Int) + 64) = true := decide_eq_true (by omega)
              have KV : Kept (Z = 5) := ⟨by rw [KZ.out]; unfold sizeE; rw [if_pos h5]⟩
              clear h5
              go_wp2
              go_ret3
              exact SzEnd.bad rfl KV.out (by decide)
            · have d5 : decide ((xs.length : Int) < 1032 + 40 * (n : Int) + 64) = false := decide_eq_false (by omega)
              have KZ2 : Kept (Z = if xs.length < 1096 + n * 40 + nl (longR xs n) n * 8 then 5 else if 1096 + n * 40 + nl (longR xs n) n * 8 < xs.length then 4 else 0) := ⟨by rw [KZ.out]; unfold sizeE; rw [if_neg h5]⟩
              have K5 : Kept (1096 + n * 40 ≤ xs.length) := ⟨by omega⟩
              clear h5 KZ
              go_wp2_with fail
              clear d5 d4
              go_loop [9, 10] (fun sv iv => ∃ k : Nat, k ≤ n ∧ iv = .int .i64 k ∧ sv = .int .i64 ((nl (longR xs n) k : Nat) : Int)) (fun _ iv => n - (intOf iv).toNat)
              case atStart => exact ⟨0, Nat.zero_le _, rfl, by simp [nl]⟩
              case round =>
                obtain ⟨k, hk, rfl, rfl⟩ := hrel
                have hnl := nl_le (longR xs n) k
                by_cases hlt : k < n
                · have hki : decide ((k : Int) < (n : Int)) = true := decide_eq_true (by omega)
                  have KS := Kept.mk (nl_succ (longR xs n) k)
                  have KLg := Kept.mk (lng_longR xs n k hlt)
                  obtain ⟨q, hq⟩ : ∃ q, q = 1032 + n * 36 + k * 4 := ⟨_, rfl⟩
                  have f1 : IntKind.i64.wrap (36 * (n : Int)) = 36 * (n : Int) := wr64 (by omega) (by omega)
                  have f2 : IntKind.i64.wrap (1032 + 36 * (n : Int)) = 1032 + 36 * (n : Int) := wr64 (by omega) (by omega)
                  have f3 : IntKind.i64.wrap (4 * (k : Int)) = 4 * (k : Int) := wr64 (by omega) (by omega)
                  have f4 : IntKind.i64.wrap (1032 + 36 * (n : Int) + 4 * (k : Int)) = (q : Int) := by rw [wr64 (by omega) (by omega)]; omega
                  have f5 : (q : Int) < (xs.length : Int) := by have := K5.out; omega
                  have f6 : IntKind.i64.wrap ((k : Int) + 1) = (k : Int) + 1 := wr64 (by omega) (by omega)
                  have hcq := KCell.out q (by have := K5.out; omega)
                  have KT : Kept (2147483648 ≤ shortR xs n k ↔ 128 ≤ xs.getD q 0) := ⟨by rw [hq]; exact short_byte KA.out (by have := K5.out; omega)⟩
                  clear hq
                  generalize xs.getD q 0 = y at *
                  generalize nl (longR xs n) k = m at *
                  have f7 : IntKind.i64.wrap ((m : Int) + 1) = (m : Int) + 1 := wr64 (by omega) (by omega)
                  by_cases hT : 128 ≤ y
                  · have hd : decide (128 ≤ y) = true := decide_eq_true hT
                    have KI : Kept (lng (longR xs n) k = true) := ⟨by rw [KLg.out, decide_eq_true (KT.out.2 hT)]⟩
                    clear hT
                    go_wp2
                    go_round
                    case rel => exact ⟨k + 1, by omega, by go_num, by rw [KS.out, if_pos KI.out]; rfl⟩
                    case measure => simp [intOf]; omega
                  · have hd : decide (128 ≤ y) = false := decide_eq_false hT
                    have KI : Kept (¬ lng (longR xs n) k = true) := ⟨by rw [KLg.out, decide_eq_false (fun h => hT (KT.out.1 h))]; decide⟩
                    clear hT
                    go_wp2
                    go_round
                    case rel => exact ⟨k + 1, by omega, by go_num, by rw [KS.out, if_neg KI.out]; rfl⟩
                    case measure => simp [intOf]; omega
                · have hki : decide ((k : Int) < (n : Int)) = false := decide_eq_false (by omega)
                  obtain rfl : k = n := by omega
                  generalize nl (longR xs k) k = m at *
                  have f1 : IntKind.i64.wrap (8 * (m : Int)) = 8 * (m : Int) := wr64 (by omega) (by omega)
                  have f2 : IntKind.i64.wrap (1032 + 40 * (k : Int) + 8 * (m : Int)) = 1032 + 40 * (k : Int) + 8 * (m : Int) := wr64 (by omega) (by omega)
                  have f3 : IntKind.i64.wrap (1032 + 40 * (k : Int) + 8 * (m : Int) + 64) = 1032 + 40 * (k : Int) + 8 * (m : Int) + 64 := wr64 (by omega) (by omega)
                  by_cases h2 : xs.length < 1096 + k * 40 + m * 8
                  · have d2 : decide ((xs.length : Int) < 1032 + 40 * (k : Int) + 8 * (m : Int) + 64) = true := decide_eq_true (by omega)
                    have KV : Kept (Z = 5) := ⟨by rw [KZ2.out, if_pos h2]⟩
                    clear h2
                    go_wp2
                    go_ret3
                    exact SzEnd.bad rfl KV.out (by decide)
                  · have d2 : decide ((xs.length : Int) < 1032 + 40 * (k : Int) + 8 * (m : Int) + 64) = false := decide_eq_false (by omega)
                    by_cases h3 : 1096 + k * 40 + m * 8 < xs.length
                    · have d3 : decide (1032 + 40 * (k : Int) + 8 * (m : Int) + 64 < (xs.length : Int)) = true := decide_eq_true (by omega)
                      have KV : Kept (Z = 4) := ⟨by rw [KZ2.out, if_neg h2, if_pos h3]⟩
                      clear h2 h3
                      go_wp2
                      go_ret3
                      exact SzEnd.bad rfl KV.out (by decide)
                    · have d3 : decide (1032 + 40 * (k : Int) + 8 * (m : Int) + 64 < (xs.length : Int)) = false := decide_eq_false (by omega)
                      have KV : Kept (Z = 0) := ⟨by rw [KZ2.out, if_neg h2, if_neg h3]⟩
                      clear h2 h3
                      go_wp2
                      go_ret3
                      exact SzEnd.good rfl KV.out KZn.out
    · rw [decide_eq_false h2] at hne
      have hne' : ((strOfNums (xs.take 8)).toList == [255, 116, 79, 99, 0, 0, 0, 2]) = false := hne
      have KV : Kept (Z = 4) := ⟨by rw [KE0.out, KE.out, if_neg h1, if_pos h2]; rfl⟩
      clear hne h1 h2 hse
      generalize strOfNums (xs.take 8) = T8 at *
      go_enter Tryd.func25, Tryd.ntmps25
      go_wp2
      go_ret3
      exact SzEnd.bad rfl KV.out (by decide)

open Go.RowKit Go.Sort

theorem szE_ok {p : List Int} (hA : AllB p) (h : szE p = 0) : 1096 ≤ p.length ∧ ∃ n : Nat, (cntS p).1 = (n : Int) ∧ n ≤ 4096 ∧ p.take 8 = headB ∧ Fit p n := by
  unfold szE at h
  by_cases h1 : (cntS p).2 = 0
  · rw [if_neg (by omega)] at h
    obtain ⟨h2, n, hn, hn4, hh, -, -⟩ := cntS_ok hA h1
    rw [hn, Int.toNat_natCast] at h
    exact ⟨h2, n, hn, hn4, hh, sizeE_ok h⟩
  · rw [if_pos h1] at h
    exact absurd h h1
theorem prsE_sz (p : List Int) : prsE p = if szE p ≠ 0 then szE p else if seg p (p.length - 32) 32 ≠ sumB (p.take (p.length - 32)) then 6 else
    if namedB p (cntS p).1.toNat = true ∧ riseB (rowsR p (cntS p).1.toNat) = true ∧ fanV (rowsR p (cntS p).1.toNat) = fanRL p then 0 else 4 := by
  unfold prsE szE
  by_cases h1 : (cntS p).2 ≠ 0
  · rw [if_pos h1, if_pos h1, if_pos h1]
  · rw [if_neg h1, if_neg h1]
theorem seg_end {p : List Int} (h : 32 ≤ p.length) : seg p (p.length - 32) 32 = p.drop (p.length - 32) := by
  unfold seg
  exact List.take_of_length_le (by rw [List.length_drop]; omega)
theorem fan_eq (rs : List RowC) (p : List Int) : fanV rs = fanRL p ↔ ∀ b, b < 256 → (cntL rs b : Int) = fanR p b := by
  unfold fanV fanRL
  rw [List.map_inj_left]
  constructor
  · intro h b hb
    exact h b (by simpa using hb)
  · intro h b hb
    exact h b (by simpa using hb)
theorem doc_form {p : List Int} {n : Nat} (hA : AllB p) (hf : Fit p n) (hn : n ≤ 4096) (hh : p.take 8 = headB) (hs : seg p (p.length - 32) 32 = sumB (p.take (p.length - 32))) :
    (namedB p n = true ∧ riseB (rowsR p n) = true ∧ fanV (rowsR p n) = fanRL p) ↔ (riseB (rowsR p n) = true ∧ buildL (rowsR p n) (longR p n) (seg p (p.length - 64) 32) = p) := by
  have h32 : 32 ≤ p.length := by unfold Fit at hf; omega
  rw [seg_end h32] at hs
  have hb := build_read p n hA hf hn hh hs
  rw [show seg p (p.length - 64) 32 = packR p from rfl, hb, namedB_iff, fan_eq]
  constructor
  · rintro ⟨a, b, c⟩
    exact ⟨b, a, c⟩
  · rintro ⟨b, a, c⟩
    exact ⟨a, b, c⟩
theorem lgM_same (L : List Bool) {k : Nat} (h : lng L k = false) : lgM L k = lgM L (k + 1) := by
  apply List.ext_getElem
  · simp [lgM]
  · intro i h1 h2
    by_cases hik : i = k
    · subst hik
      simp [lgM, h]
    · have : (i < k) ↔ (i < k + 1) := by omega
      simp [lgM, this]
theorem rowR_long {p : List Int} {n k : Nat} (h : lng (longR p n) k = true) : rowR p n k = ⟨seg p (1032 + k * 32) 32, Nu.bigT p (1032 + n * 32 + k * 4) 4, Nu.bigT p (1032 + n * 40 + nl (longR p n) k * 8) 8⟩ := by
  unfold rowR
  rw [if_pos h]
theorem rowR_short {p : List Int} {n k : Nat} (h : lng (longR p n) k = false) : rowR p n k = ⟨seg p (1032 + k * 32) 32, Nu.bigT p (1032 + n * 32 + k * 4) 4, shortR p n k⟩ := by
  unfold rowR
  rw [if_neg (by rw [h]; decide)]
/-- A row's place set. -/
theorem row_set33 {i : List Int} {c y z : Int} (h : i.length = 32) : (RowC.l ⟨i, c, y⟩).toArray.setIfInBounds 33 (.int .u64 z) = (RowC.l ⟨i, c, z⟩).toArray := by
  unfold RowC.l
  simp only [List.setIfInBounds_toArray]
  congr 1
  rw [List.set_append_right _ _ (by rw [cellsK_length, h]; omega), cellsK_length, h]
  rfl
theorem take_rows {rs : List RowC} {k : Nat} (hk : k < rs.length) : rs.take k ++ [rowI rs k] = rs.take (k + 1) := by
  rw [List.take_add_one, List.getElem?_eq_getElem hk, rowI_get hk]
  rfl
theorem rd_front {S : Nat → Prop} {w : World} {b off c : Nat} {xs : List Int} {m : Nat} (h : Rd .u8 S w (.slice (some ⟨b, off, none⟩) xs.length c) xs) (hm : m ≤ xs.length) (h0 : 0 < xs.length) : Rd .u8 S w (.slice (some ⟨b, off, none⟩) m c) (xs.take m) := by
  obtain ⟨b', off', c', hv, hblt, hlc, hcm, hSb, hcell⟩ := h.open h0
  simp at hv
  obtain ⟨⟨rfl, rfl⟩, rfl⟩ := hv
  have hlt : (xs.take m).length = m := by rw [List.length_take]; omega
  refine ⟨some ⟨b, off, none⟩, c, by rw [hlt], by omega, hcm, (fun h => by cases h), fun _ => ⟨b, off, rfl, hblt, hSb, fun i hi => ?_⟩⟩
  rw [hlt] at hi
  rw [hcell i (by omega)]
  simp [List.getD, hi]
theorem rd_back {S : Nat → Prop} {w : World} {b off c : Nat} {xs : List Int} {m : Nat} (h : Rd .u8 S w (.slice (some ⟨b, off, none⟩) xs.length c) xs) (hm : m + 32 = xs.length) : Rd .u8 S w (.slice (some ⟨b, off + m, none⟩) 32 (c - m)) (seg xs m 32) := by
  obtain ⟨b', off', c', hv, hblt, hlc, hcm, hSb, hcell⟩ := h.open (by omega)
  simp at hv
  obtain ⟨⟨rfl, rfl⟩, rfl⟩ := hv
  have hlt : (seg xs m 32).length = 32 := seg_len _ _ _ (by omega)
  refine ⟨some ⟨b, off + m, none⟩, c - m, by rw [hlt], by omega, by omega, (fun h => by cases h), fun _ => ⟨b, off + m, rfl, hblt, hSb, fun i hi => ?_⟩⟩
  rw [hlt] at hi
  rw [Nat.add_assoc, hcell (m + i) (by omega)]
  have := seg_get xs m 32 i (by rw [hlt]; exact hi)
  simp only [List.getD, List.getElem?_eq_getElem (show i < (seg xs m 32).length by rw [hlt]; exact hi), Option.getD_some, this]
end Go.Proofs.YtgoegmaepafopaaDoor
