/-
  Walks: checkSize.
-/
import Derived.Test.YtgoegmaepafopaaDoorPB
import Derived.Test.YtgoegmaepafopaaDoorP10
import Derived.DeepKeys
namespace Go.Proofs.YtgoegmaepafopaaDoor
open Go.RowKit

def sizeE (p : List Int) (n : Nat) : Int :=
  if p.length < 1096 + n * 40 then 5 else if p.length < 1096 + n * 40 + nl (longR p n) n * 8 then 5 else if 1096 + n * 40 + nl (longR p n) n * 8 < p.length then 4 else 0

set_option maxHeartbeats 1000000 in
set_option maxRecDepth 100000 in
theorem checkSize_any {S : Nat → Prop} (v : Value) (xs : List Int) (n : Nat) (w : World) (h : Rd .u8 S w v xs) (hA : AllB xs) (hn : n ≤ 4096) (hl : xs.length + 20 ≤ 140737488355328) :
    Calls Tryd.prog 18 #[v, .int .i64 n] w fun e w' => e = .returned (.int .i64 (sizeE xs n)) ∧ w' = w := by
  obtain ⟨a, c, rfl, -, hlc, hcm⟩ := h.form
  have KH := Kept.mk h
  clear h
  have e1 : IntKind.i64.wrap ((n : Int) * 40) = (n : Int) * 40 := wr64 (by omega) (by omega)
  have e2 : IntKind.i64.wrap (1096 + (n : Int) * 40) = 1096 + (n : Int) * 40 := wr64 (by omega) (by omega)
  by_cases h1 : xs.length < 1096 + n * 40
  · have d1 : decide ((xs.length : Int) < 1096 + (n : Int) * 40) = true := decide_eq_true (by omega)
    have KE : Kept (sizeE xs n = 5) := ⟨by unfold sizeE; rw [if_pos h1]⟩
    rw [KE.out]
    clear h1
    go_enter Tryd.func18, Tryd.ntmps18
    go_wp2
    go_ret
    exact ⟨rfl, rfl⟩
  · have d1 : decide ((xs.length : Int) < 1096 + (n : Int) * 40) = false := decide_eq_false (by omega)
    have KE : Kept (sizeE xs n = if xs.length < 1096 + n * 40 + nl (longR xs n) n * 8 then 5 else if 1096 + n * 40 + nl (longR xs n) n * 8 < xs.length then 4 else 0) := ⟨by unfold sizeE; rw [if_neg h1]⟩
    have KC : Kept (∀ i, i < n → Calls Tryd.prog 40 #[.slice a xs.length c, .int .i64 n, .int .i64 i] w fun e w' => e = .returned (.int .u64 (shortR xs n i)) ∧ w' = w) := ⟨fun i hi => shortPlace_any _ xs n i w KH.out hA (by omega) hl⟩
    have K1 := Kept.mk h1
    clear h1
    generalize sizeE xs n = E at *
    go_enter Tryd.func18, Tryd.ntmps18
    go_wp2_with fail
    go_loop [5, 15] (fun sv iv => ∃ k : Nat, k ≤ n ∧ iv = .int .i64 k ∧ sv = .int .i64 (1096 + (n : Int) * 40 + ((nl (longR xs n) k : Nat) : Int) * 8)) (fun _ iv => n - (intOf iv).toNat)
    case atStart => exact ⟨0, Nat.zero_le _, rfl, by simp [nl]⟩
    case round =>
      obtain ⟨k, hk, rfl, rfl⟩ := hrel
      have hnl := nl_le (longR xs n) k
      by_cases hlt : k < n
      · have hki : decide ((k : Int) < (n : Int)) = true := decide_eq_true (by omega)
        have KS := Kept.mk (nl_succ (longR xs n) k)
        have KLg := Kept.mk (lng_longR xs n k hlt)
        have KCk := Kept.mk (KC.out k hlt)
        generalize shortR xs n k = T at *
        generalize nl (longR xs n) k = q at *
        have e5 : IntKind.i64.wrap (1096 + (n : Int) * 40 + (q : Int) * 8 + 8) = 1096 + (n : Int) * 40 + (q : Int) * 8 + 8 := wr64 (by omega) (by omega)
        have e6 : IntKind.i64.wrap ((k : Int) + 1) = (k : Int) + 1 := wr64 (by omega) (by omega)
        by_cases hT : 2147483648 ≤ T
        · have hd : decide (2147483648 ≤ T) = true := decide_eq_true hT
          go_wp2_with fail
          refine Calls.mono KCk.out (fun e w1 hp => ?_)
          obtain ⟨rfl, rfl⟩ := hp
          go_wp2
          go_round
          case rel => exact ⟨k + 1, by omega, by go_num, by rw [KS.out, if_pos (by rw [KLg.out]; exact hd)]; congr 1; omega⟩
          case measure => simp [intOf]; omega
        · have hd : decide (2147483648 ≤ T) = false := decide_eq_false hT
          go_wp2_with fail
          refine Calls.mono KCk.out (fun e w1 hp => ?_)
          obtain ⟨rfl, rfl⟩ := hp
          go_wp2
          go_round
          case rel => exact ⟨k + 1, by omega, by go_num, by rw [KS.out, if_neg (by rw [KLg.out, hd]; decide)]; rfl⟩
          case measure => simp [intOf]; omega
      · have hki : decide ((k : Int) < (n : Int)) = false := decide_eq_false (by omega)
        obtain rfl : k = n := by omega
        generalize nl (longR xs k) k = q at *
        by_cases h2 : xs.length < 1096 + k * 40 + q * 8
        · have d2 : decide ((xs.length : Int) < 1096 + (k : Int) * 40 + (q : Int) * 8) = true := decide_eq_true (by omega)
          have KV : Kept (E = 5) := ⟨by rw [KE.out, if_pos h2]⟩
          clear h2
          go_wp2
          go_ret
          exact ⟨by rw [KV.out]; rfl, rfl⟩
        · have d2 : decide ((xs.length : Int) < 1096 + (k : Int) * 40 + (q : Int) * 8) = false := decide_eq_false (by omega)
          by_cases h3 : 1096 + k * 40 + q * 8 < xs.length
          · have d3 : decide (1096 + (k : Int) * 40 + (q : Int) * 8 < (xs.length : Int)) = true := decide_eq_true (by omega)
            have KV : Kept (E = 4) := ⟨by rw [KE.out, if_neg h2, if_pos h3]⟩
            clear h2 h3
            go_wp2
            go_ret
            exact ⟨by rw [KV.out]; rfl, rfl⟩
          · have d3 : decide (1096 + (k : Int) * 40 + (q : Int) * 8 < (xs.length : Int)) = false := decide_eq_false (by omega)
            have KV : Kept (E = 0) := ⟨by rw [KE.out, if_neg h2, if_neg h3]⟩
            clear h2 h3
            go_wp2
            go_ret
            exact ⟨by rw [KV.out]; rfl, rfl⟩


def fanRL (p : List Int) : List Int := (List.range 256).map (fanR p)
def fanRM (p : List Int) (i : Nat) : List Int := (List.range 256).map fun b => if b < i then fanR p b else 0
theorem fanRM_zero (p : List Int) : fanRM p 0 = z256 := by
  unfold fanRM z256
  apply List.ext_getElem
  · rw [List.length_map, List.length_range, List.length_replicate]
  · intro i h1 h2
    rw [List.getElem_map, List.getElem_replicate, if_neg (by omega)]
theorem fanRM_step (p : List Int) {i : Nat} : (fanRM p i).set i (fanR p i) = fanRM p (i + 1) := by
  unfold fanRM
  refine map256_set _ _ (fun j _ hne => ?_) _ (fun _ => ?_)
  · by_cases hj : j < i
    · rw [if_pos hj, if_pos (by omega)]
    · rw [if_neg hj, if_neg (by omega)]
  · rw [if_pos (by omega)]
theorem fanRM_all (p : List Int) : fanRM p 256 = fanRL p := by
  unfold fanRM fanRL
  apply List.map_congr_left
  intro b hb
  rw [if_pos (by simpa using hb)]

set_option maxHeartbeats 2000000 in
set_option maxRecDepth 100000 in
theorem readFan_any {S : Nat → Prop} (v : Value) (xs : List Int) (w : World) (h : Rd .u8 S w v xs) (hA : AllB xs) (hx : 1032 ≤ xs.length) (hl : xs.length + 20 ≤ 140737488355328) :
    Calls Tryd.prog 24 #[v] w fun e w' => e = .returned (.agg (cellsK .u64 (fanRL xs)).toArray) ∧ Below w.heap.size w w' := by
  obtain ⟨w0, hw0, hb0, hb1, hs0, hB0⟩ := two_fans w
  have KH := Kept.mk h
  obtain ⟨a, c, rfl, -, hlc, hcm⟩ := h.form
  have K0 := Kept.mk hb0
  have K1 := Kept.mk hb1
  have KB0 := Kept.mk hB0
  clear hb0 hb1 hB0 h
  go_enter Tryd.func24, Tryd.ntmps24
  go_upto_region 2 with fail
  clear hw0
  go_wp2_with fail
  go_loopw [5] (fun iv wr => ∃ k : Nat, k ≤ 256 ∧ iv = .int .i64 k ∧ BlkK .u64 wr w.heap.size 61 z256 ∧ BlkK .u64 wr (w.heap.size + 1) 61 (fanRM xs k) ∧ Below w.heap.size w wr) (fun iv _ => 256 - (intOf iv).toNat)
  case atStart => exact ⟨0, Nat.zero_le _, rfl, K0.out, by rw [fanRM_zero]; exact K1.out, KB0.out⟩
  case round =>
    obtain ⟨k, hk, rfl, hbl0, hbl1, hbel⟩ := hrel
    have KB := Kept.mk hbel
    have Kb0 := Kept.mk hbl0
    have Kb1 := Kept.mk hbl1
    have hfl : (fanRM xs k).length = 256 := map256_length _
    clear K0 K1 KB0 hs0
    by_cases hlt : k < 256
    · have hki : (k : Int) < 256 := by omega
      have KC := Kept.mk (numberAt_any _ xs (8 + k * 4) 4 wr (KH.out.later hbel (Nat.le_refl _)) hA (by omega) (by omega) (by omega) hl)
      have e1 : IntKind.i64.wrap ((k : Int) * 4) = (k : Int) * 4 := wr64 (by omega) (by omega)
      have e2 : IntKind.i64.wrap (8 + (k : Int) * 4) = 8 + (k : Int) * 4 := wr64 (by omega) (by omega)
      have e5 : Kept (((8 + k * 4 : Nat) : Int) = 8 + (k : Int) * 4) := ⟨by omega⟩
      rw [e5.out] at KC
      have hcF := hbl1.cell k (by rw [hfl]; exact hlt)
      have hfz := hbl1.frozen k
      have KSt := Kept.mk (fanRM_step xs (i := k))
      have KF : Kept (fanR xs k = Nu.bigT xs (8 + k * 4) 4) := ⟨rfl⟩
      rw [← KF.out] at KC
      clear hbel hbl0 hbl1 hfl
      generalize fanR xs k = y at *
      generalize (fanRM xs k).getD k 0 = y0 at *
      go_wp2_with fail
      refine Calls.mono KC.out (fun e w1 hp => ?_)
      obtain ⟨rfl, rfl⟩ := hp
      go_wp2
      go_roundw
      case rel => exact ⟨k + 1, by omega, by go_num, Kb0.out.other (by omega) _, by rw [← KSt.out]; exact Kb1.out.set k _, KB.out.setCell (by show w.heap.size ≤ w.heap.size + 1; omega) _⟩
      case measure => simp [intOf]; omega
    · obtain rfl : k = 256 := by omega
      have K2 : Kept (BlkK .u64 wr (w.heap.size + 1) 61 (fanRL xs)) := ⟨by rw [← fanRM_all]; exact Kb1.out⟩
      have hfv : (fanRL xs).length = 256 := map256_length _
      have HR := Kept.mk K2.out.range
      have HT := Kept.mk (Kb0.out.there (cellsK .u64 (fanRL xs)).toArray.size (by rw [List.size_toArray, cellsK_length, hfv, z256_length]))
      have HI : Kept ((Tryd.prog.info? 61).map (·.size) = some (cellsK .u64 (fanRL xs)).length) := ⟨by rw [cellsK_length, hfv]; exact info_fan⟩
      have HI2 : Kept ((Tryd.prog.info? 61).map (·.size) = some (cellsK .u64 (fanRL xs)).toArray.size) := ⟨by rw [List.size_toArray]; exact HI.out⟩
      have HO := Kept.mk (cellsK_all .u64 (fanRL xs))
      have HF := Kept.mk (Kb0.out.over (ws := fanRL xs) (by rw [hfv, z256_length]))
      have HBf := Kept.mk (Sh.below_cells (b := w.heap.size) (Nat.le_refl _) (cellsK .u64 (fanRL xs)) 0 w wr KB.out)
      clear Kb0 Kb1 K2 KB hfl hfv hbl0 hbl1 hbel
      generalize hF : fanRL xs = F at *
      have KF := Kept.mk hF
      clear hF
      go_wp2_with (first | (refine wpList_load_mid rfl 61 _ rfl (w.heap.size + 1) 0 rfl (cellsK .u64 F) _ HR.out Tryd.underlying61 rfl HI.out ?_) | (refine wpList_store_mid rfl 61 _ _ rfl w.heap.size 0 (cellsK .u64 F).toArray rfl rfl HT.out HI2.out HO.out ?_))
      refine bodyPost_ret (v := .agg (cellsK .u64 F).toArray) (results_cell_row (p := 2) (ty := 61) Tryd.results24 _ _ w.heap.size 61 _ (0, 0) _ rfl HF.out Tryd.underlying61 rfl HI2.out) rfl ⟨by rw [KF.out], HBf.out⟩

set_option maxHeartbeats 1000000 in
set_option maxRecDepth 100000 in
theorem isNaN_any (x : Int) (w : World) : Calls Tryd.prog 72 #[.int .u64 x] w fun e w' => e = .returned (.bool false) ∧ w' = w := by
  have hd : (x != x) = false := by simp
  go_enter Tryd.func72, Tryd.ntmps72
  go_wp2
  go_ret
  exact ⟨rfl, rfl⟩
set_option maxHeartbeats 1000000 in
set_option maxRecDepth 100000 in
theorem less_any (x y : Int) (w : World) : Calls Tryd.prog 54 #[.int .u64 x, .int .u64 y] w fun e w' => e = .returned (.bool (decide (x < y))) ∧ w' = w := by
  have K1 := Kept.mk (isNaN_any x w)
  go_enter Tryd.func54, Tryd.ntmps54
  go_wp2_with fail
  refine Calls.mono K1.out (fun e w1 hp => ?_)
  obtain ⟨rfl, rfl⟩ := hp
  go_wp2
  go_ret
  exact ⟨rfl, rfl⟩

def Up (F : List Int) : Prop := ∀ i, i + 1 < F.length → F.getD i 0 ≤ F.getD (i + 1) 0
def upB (F : List Int) : Bool := (List.range (F.length - 1)).all fun i => decide (F.getD i 0 ≤ F.getD (i + 1) 0)
theorem upB_iff (F : List Int) : upB F = true ↔ Up F := by
  unfold upB Up
  rw [List.all_eq_true]
  constructor
  · intro h k hk
    exact of_decide_eq_true (h k (by simp; omega))
  · intro h k hk
    exact decide_eq_true (h k (by simp at hk; omega))
set_option maxHeartbeats 1000000 in
set_option maxRecDepth 100000 in
theorem isSorted_any (b n : Nat) (F : List Int) (w : World) (t : TypeId) (hb : BlkK .u64 w b t F) (hn : F.length = n) (h1 : 1 ≤ n) (hl : n ≤ 1000000) :
    Calls Tryd.prog 39 #[.slice (some ⟨b, 0, none⟩) n n] w fun e w' => e = .returned (.bool (upB F)) ∧ Below w.heap.size w w' := by
  have KB := Kept.mk hb
  have KU := Kept.mk (upB_iff F)
  have KN := Kept.mk hn
  clear hb hn
  generalize upB F = R at *
  have e0 : IntKind.i64.wrap ((n : Int) - 1) = (n : Int) - 1 := wr64 (by omega) (by omega)
  go_enter Tryd.func39, Tryd.ntmps39
  go_wp2_with fail
  go_loopw [3] (fun iv wr => ∃ k : Nat, k + 1 ≤ n ∧ iv = .int .i64 k ∧ (∀ j, k ≤ j → j + 1 < n → F.getD j 0 ≤ F.getD (j + 1) 0) ∧ BlkK .u64 wr b t F ∧ Below w.heap.size w wr) (fun iv _ => (intOf iv).toNat)
  case atStart => exact ⟨n - 1, by omega, by congr 1; omega, fun j h h' => absurd h' (by omega), KB.out, Below.refl _ _⟩
  case round =>
    obtain ⟨k, hk, rfl, hall, hbr, hbe⟩ := hrel
    have KA := Kept.mk hall
    have KBr := Kept.mk hbr
    have KBel := Kept.mk hbe
    clear hall hbr hbe
    by_cases hlt : 0 < k
    · obtain ⟨j, rfl⟩ : ∃ j, k = j + 1 := ⟨k - 1, by omega⟩
      have hki : decide ((0 : Int) < ((j + 1 : Nat) : Int)) = true := decide_eq_true (by omega)
      have c1' := KBr.out.cell (j + 1) (by rw [KN.out]; omega)
      have c2' := KBr.out.cell j (by rw [KN.out]; omega)
      obtain ⟨y1, hy1⟩ : ∃ y, F.getD (j + 1) 0 = y := ⟨_, rfl⟩
      obtain ⟨y2, hy2⟩ : ∃ y, F.getD j 0 = y := ⟨_, rfl⟩
      rw [hy1] at c1'
      rw [hy2] at c2'
      have Ky1 := Kept.mk hy1
      have Ky2 := Kept.mk hy2
      clear hy1 hy2
      obtain ⟨bb, hbb⟩ : ∃ bb, decide (y1 < y2) = bb := ⟨_, rfl⟩
      have KL : Kept (∀ q, Calls Tryd.prog 54 #[.int .u64 y1, .int .u64 y2] (wr.drewN q) fun e w' => e = .returned (.bool bb) ∧ w' = wr.drewN q) := ⟨fun q => by rw [← hbb]; exact less_any y1 y2 _⟩
      have Kbb := Kept.mk hbb
      clear hbb
      have m1 : ((j + 1 : Nat) : Int) - 1 = (j : Int) := by omega
      have m2 : IntKind.i64.wrap (j : Int) = (j : Int) := wr64 (by omega) (by omega)
      have m3 : (j : Int) < (n : Int) := by omega
      have m4 : ((j : Int) + 1) < (n : Int) := by omega
      have m5 : (0 : Int) ≤ (j : Int) + 1 := by omega
      have m6 : ((j : Int) + 1).toNat = j + 1 := by omega
      go_upto_region 4 with fail
      go_quiet ((go_at_call 54; exact Calls.quiet_of_same (KL.out _)))
      by_cases hyy : y1 < y2
      · obtain rfl : bb = true := by rw [← Kbb.out]; exact decide_eq_true hyy
        have KF : Kept (R = false) := ⟨by
          cases R with
          | false => rfl
          | true =>
            have := KU.out.1 rfl j (by rw [KN.out]; omega)
            rw [Ky1.out, Ky2.out] at this
            omega⟩
        go_wp2
        go_ret
        exact ⟨by rw [KF.out]; rfl, by first | exact KBel.out | exact below_drewN KBel.out _⟩
      · obtain rfl : bb = false := by rw [← Kbb.out]; exact decide_eq_false hyy
        go_wp2
        go_roundw
        case rel =>
          refine ⟨j, by omega, by go_num, fun i h h' => ?_, KBr.out.drewN _, below_drewN KBel.out _⟩
          rcases Nat.lt_or_ge j i with h2 | h2
          · exact KA.out i (by omega) h'
          · obtain rfl : i = j := by omega
            rw [Ky1.out, Ky2.out]; omega
        case measure => simp [intOf]
    · have hki : decide ((0 : Int) < ((k : Nat) : Int)) = false := decide_eq_false (by omega)
      obtain rfl : k = 0 := by omega
      have KF : Kept (R = true) := ⟨KU.out.2 fun j h => KA.out j (by omega) (by rw [KN.out] at h; exact h)⟩
      go_wp2
      go_ret
      exact ⟨by rw [KF.out]; rfl, by first | exact KBel.out | exact below_drewN KBel.out _⟩


theorem run_eqItems_row {P : Program} (w : World) (d : Nat) (e : TypeId) (q : IntKind) (hu : P.underlying e = some (.int q)) (hpk : P.plainKey e = true) (xs ys : List Int) :
    ∀ (is : List Nat), (∀ i ∈ is, i < xs.length ∧ i < ys.length) → (Op.eqItems (d + 1) e 1 (cellsK q xs).toArray (cellsK q ys).toArray is).run P w = .ok (is.all fun i => decide (xs.getD i 0 = ys.getD i 0)) w
  | [], _ => by simp [Op.eqItems]
  | i :: is, h => by
    obtain ⟨h1, h2⟩ := h i (by simp)
    have hp := run_part_plain (P := P) (w := w) hpk (show (cellsK q xs).toArray[i * 1]? = _ by rw [Nat.mul_one]; exact cellsK_at q xs i h1)
    have hq := run_part_plain (P := P) (w := w) hpk (show (cellsK q ys).toArray[i * 1]? = _ by rw [Nat.mul_one]; exact cellsK_at q ys i h2)
    have he := run_equalIn_int (P := P) w d e q q (xs.getD i 0) (ys.getD i 0) hu
    have ih := run_eqItems_row w d e q hu hpk xs ys is (fun j hj => h j (by simp [hj]))
    rw [List.all_cons]
    simp only [Op.eqItems, Sem.run_bind, hp, hq, he, Result.andThen_ok]
    by_cases hxy : xs.getD i 0 = ys.getD i 0
    · rw [hxy, decide_eq_true rfl]
      simp only [BEq.rfl, Bool.not_true, Bool.false_eq_true, if_false, Bool.true_and]
      exact ih
    · rw [decide_eq_false hxy]
      have : (xs.getD i 0 == ys.getD i 0) = false := by simpa using hxy
      rw [this]
      rfl
theorem all_range {xs ys : List Int} {n : Nat} (hx : xs.length = n) (hy : ys.length = n) : ((List.range n).all fun i => decide (xs.getD i 0 = ys.getD i 0)) = decide (xs = ys) := by
  rw [Bool.eq_iff_iff, List.all_eq_true, decide_eq_true_iff]
  constructor
  · intro h
    apply List.ext_getElem (by omega)
    intro i h1 h2
    have := of_decide_eq_true (h i (by simp; omega))
    simpa [List.getD, List.getElem?_eq_getElem h1, List.getElem?_eq_getElem h2] using this
  · intro h i _
    rw [h]
    simp
theorem run_eq_row {P : Program} (w : World) (d : Nat) (t e : TypeId) (n : Nat) (q : IntKind) (i : TypeInfo) (ht : P.underlying t = some (.array n e)) (hu : P.underlying e = some (.int q)) (hpk : P.plainKey e = true) (hi : P.info? e = some i) (hce : P.cellsOf e = 1) (xs ys : List Int) (hx : xs.length = n) (hy : ys.length = n) :
    (Op.equalIn (d + 2) t (.agg (cellsK q xs).toArray) (.agg (cellsK q ys).toArray)).run P w = .ok (decide (xs = ys)) w := by
  have h := run_eqItems_row (P := P) w d e q hu hpk xs ys (List.range n) (fun i hi => by have := List.mem_range.1 hi; omega)
  rw [show d + 2 = (d + 1) + 1 from rfl, run_equalIn_array (P := P) w (d + 1) _ _ ht hi, hce, h, all_range hx hy]
theorem eq_id (w : World) (d : Nat) {xs ys : List Int} (hx : xs.length = 32) (hy : ys.length = 32) : (Op.equalIn (d + 2) 24 (.agg (cellsK .u8 xs).toArray) (.agg (cellsK .u8 ys).toArray)).run Tryd.prog w = .ok (decide (xs = ys)) w := by
  obtain ⟨i, _, hi, _⟩ := info8
  exact run_eq_row w d 24 5 32 .u8 i Tryd.underlying24 Tryd.underlying5 (by kernel_rfl) hi (by kernel_rfl) xs ys hx hy
set_option maxRecDepth 100000 in
theorem info_u64 : ∃ i, Tryd.prog.info? 37 = some i := ⟨_, rfl⟩
theorem eq_fan (w : World) (d : Nat) {xs ys : List Int} (hx : xs.length = 256) (hy : ys.length = 256) : (Op.equalIn (d + 2) 61 (.agg (cellsK .u64 xs).toArray) (.agg (cellsK .u64 ys).toArray)).run Tryd.prog w = .ok (decide (xs = ys)) w := by
  obtain ⟨i, hi⟩ := info_u64
  exact run_eq_row w d 61 37 256 .u64 i Tryd.underlying61 Tryd.underlying37 (by kernel_rfl) hi (by kernel_rfl) xs ys hx hy
set_option maxRecDepth 100000 in
theorem agg_id (w : World) : (isAgg 24).run Tryd.prog w = .ok true w := by kernel_rfl
set_option maxRecDepth 100000 in
theorem size_id (w : World) : (Go.sizeOf 24).run Tryd.prog w = .ok 32 w := by kernel_rfl
theorem part_id (w : World) {r : RowC} (hr : r.ok) : (part 24 r.l.toArray 0).run Tryd.prog w = .ok (.agg (cellsK .u8 r.ids).toArray) w := by
  unfold part
  simp only [Sem.run_bind, agg_id, Result.andThen_ok, if_true, size_id, Sem.run_pure]
  congr 2
  rw [Nat.zero_add, List.extract_toArray, List.extract_eq_take_drop, List.drop_zero, Nat.sub_zero, RowC.take hr]
def eqFs (t : TypeId) : Prop := Tryd.prog.underlying t = some (.struct (Tryd.prog.fieldsOf t)) ∧ Tryd.prog.stoodInHeld t = false ∧ (Tryd.prog.fieldsOf t).toList.map (fun f => (f.name == "_", f.type, f.offset)) = [(false, 24, 0), (false, 36, 32), (false, 37, 33)]
set_option maxRecDepth 100000 in
theorem fs1 : eqFs 39 := ⟨by kernel_rfl, by kernel_rfl, by kernel_rfl⟩
set_option maxRecDepth 100000 in
theorem fs2 : eqFs 42 := ⟨by kernel_rfl, by kernel_rfl, by kernel_rfl⟩
set_option maxRecDepth 100000 in
theorem pk_u32 : Tryd.prog.plainKey 36 = true := by kernel_rfl
set_option maxRecDepth 100000 in
theorem pk_u64 : Tryd.prog.plainKey 37 = true := by kernel_rfl
instance : DecidableEq RowC := fun a b => by
  cases a; cases b
  simp only [RowC.mk.injEq]
  infer_instance
end Go.Proofs.YtgoegmaepafopaaDoor
