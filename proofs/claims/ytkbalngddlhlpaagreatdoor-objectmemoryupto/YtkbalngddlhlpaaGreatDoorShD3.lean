/-
  Walks: digit, Parse.
-/
import Derived.Test.YtkbalngddlhlpaaGreatDoorShH2
import Derived.Laws.ResultCell
namespace Go.Proofs.YtkbalngddlhlpaaGreatDoor.Sh
open Go.RowKit

def isD (c : Int) : Bool := decide ((48 ≤ c ∧ c ≤ 57) ∨ (97 ≤ c ∧ c ≤ 102))
def valD (c : Int) : Int := if c ≤ 57 then c - 48 else c - 97 + 10

set_option maxHeartbeats 400000 in
set_option maxRecDepth 100000 in
theorem digit_any (c : Int) (w : World) (h0 : 0 ≤ c) (h1 : c < 256) :
    Calls Tryz.prog 95 #[.int .u8 c] w fun e w' => e = .returned (.tuple #[.int .u8 (if isD c then valD c else 0), .bool (isD c)]) ∧ w' = w := by
  by_cases a1 : 48 ≤ c
  · by_cases a2 : c ≤ 57
    · have e1 : isD c = true := by simp [isD, a1, a2]
      have e2 : valD c = c - 48 := by simp [valD, a2]
      rw [e1, e2]
      clear e1 e2
      go_enter Tryz.func95, Tryz.ntmps95
      go_wp2
      go_ret2
      exact ⟨rfl, rfl⟩
    · by_cases a3 : 97 ≤ c
      · by_cases a4 : c ≤ 102
        · have e1 : isD c = true := by simp [isD, a3, a4]
          have e2 : valD c = c - 97 + 10 := by simp [valD, a2]
          rw [e1, e2]
          clear e1 e2
          go_enter Tryz.func95, Tryz.ntmps95
          go_wp2
          go_ret2

          exact ⟨rfl, rfl⟩
        · have e1 : isD c = false := by simp [isD]; omega
          rw [e1]
          clear e1
          go_enter Tryz.func95, Tryz.ntmps95
          go_wp2
          go_ret2
          exact ⟨rfl, rfl⟩
      · have e1 : isD c = false := by simp [isD]; omega
        rw [e1]
        clear e1
        go_enter Tryz.func95, Tryz.ntmps95
        go_wp2
        go_ret2
        exact ⟨rfl, rfl⟩
  · have e1 : isD c = false := by simp [isD]; omega
    rw [e1]
    clear e1
    have a3 : ¬ 97 ≤ c := by omega
    go_enter Tryz.func95, Tryz.ntmps95
    go_wp2
    go_ret2
    exact ⟨rfl, rfl⟩
set_option maxHeartbeats 400000 in
set_option maxRecDepth 100000 in
theorem rdigit_any (c : Int) (w : World) (h0 : 0 ≤ c) (h1 : c < 256) :
    Calls Tryz.prog 82 #[.int .u8 c] w fun e w' => e = .returned (.int .i64 (if isD c then valD c else 16)) ∧ w' = w := by
  by_cases a1 : 48 ≤ c
  · by_cases a2 : c ≤ 57
    · have e1 : isD c = true := by simp [isD, a1, a2]
      have e2 : valD c = c - 48 := by simp [valD, a2]
      rw [e1, e2]
      clear e1 e2
      go_enter Tryz.func82, Tryz.ntmps82
      go_wp2
      go_ret
      exact ⟨rfl, rfl⟩
    · by_cases a3 : 97 ≤ c
      · by_cases a4 : c ≤ 102
        · have e1 : isD c = true := by simp [isD, a3, a4]
          have e2 : valD c = c - 97 + 10 := by simp [valD, a2]
          rw [e1, e2]
          clear e1 e2
          go_enter Tryz.func82, Tryz.ntmps82
          go_wp2
          go_ret

          exact ⟨rfl, rfl⟩
        · have e1 : isD c = false := by simp [isD]; omega
          rw [e1]
          clear e1
          go_enter Tryz.func82, Tryz.ntmps82
          go_wp2
          go_ret
          exact ⟨rfl, rfl⟩
      · have e1 : isD c = false := by simp [isD]; omega
        rw [e1]
        clear e1
        go_enter Tryz.func82, Tryz.ntmps82
        go_wp2
        go_ret
        exact ⟨rfl, rfl⟩
  · have e1 : isD c = false := by simp [isD]; omega
    rw [e1]
    clear e1
    have a3 : ¬ 97 ≤ c := by omega
    go_enter Tryz.func82, Tryz.ntmps82
    go_wp2
    go_ret
    exact ⟨rfl, rfl⟩


theorem results_row2 {P : Program} {fn : Func} {p u : Tmp} {ty : TypeId} (h : fn.results = #[.cell p ty, .tmp u]) (tmps : Array Value) (w : World) (g : Nat) (t : TypeId) (cs : Array Value) (fr : Nat × Nat) (d : TypeDesc)
    (hp : tmps.getD p undef = .pointer (some ⟨g, 0, none⟩)) (hg : w.heap[g]? = some (.cells cs t fr))
    (hu : P.underlying ty = some d) (hd : (match d with | .struct _ | .array _ _ => true | _ => false) = true) (hi : (P.info? ty).map (·.size) = some cs.size) :
    (results fn tmps).run P w = .ok (.tuple #[.agg cs, tmps.getD u undef]) w := by
  rw [results_cell_tmp h, hp]
  simp only [asAddr, Sem.run_pure, Result.andThen_ok, run_loadVar_row w g t ty cs fr d hg hu hd hi]

def sN (s : ByteArray) (i : Nat) : Int := ((s.data.getD i 0).toNat : Int)
theorem sN_range (s : ByteArray) (i : Nat) : 0 ≤ sN s i ∧ sN s i < 256 := by
  unfold sN
  have := (s.data.getD i 0).toNat_lt
  omega
theorem run_index_text (w : World) (s : ByteArray) (k : IntKind) (i : Nat) (hi : i < s.size) : (Instr.index 9 (.string s) (.int k i)).run Tryz.prog w = .ok (.int .u8 (sN s i)) w := by
  rw [run_index_string (P := Tryz.prog) (t := 9) (s := s) (k := k) (i := (i : Int)) (h := Tryz.underlying9)]
  rw [dif_pos ⟨by omega, by omega⟩]
  have e : s[((i : Int)).toNat]'(by omega) = s.data.getD i 0 := by
    simp only [Array.getD, Int.toNat_natCast]
    rw [dif_pos (show i < s.data.size from hi)]
    rfl
  rw [e]
  rfl

def z32 : List Int := List.replicate 32 0
def pairD (s : ByteArray) (i : Nat) : Int := valD (sN s (2 * i)) * 16 + valD (sN s (2 * i + 1))
def parK (s : ByteArray) (k : Nat) : List Int := (List.range k).map (pairD s) ++ List.replicate (32 - k) 0
theorem parK_length (s : ByteArray) (k : Nat) (h : k ≤ 32) : (parK s k).length = 32 := by
  simp [parK]
  omega
theorem parK_step (s : ByteArray) (k : Nat) (h : k < 32) : (parK s k).set k (pairD s k) = parK s (k + 1) := by
  have e : List.replicate (32 - k) (0 : Int) = 0 :: List.replicate (32 - (k + 1)) 0 := by
    rw [show 32 - k = (32 - (k + 1)) + 1 from by omega, List.replicate_succ]
  rw [parK, e, List.set_append_right _ _ (by simp), List.length_map, List.length_range, Nat.sub_self, List.set_cons_zero, parK, List.range_succ, List.map_append, List.append_assoc]
  rfl
def okS (s : ByteArray) : Bool := decide (s.size = 64) && (List.range 64).all fun i => isD (sN s i)
def parF (s : ByteArray) : List Int := if okS s then (List.range 32).map (pairD s) else List.replicate 32 0
def parE (s : ByteArray) : Int := if okS s then 0 else 4

theorem okS_false (s : ByteArray) (i : Nat) (hi : i < 64) (h : isD (sN s i) = false) : okS s = false := by
  cases e : okS s with
  | false => rfl
  | true =>
    simp only [okS, Bool.and_eq_true, List.all_eq_true, List.mem_range] at e
    rw [e.2 i hi] at h
    cases h
theorem valD_range (c : Int) (h : isD c = true) : 0 ≤ valD c ∧ valD c < 16 := by
  simp [isD] at h
  unfold valD
  split <;> omega
theorem or16 (a b : Int) (ha : 0 ≤ a ∧ a < 16) (hb : 0 ≤ b ∧ b < 16) : bits .or .u8 (a * 16) b = a * 16 + b := by
  rw [u8_or (a * 16) b (by omega) (by omega) (by omega) (by omega), nat_join 4 (a * 16).toNat b.toNat (by omega) (by omega)]
  omega

set_option maxHeartbeats 2000000 in
set_option maxRecDepth 100000 in
theorem parse_any (s : ByteArray) (w : World) :
    Calls Tryz.prog 62 #[.string s] w fun e w' => e = .returned (.tuple #[.agg (cellsU8 (parF s)).toArray, .int .i64 (parE s)]) ∧ Below w.heap.size w w' := by
  have HIZ : Kept ((Tryz.prog.info? 31).map (·.size) = some (cellsU8 z32).toArray.size) := ⟨rfl⟩
  have HOZ := Kept.mk (all_oneCell_toArray (cellsU8_one z32))
  have HBW : Kept (Blk8 ((w.alloc (.cells (cellsU8 z32).toArray 31)).alloc (.cells (cellsU8 z32).toArray 31)) w.heap.size 31 z32 ∧ Blk8 ((w.alloc (.cells (cellsU8 z32).toArray 31)).alloc (.cells (cellsU8 z32).toArray 31)) (w.heap.size + 1) 31 z32 ∧ Below w.heap.size w ((w.alloc (.cells (cellsU8 z32).toArray 31)).alloc (.cells (cellsU8 z32).toArray 31))) := by
    refine ⟨(alloc_blk8 w z32 31).alloc _, ?_, ((Below.refl _ _).alloc (Nat.le_refl _) _).alloc (by simp) _⟩
    have := alloc_blk8 (w.alloc (.cells (cellsU8 z32).toArray 31)) z32 31
    rwa [show (w.alloc (.cells (cellsU8 z32).toArray 31)).heap.size = w.heap.size + 1 from by simp] at this
  by_cases h64 : s.size = 64
  · go_enter Tryz.func62, Tryz.ntmps62
    go_wp2
    go_loopw [14] (fun i wr => ∃ (k : Nat), k ≤ 32 ∧ i = .int .i64 k ∧ (∀ j, j < 2 * k → isD (sN s j) = true) ∧ Blk8 wr w.heap.size 31 z32 ∧ Blk8 wr (w.heap.size + 1) 31 (parK s k) ∧ Below w.heap.size w wr) (fun i _ => 32 - (intOf i).toNat)
    case atStart => exact ⟨0, by omega, rfl, fun j hj => by omega, HBW.out.1, HBW.out.2.1, HBW.out.2.2⟩
    case round =>
      clear HBW
      obtain ⟨k, hk, rfl, hd, b0, b1, hbel⟩ := hrel
      have HD := Kept.mk hd
      have HB0 := Kept.mk b0
      have HB1 := Kept.mk b1
      clear hd b0 b1
      by_cases hlt : k < 32
      · have hi0 := run_index_text wr s .i64 (2 * k) (by omega)
        have hi1 := run_index_text wr s .i64 (2 * k + 1) (by omega)
        have y0 := sN_range s (2 * k)
        have y1 := sN_range s (2 * k + 1)
        have HP : Kept (pairD s k = valD (sN s (2 * k)) * 16 + valD (sN s (2 * k + 1))) := ⟨rfl⟩
        rw [show (((2 * k : Nat) : Nat) : Int) = 2 * (k : Int) from by omega] at hi0
        rw [show (((2 * k + 1 : Nat) : Nat) : Int) = 2 * (k : Int) + 1 from by omega] at hi1
        generalize hx0 : sN s (2 * k) = x0 at *
        generalize hx1 : sN s (2 * k + 1) = x1 at *
        have HX0 := Kept.mk hx0
        have HX1 := Kept.mk hx1
        clear hx0 hx1
        have d0 := digit_any x0 wr y0.1 y0.2
        have d1 := digit_any x1 wr y1.1 y1.2
        by_cases D0 : isD x0 = true
        · rw [if_pos D0, D0] at d0
          have v0 := valD_range x0 D0
          by_cases D1 : isD x1 = true
          · rw [if_pos D1, D1] at d1
            have v1 := valD_range x1 D1
            have hor := or16 (valD x0) (valD x1) v0 v1
            have ck := HB1.out.cell k (by rw [parK_length s k hk]; omega)
            have fk := HB1.out.frozen8 k
            generalize (parK s k).getD k 0 = old at *
            have HD0 := Kept.mk d0
            have HD1 := Kept.mk d1
            clear d0 d1
            generalize valD x0 = z0 at *
            generalize valD x1 = z1 at *
            go_upto_region 7 with fail
            go_wp2_with fail
            refine Calls.mono HD0.out (fun e wa hp => ?_)
            obtain ⟨rfl, hw⟩ := hp
            subst hw
            go_wp2_with fail
            refine Calls.mono HD1.out (fun e wa hp => ?_)
            obtain ⟨rfl, hw⟩ := hp
            subst hw
            go_wp2
            go_roundw
            case rel =>
              refine ⟨k + 1, by omega, by go_num, fun j hj => ?_, HB0.out.other (by omega) _, ?_, hbel.setCell (by show w.heap.size ≤ w.heap.size + 1; omega) _⟩
              · rcases Nat.lt_or_ge j (2 * k) with h' | h'
                · exact HD.out j h'
                · rcases Nat.lt_or_ge j (2 * k + 1) with h'' | h''
                  · rw [show j = 2 * k from by omega, HX0.out]; exact D0
                  · rw [show j = 2 * k + 1 from by omega, HX1.out]; exact D1
              · rw [← parK_step s k hlt, HP.out]
                exact HB1.out.set8 k _
            case measure => simp [intOf]; omega
          · rw [if_neg D1] at d1
            have hf1 : isD x1 = false := by simpa using D1
            rw [hf1] at d1
            have HD0 := Kept.mk d0
            have HD1 := Kept.mk d1
            clear d0 d1
            have hbad : okS s = false := okS_false s (2 * k + 1) (by omega) (by rw [HX1.out]; simpa using D1)
            have HT : Kept (wr.there w.heap.size 0 (cellsU8 z32).toArray.size) := ⟨HB0.out.there8 _ rfl⟩
            have HF : Kept (Blk8 (wr.setCells w.heap.size 0 (cellsU8 z32)) w.heap.size 31 z32 ∧ Below w.heap.size w (wr.setCells w.heap.size 0 (cellsU8 z32))) := ⟨HB0.out.over8 rfl, below_cells (Nat.le_refl _) _ 0 w wr hbel⟩
            have HB : Kept (parF s = z32 ∧ parE s = 4) := ⟨by simp [parF, hbad, z32], by simp [parE, hbad]⟩
            clear hbad HD HB0 HB1 HP
            generalize valD x0 = z0 at *
            go_upto_region 7 with fail
            go_wp2_with fail
            refine Calls.mono HD0.out (fun e wa hp => ?_)
            obtain ⟨rfl, hw⟩ := hp
            subst hw
            go_wp2_with fail
            refine Calls.mono HD1.out (fun e wa hp => ?_)
            obtain ⟨rfl, hw⟩ := hp
            subst hw
            go_wp2_with (refine wpList_store_mid rfl 31 _ _ rfl w.heap.size 0 (cellsU8 z32).toArray rfl rfl HT.out HIZ.out HOZ.out ?_)
            refine bodyPost_ret (v := .tuple #[.agg (cellsU8 z32).toArray, .int .i64 4]) (results_row2 (p := 2) (u := 3) (ty := 31) Tryz.results62 _ _ w.heap.size 31 _ (0, 0) _ rfl HF.out.1 Tryz.underlying31 rfl HIZ.out) rfl ⟨by rw [HB.out.1, HB.out.2], HF.out.2⟩
        · rw [if_neg D0] at d0
          have hf0 : isD x0 = false := by simpa using D0
          rw [hf0] at d0
          have HD0 := Kept.mk d0
          clear d0
          have hbad : okS s = false := okS_false s (2 * k) (by omega) (by rw [HX0.out]; simpa using D0)
          have HT : Kept (wr.there w.heap.size 0 (cellsU8 z32).toArray.size) := ⟨HB0.out.there8 _ rfl⟩
          have HF : Kept (Blk8 (wr.setCells w.heap.size 0 (cellsU8 z32)) w.heap.size 31 z32 ∧ Below w.heap.size w (wr.setCells w.heap.size 0 (cellsU8 z32))) := ⟨HB0.out.over8 rfl, below_cells (Nat.le_refl _) _ 0 w wr hbel⟩
          have HB : Kept (parF s = z32 ∧ parE s = 4) := ⟨by simp [parF, hbad, z32], by simp [parE, hbad]⟩
          clear hbad HD HB0 HB1 HP
          have hD1 : isD x1 = true ∨ isD x1 = false := by cases isD x1 <;> simp
          have HD1 := Kept.mk d1
          clear d1
          generalize isD x1 = ok1 at *
          generalize valD x1 = z1 at *
          go_upto_region 7 with fail
          go_wp2_with fail
          refine Calls.mono HD0.out (fun e wa hp => ?_)
          obtain ⟨rfl, hw⟩ := hp
          subst hw
          go_wp2_with fail
          refine Calls.mono HD1.out (fun e wa hp => ?_)
          obtain ⟨rfl, hw⟩ := hp
          subst hw
          go_wp2_with (refine wpList_store_mid rfl 31 _ _ rfl w.heap.size 0 (cellsU8 z32).toArray rfl rfl HT.out HIZ.out HOZ.out ?_)
          all_goals refine bodyPost_ret (v := .tuple #[.agg (cellsU8 z32).toArray, .int .i64 4]) (results_row2 (p := 2) (u := 3) (ty := 31) Tryz.results62 _ _ w.heap.size 31 _ (0, 0) _ rfl HF.out.1 Tryz.underlying31 rfl HIZ.out) rfl ⟨by rw [HB.out.1, HB.out.2], HF.out.2⟩
      · obtain rfl : k = 32 := by omega
        have hgood : okS s = true := by
          simp only [okS, h64, decide_true, Bool.true_and, List.all_eq_true, List.mem_range]
          exact fun i hi => HD.out i (by omega)
        have HB : Kept (parF s = parK s 32 ∧ parE s = 0) := ⟨by simp [parF, hgood, parK], by simp [parE, hgood]⟩
        have hl32 := parK_length s 32 (by omega)
        clear hgood HD
        generalize parK s 32 = dl at *
        have HR1 := Kept.mk HB1.out.range
        have HI1 : Kept ((Tryz.prog.info? 31).map (·.size) = some (cellsU8 dl).length) := ⟨by rw [cellsU8_length, hl32]; rfl⟩
        have HI2 : Kept ((Tryz.prog.info? 31).map (·.size) = some (cellsU8 dl).toArray.size) := ⟨by rw [List.size_toArray]; exact HI1.out⟩
        have HT1 : Kept (wr.there w.heap.size 0 (cellsU8 dl).toArray.size) := ⟨HB0.out.there8 _ (by rw [List.size_toArray, cellsU8_length, hl32]; rfl)⟩
        have HO1 := Kept.mk (all_oneCell_toArray (cellsU8_one dl))
        have HF1 : Kept (Blk8 (wr.setCells w.heap.size 0 (cellsU8 dl)) w.heap.size 31 dl ∧ Below w.heap.size w (wr.setCells w.heap.size 0 (cellsU8 dl))) := ⟨HB0.out.over8 (by rw [hl32]; rfl), below_cells (Nat.le_refl _) _ 0 w wr hbel⟩
        clear HB0 HB1 hbel
        go_wp2_with (first | (refine wpList_load_mid rfl 31 _ rfl (w.heap.size + 1) 0 rfl (cellsU8 dl) _ HR1.out Tryz.underlying31 rfl HI1.out ?_) | (refine wpList_store_mid rfl 31 _ _ rfl w.heap.size 0 (cellsU8 dl).toArray rfl rfl HT1.out HI2.out HO1.out ?_))
        refine bodyPost_ret (v := .tuple #[.agg (cellsU8 dl).toArray, .int .i64 0]) (results_row2 (p := 2) (u := 3) (ty := 31) Tryz.results62 _ _ w.heap.size 31 _ (0, 0) _ rfl HF1.out.1 Tryz.underlying31 rfl HI2.out) rfl ⟨by rw [HB.out.1, HB.out.2], HF1.out.2⟩
  · have h1 : parF s = z32 := by simp [parF, okS, h64, z32]
    have h2 : parE s = 4 := by simp [parE, okS, h64]
    have h64' : ¬ (s.size : Int) = 64 := by omega
    rw [h1, h2]
    clear h1 h2
    have HT : Kept (((w.alloc (.cells (cellsU8 z32).toArray 31)).alloc (.cells (cellsU8 z32).toArray 31)).there w.heap.size 0 (cellsU8 z32).toArray.size) := ⟨HBW.out.1.there8 _ rfl⟩
    go_enter Tryz.func62, Tryz.ntmps62
    go_wp2_with (refine wpList_store_mid rfl 31 _ _ rfl w.heap.size 0 (cellsU8 z32).toArray rfl rfl HT.out HIZ.out HOZ.out ?_)
    refine bodyPost_ret (v := .tuple #[.agg (cellsU8 z32).toArray, .int .i64 4]) (results_row2 (p := 2) (u := 3) (ty := 31) Tryz.results62 _ _ w.heap.size 31 _ (0, 0) _ rfl (HBW.out.1.over8 rfl) Tryz.underlying31 rfl HIZ.out) rfl ⟨rfl, below_cells (Nat.le_refl _) _ 0 w _ HBW.out.2.2⟩


def docG (s : ByteArray) (i j : Nat) : Int := if 2 * j + 1 < i then pairD s j else if 2 * j < i then valD (sN s (2 * j)) else 0
def docK (s : ByteArray) (i : Nat) : List Int := (List.range 32).map (docG s i)
theorem docK_length (s : ByteArray) (i : Nat) : (docK s i).length = 32 := by simp [docK]
theorem docK_get (s : ByteArray) (i j : Nat) (h : j < 32) : (docK s i).getD j 0 = docG s i j := by
  simp [docK, List.getD, h]
theorem docK_zero (s : ByteArray) : docK s 0 = z32 := by
  rw [z32, List.eq_replicate_iff]
  refine ⟨docK_length s 0, fun b hb => ?_⟩
  obtain ⟨j, _, rfl⟩ := List.mem_map.1 hb
  unfold docG
  rw [if_neg (by omega), if_neg (by omega)]
theorem docK_all (s : ByteArray) : docK s 64 = (List.range 32).map (pairD s) := by
  unfold docK
  apply List.map_congr_left
  intro j hj
  have := List.mem_range.1 hj
  unfold docG
  rw [if_pos (by omega)]
theorem docK_step (s : ByteArray) (i : Nat) (hi : i < 64) (h : ∀ j, j ≤ i → isD (sN s j) = true) : (docK s i).set (i / 2) ((16 * docG s i (i / 2) + valD (sN s i)) % 256) = docK s (i + 1) := by
  apply List.ext_getElem?
  intro j
  rw [List.getElem?_set]
  have hv := valD_range _ (h i (Nat.le_refl _))
  by_cases hj : i / 2 = j
  · subst hj
    rw [if_pos rfl, if_pos (by rw [docK_length]; omega)]
    simp only [docK, List.getElem?_map, List.getElem?_range (show i / 2 < 32 by omega), Option.map_some]
    congr 1
    unfold docG
    rcases Nat.mod_two_eq_zero_or_one i with hm | hm
    · rw [if_neg (by omega), if_neg (by omega), if_neg (by omega), if_pos (by omega), show 2 * (i / 2) = i from by omega]
      omega
    · rw [if_neg (by omega), if_pos (by omega), if_pos (by omega)]
      unfold pairD
      have e1 : 2 * (i / 2) + 1 = i := by omega
      have hv0 := valD_range _ (h (2 * (i / 2)) (by omega))
      rw [e1]
      omega
  · rw [if_neg hj]
    simp only [docK, List.getElem?_map]
    rcases Nat.lt_or_ge j 32 with h' | h'
    · simp only [List.getElem?_range h', Option.map_some]
      congr 1
      unfold docG
      by_cases a1 : 2 * j + 1 < i
      · rw [if_pos a1, if_pos (by omega)]
      · rw [if_neg a1, if_neg (by omega), if_neg (by omega), if_neg (by omega)]
    · simp [h']

set_option maxHeartbeats 2000000 in
set_option maxRecDepth 100000 in
theorem docParse_any (s : ByteArray) (w : World) :
    Calls Tryz.prog 43 #[.string s] w fun e w' => e = .returned (.tuple #[.agg (cellsU8 (parF s)).toArray, .int .i64 (parE s)]) ∧ Below w.heap.size w w' := by
  have HIZ : Kept ((Tryz.prog.info? 31).map (·.size) = some (cellsU8 z32).toArray.size) := ⟨rfl⟩
  have HIL : Kept ((Tryz.prog.info? 31).map (·.size) = some (cellsU8 z32).length) := ⟨rfl⟩
  have HOZ := Kept.mk (all_oneCell_toArray (cellsU8_one z32))
  have HBW : Kept (Blk8 ((w.alloc (.cells (cellsU8 z32).toArray 31)).alloc (.cells (cellsU8 z32).toArray 31)) w.heap.size 31 z32 ∧ Blk8 ((w.alloc (.cells (cellsU8 z32).toArray 31)).alloc (.cells (cellsU8 z32).toArray 31)) (w.heap.size + 1) 31 z32 ∧ Below w.heap.size w ((w.alloc (.cells (cellsU8 z32).toArray 31)).alloc (.cells (cellsU8 z32).toArray 31))) := by
    refine ⟨(alloc_blk8 w z32 31).alloc _, ?_, ((Below.refl _ _).alloc (Nat.le_refl _) _).alloc (by simp) _⟩
    have := alloc_blk8 (w.alloc (.cells (cellsU8 z32).toArray 31)) z32 31
    rwa [show (w.alloc (.cells (cellsU8 z32).toArray 31)).heap.size = w.heap.size + 1 from by simp] at this
  by_cases h64 : s.size = 64
  · go_enter Tryz.func43, Tryz.ntmps43
    go_wp2
    go_loopw [5] (fun i wr => ∃ (k : Nat), k ≤ 64 ∧ i = .int .i64 k ∧ (∀ j, j < k → isD (sN s j) = true) ∧ Blk8 wr w.heap.size 31 z32 ∧ Blk8 wr (w.heap.size + 1) 31 (docK s k) ∧ Below w.heap.size w wr) (fun i _ => 64 - (intOf i).toNat)
    case atStart => exact ⟨0, by omega, rfl, fun j hj => by omega, HBW.out.1, by rw [docK_zero]; exact HBW.out.2.1, HBW.out.2.2⟩
    case round =>
      clear HBW
      obtain ⟨k, hk, rfl, hd, b0, b1, hbel⟩ := hrel
      have HD := Kept.mk hd
      have HB0 := Kept.mk b0
      have HB1 := Kept.mk b1
      clear hd b0 b1
      by_cases hlt : k < 64
      · have hi0 := run_index_text wr s .i64 k (by omega)
        have y0 := sN_range s k
        have d0 := rdigit_any (sN s k) wr y0.1 y0.2
        by_cases D0 : isD (sN s k) = true
        · rw [if_pos D0] at d0
          have hst := docK_step s k hlt (fun j hj => by
            rcases Nat.lt_or_ge j k with h' | h'
            · exact HD.out j h'
            · rw [show j = k from by omega]; exact D0)
          have ck := HB1.out.cell (k / 2) (by rw [docK_length]; omega)
          have fk := HB1.out.frozen8 (k / 2)
          rw [docK_get s k (k / 2) (by omega)] at ck
          have v0 := valD_range _ D0
          have HST := Kept.mk hst
          have HD0 := Kept.mk d0
          have HDK := Kept.mk D0
          clear hst d0 D0
          generalize hx0 : sN s k = x0 at *
          have HX0 := Kept.mk hx0
          clear hx0
          generalize valD x0 = z0 at *
          generalize docG s k (k / 2) = old at *
          go_upto_region 7 with fail
          go_wp2_with fail
          refine Calls.mono HD0.out (fun e wa hp => ?_)
          obtain ⟨rfl, hw⟩ := hp
          subst hw
          go_wp2
          go_roundw
          case rel =>
            refine ⟨k + 1, by omega, by go_num, fun j hj => ?_, HB0.out.other (by omega) _, ?_, hbel.setCell (by show w.heap.size ≤ w.heap.size + 1; omega) _⟩
            · rcases Nat.lt_or_ge j k with h' | h'
              · exact HD.out j h'
              · rw [show j = k from by omega, HX0.out]; exact HDK.out
            · rw [← HST.out, show 16 * old % 256 + z0 = (16 * old + z0) % 256 from by omega]
              exact HB1.out.set8 (k / 2) _
          case measure => simp [intOf]; omega
        · rw [if_neg D0] at d0
          have hbad : okS s = false := okS_false s k (by omega) (by simpa using D0)
          have HT : Kept (wr.there w.heap.size 0 (cellsU8 z32).toArray.size) := ⟨HB0.out.there8 _ rfl⟩
          have HF : Kept (Blk8 (wr.setCells w.heap.size 0 (cellsU8 z32)) w.heap.size 31 z32 ∧ Below w.heap.size w (wr.setCells w.heap.size 0 (cellsU8 z32))) := ⟨HB0.out.over8 rfl, below_cells (Nat.le_refl _) _ 0 w wr hbel⟩
          have HB : Kept (parF s = z32 ∧ parE s = 4) := ⟨by simp [parF, hbad, z32], by simp [parE, hbad]⟩
          have HD0 := Kept.mk d0
          clear hbad HD HB0 HB1 d0 D0
          generalize sN s k = x0 at *
          go_upto_region 7 with fail
          go_wp2_with fail
          refine Calls.mono HD0.out (fun e wa hp => ?_)
          obtain ⟨rfl, hw⟩ := hp
          subst hw
          go_wp2_with (refine wpList_store_mid rfl 31 _ _ rfl w.heap.size 0 (cellsU8 z32).toArray rfl rfl HT.out HIZ.out HOZ.out ?_)
          refine bodyPost_ret (v := .tuple #[.agg (cellsU8 z32).toArray, .int .i64 4]) (results_row2 (p := 2) (u := 3) (ty := 31) Tryz.results43 _ _ w.heap.size 31 _ (0, 0) _ rfl HF.out.1 Tryz.underlying31 rfl HIZ.out) rfl ⟨by rw [HB.out.1, HB.out.2], HF.out.2⟩
      · obtain rfl : k = 64 := by omega
        have hgood : okS s = true := by
          simp only [okS, h64, decide_true, Bool.true_and, List.all_eq_true, List.mem_range]
          exact fun i hi => HD.out i hi
        have HB : Kept (parF s = docK s 64 ∧ parE s = 0) := ⟨by rw [docK_all]; simp [parF, hgood], by simp [parE, hgood]⟩
        have hl32 := docK_length s 64
        clear hgood HD
        generalize docK s 64 = dl at *
        have HR1 := Kept.mk HB1.out.range
        have HI1 : Kept ((Tryz.prog.info? 31).map (·.size) = some (cellsU8 dl).length) := ⟨by rw [cellsU8_length, hl32]; rfl⟩
        have HI2 : Kept ((Tryz.prog.info? 31).map (·.size) = some (cellsU8 dl).toArray.size) := ⟨by rw [List.size_toArray]; exact HI1.out⟩
        have HT1 : Kept (wr.there w.heap.size 0 (cellsU8 dl).toArray.size) := ⟨HB0.out.there8 _ (by rw [List.size_toArray, cellsU8_length, hl32]; rfl)⟩
        have HO1 := Kept.mk (all_oneCell_toArray (cellsU8_one dl))
        have HF1 : Kept (Blk8 (wr.setCells w.heap.size 0 (cellsU8 dl)) w.heap.size 31 dl ∧ Below w.heap.size w (wr.setCells w.heap.size 0 (cellsU8 dl))) := ⟨HB0.out.over8 (by rw [hl32]; rfl), below_cells (Nat.le_refl _) _ 0 w wr hbel⟩
        clear HB0 HB1 hbel
        go_wp2_with (first | (refine wpList_load_mid rfl 31 _ rfl (w.heap.size + 1) 0 rfl (cellsU8 dl) _ HR1.out Tryz.underlying31 rfl HI1.out ?_) | (refine wpList_store_mid rfl 31 _ _ rfl w.heap.size 0 (cellsU8 dl).toArray rfl rfl HT1.out HI2.out HO1.out ?_))
        refine bodyPost_ret (v := .tuple #[.agg (cellsU8 dl).toArray, .int .i64 0]) (results_row2 (p := 2) (u := 3) (ty := 31) Tryz.results43 _ _ w.heap.size 31 _ (0, 0) _ rfl HF1.out.1 Tryz.underlying31 rfl HI2.out) rfl ⟨by rw [HB.out.1, HB.out.2], HF1.out.2⟩
  · have h1 : parF s = z32 := by simp [parF, okS, h64, z32]
    have h2 : parE s = 4 := by simp [parE, okS, h64]
    have h64' : ¬ (s.size : Int) = 64 := by omega
    rw [h1, h2]
    clear h1 h2
    have HT : Kept (((w.alloc (.cells (cellsU8 z32).toArray 31)).alloc (.cells (cellsU8 z32).toArray 31)).there w.heap.size 0 (cellsU8 z32).toArray.size) := ⟨HBW.out.1.there8 _ rfl⟩
    have HR := Kept.mk HBW.out.2.1.range
    go_enter Tryz.func43, Tryz.ntmps43
    go_wp2_with (first | (refine wpList_load_mid rfl 31 _ rfl (w.heap.size + 1) 0 rfl (cellsU8 z32) _ HR.out Tryz.underlying31 rfl HIL.out ?_) | (refine wpList_store_mid rfl 31 _ _ rfl w.heap.size 0 (cellsU8 z32).toArray rfl rfl HT.out HIZ.out HOZ.out ?_))
    refine bodyPost_ret (v := .tuple #[.agg (cellsU8 z32).toArray, .int .i64 4]) (results_row2 (p := 2) (u := 3) (ty := 31) Tryz.results43 _ _ w.heap.size 31 _ (0, 0) _ rfl (HBW.out.1.over8 rfl) Tryz.underlying31 rfl HIZ.out) rfl ⟨rfl, below_cells (Nat.le_refl _) _ 0 w _ HBW.out.2.2⟩
end Go.Proofs.YtkbalngddlhlpaaGreatDoor.Sh
