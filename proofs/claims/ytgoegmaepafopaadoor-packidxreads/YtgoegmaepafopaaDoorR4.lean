/-
  Walks: the document's Build. (By tools/gen_pxr4.py.)
-/
import Derived.Test.YtgoegmaepafopaaDoorR3
import Derived.Test.YtgoegmaepafopaaDoorShR
namespace Go.Proofs.YtgoegmaepafopaaDoor
open Go.RowKit Go.Sort

/-- A slice of truths that reads as bs. -/
def RdB (w : World) (v : Value) (bs : List Bool) : Prop :=
  ∃ a c, v = .slice a bs.length c ∧ bs.length ≤ c ∧ c ≤ maxLen ∧ (0 < bs.length → ∃ b off, a = some ⟨b, off, none⟩ ∧ b < w.heap.size ∧ ∀ i, i < bs.length → w.cell? ⟨b, off + i, none⟩ = some (.bool (lng bs i)))
theorem RdB.later {w w' : World} {v : Value} {bs : List Bool} (h : RdB w v bs) {B : Nat} (hb : Below B w w') (hB : w.heap.size ≤ B) : RdB w' v bs := by
  obtain ⟨a, c, h1, h2, h3, h4⟩ := h
  refine ⟨a, c, h1, h2, h3, fun h0 => ?_⟩
  obtain ⟨b, off, h5, h6, h7⟩ := h4 h0
  refine ⟨b, off, h5, Nat.lt_of_lt_of_le h6 hb.size, fun i hi => ?_⟩
  rw [hb.cell (p := ⟨b, off + i, none⟩) (Nat.lt_of_lt_of_le h6 hB)]
  exact h7 i hi
def farL (rs : List RowC) (bs : List Bool) (k : Nat) : List Int := (List.range k).flatMap fun i => if lng bs i = true then [(rowI rs i).pl] else []
theorem farL_succ (rs : List RowC) (bs : List Bool) (k : Nat) : farL rs bs (k + 1) = farL rs bs k ++ if lng bs k = true then [(rowI rs k).pl] else [] := by simp [farL, List.range_succ]
theorem farL_len (rs : List RowC) (bs : List Bool) : ∀ k, (farL rs bs k).length = nl bs k
  | 0 => by simp [farL, nl]
  | k + 1 => by rw [farL_succ, List.length_append, farL_len rs bs k, nl_succ]; split <;> simp
theorem farL_range {rs : List RowC} (hok : ∀ r ∈ rs, r.ok) (bs : List Bool) : ∀ k, k ≤ rs.length → ∀ y ∈ farL rs bs k, 0 ≤ y ∧ y < 18446744073709551616
  | 0, _, y, hy => by simp [farL] at hy
  | k + 1, hk, y, hy => by
    rw [farL_succ] at hy
    rcases List.mem_append.1 hy with h | h
    · exact farL_range hok bs k (by omega) y h
    · split at h
      · simp at h
        subst h
        exact (rowI_ok hok (by omega)).2.2.2.2
      · simp at h
def farB (F : List Int) (k : Nat) : List Int := accL (fun i => Nu.bigF 8 (F.getD i 0)) k
theorem farB_append (F G : List Int) : ∀ k, k ≤ F.length → farB (F ++ G) k = farB F k := fun k hk => accL_congr _ _ k fun i hi => by simp [List.getD, List.getElem?_append_left (show i < F.length by omega)]
theorem far_longs (rs : List RowC) (bs : List Bool) : ∀ k, farB (farL rs bs k) (farL rs bs k).length = accL (longI rs bs) k
  | 0 => by simp [farL, farB, accL]
  | k + 1 => by
    rw [accL_succ, farL_succ, ← far_longs rs bs k]
    unfold longI
    split
    · rw [List.length_append]
      show farB _ ((farL rs bs k).length + 1) = _
      unfold farB
      rw [accL_succ]
      congr 1
      · exact farB_append _ _ _ (Nat.le_refl _)
      · simp [List.getD]
    · simp
theorem cntL_take (rs : List RowC) {k : Nat} (h : k < rs.length) (b : Nat) : cntL (rs.take (k + 1)) b = cntL (rs.take k) b + if (rowI rs k).ids.getD 0 0 ≤ (b : Int) then 1 else 0 := by
  unfold cntL
  rw [List.take_add_one, List.getElem?_eq_getElem h, List.countP_append, rowI_get h]
  simp [List.countP_cons]
set_option maxRecDepth 100000 in
theorem infoU64 : ∃ i z, Tryd.prog.info? 37 = some i ∧ i.zero = some z ∧ i.size = 1 ∧ i.bytes = 8 ∧ z.cells.size = 1 := by
  refine ⟨_, _, rfl, rfl, rfl, rfl, rfl⟩
theorem refPut (v : Value) (xs : List Int) (x : Int) (n : Nat) (w : World) {S : Nat → Prop} (h : Rd .u8 S w v xs) (hA : AllB xs) (hx0 : 0 ≤ x) (hx1 : x < 18446744073709551616) (hn : 1 ≤ n) (hn8 : n ≤ 8) (hl : xs.length + 10 ≤ 140737488355328) :
    Calls Tryd.prog 49 #[v, .int .u64 x, .int .i64 n] w fun e w' => ∃ v', e = .returned v' ∧ Own .u8 5 w' w.heap.size v' (xs ++ Nu.bigF n x) ∧ Below w.heap.size w w' :=
  Nu.refPutBig_any v xs x n w (nuRd h hA) hx0 hx1 hn hn8 hl

set_option maxHeartbeats 4000000 in
set_option maxRecDepth 100000 in
theorem docBuild_any (v bv : Value) (rs : List RowC) (bs : List Bool) (pk : List Int) (w : World) (hr : RdR w v rs) (hb : RdB w bv bs) (hbl : bs.length = rs.length) (hl : rs.length ≤ 4096) (hp : pk.length = 32) (hA : AllB pk) :
    Calls Tryd.prog 30 #[v, bv, .agg (cellsK .u8 pk).toArray] w fun e w' => ∃ v', e = .returned v' ∧ Own .u8 5 w' w.heap.size v' (buildL rs bs pk) ∧ Below w.heap.size w w' := by
  obtain ⟨i0, z0, hi, hz, hs, hb0, hc⟩ := info8
  obtain ⟨i6, z6, hi6, hz6, hsz6, hb6, hc6⟩ := infoU64
  obtain ⟨a, c, rfl, hlc, hcm, hac, hok, hrd⟩ := hr
  obtain ⟨ba, bc, rfl, hblc, hbcm, hbrd⟩ := hb
  have KR := Kept.mk hrd
  have KK := Kept.mk hok
  have KBd := Kept.mk hbrd
  have KHl := Kept.mk hbl
  clear hbl
  obtain ⟨w1, hw1, hB1, -, hbk1⟩ := box_id w pk
  have KP1 := Kept.mk hbk1
  have KB1 := Kept.mk hB1
  have KA := Kept.mk hA
  have hps : (cellsK .u8 pk).toArray.size = 32 := by rw [List.size_toArray, cellsK_length, hp]
  obtain ⟨w2, hw2⟩ : ∃ w2, w1.alloc (.cells (cellsK .u8 headB).toArray 5) = w2 := ⟨_, rfl⟩
  have hO2 : Own .u8 5 w2 w1.heap.size (.slice (some ⟨w1.heap.size, 0, none⟩) 8 8) headB := by rw [← hw2]; exact Own.made .u8 w1 headB 5 (by decide)
  have hB12 : Below w1.heap.size w1 w2 := by rw [← hw2]; exact (Below.refl _ _).alloc (Nat.le_refl _) _
  have hw2' : w1.alloc (.cells #[.int .u8 255, .int .u8 116, .int .u8 79, .int .u8 99, .int .u8 0, .int .u8 0, .int .u8 0, .int .u8 2] 5) = w2 := hw2
  have KO2 := Kept.mk hO2
  have KB2 := Kept.mk hB12
  have hBw : ∀ W, Below w1.heap.size w1 W → Below w.heap.size w W := fun W h => KB1.out.trans (h.mono KB1.out.size)
  have KBw := Kept.mk hBw
  have KFb : Kept (∀ k, AllB (fanB rs k)) := ⟨fun k => accL_allB _ _ fun _ _ => bigF_allB _ _⟩
  clear hrd hok hbrd hB1 hbk1 hA hw2 hO2 hB12 hBw
  go_enter Tryd.func30, Tryd.ntmps30
  go_upto_region 3 with fail
  go_wp2_with fail
  clear hw1 hw2'
  go_loopw [7, 8] (fun pv bvv wr => ∃ k : Nat, k ≤ 256 ∧ bvv = .int .i64 k ∧ Own .u8 5 wr w1.heap.size pv (headB ++ fanB rs k) ∧ Below w1.heap.size w1 wr) (fun _ bvv _ => 256 - (intOf bvv).toNat)
  case atStart => exact ⟨0, by omega, rfl, by simpa [fanB, accL] using KO2.out, KB2.out⟩
  case round =>
    obtain ⟨q, hq, rfl, how, hbel1⟩ := hrel
    have KOw := Kept.mk how
    have KBq := Kept.mk hbel1
    obtain ⟨oa, oc, rfl, -, -, -⟩ := how.rd.form
    have hlen := fanB_len rs q
    clear how KO2 KB2
    by_cases hlq : q < 256
    · have hqi : (q : Int) < 256 := by omega
      have KSt : Kept (fanB rs (q + 1) = fanB rs q ++ Nu.bigF 4 (cntL rs q : Int)) := ⟨accL_succ _ _⟩
      have KZl : Kept ((headB ++ fanB rs q).length ≤ 2000) := ⟨by rw [List.length_append, hlen, show headB.length = 8 from rfl]; omega⟩
      have KZA : Kept (AllB (headB ++ fanB rs q)) := ⟨headB_allB.append (KFb.out q)⟩
      clear hlen hbel1
      generalize hZ : headB ++ fanB rs q = Z at *
      have KZ := Kept.mk hZ
      clear hZ
      go_wp2_with fail
      have Klq := Kept.mk hlq
      clear hlq hqi
      go_loopw [9, 30] (fun nv iv wr => ∃ k : Nat, k ≤ rs.length ∧ iv = .int .i64 k ∧ nv = .int .i64 ((cntL (rs.take k) q : Nat) : Int) ∧ Own .u8 5 wr w1.heap.size (.slice oa Z.length oc) Z ∧ Below w.heap.size w wr ∧ Below w1.heap.size w1 wr) (fun _ iv _ => rs.length - (intOf iv).toNat)
      case atStart => exact ⟨0, Nat.zero_le _, rfl, by simp [cntL], KOw.out, KBw.out _ KBq.out, KBq.out⟩
      case round =>
        obtain ⟨k, hk, rfl, rfl, how, hbel, hbel1⟩ := hrel
        have KOw2 := Kept.mk how
        have KBl := Kept.mk hbel
        have KBl1 := Kept.mk hbel1
        have hcle := cntL_le (rs.take k) q
        have htk : (rs.take k).length = k := by rw [List.length_take]; omega
        rw [htk] at hcle
        clear how htk
        by_cases hlt : k < rs.length
        · obtain ⟨b, off, rfl, hbl, hrg⟩ := KR.out (by omega)
          have hoR := rowI_ok KK.out hlt
          have hR : Kept (wr.rangeAt b (off + k * 34) (rowI rs k).l) := ⟨fun j u hu => by
            rw [hbel.cell (p := ⟨b, off + k * 34 + j, none⟩) hbl]
            exact hrg k hlt j u hu⟩
          obtain ⟨w2, hw2, hB2, hlt2, hh2, hcI, hcC, hcP, hRI⟩ := box_row wr 42 hoR
          have KL2 := Kept.mk (row_size hoR)
          have KI2 : Kept ((Tryd.prog.info? 42).map (·.size) = some (rowI rs k).l.toArray.size) := ⟨by rw [KL2.out]; exact info_row2⟩
          have KI : Kept ((Tryd.prog.info? 42).map (·.size) = some (rowI rs k).l.length) := ⟨by rw [RowC.len hoR]; exact info_row2⟩
          have KO : Kept ((rowI rs k).l.toArray.all (·.oneCell') = true) := ⟨all_oneCell_toArray (RowC.ones _)⟩
          have hki : (k : Int) < (rs.length : Int) := by omega
          have e2 : IntKind.i64.wrap ((k : Int) + 1) = (k : Int) + 1 := wr64 (by omega) (by omega)
          have KB2 := Kept.mk (hbel.trans (hB2.mono hbel.size))
          have KCt := Kept.mk (cntL_take rs hlt q)
          have KO2 := Kept.mk (KOw2.out.later hB2 (Nat.le_refl _))
          have KB12 := Kept.mk (hbel1.trans (hB2.mono hbel1.size))
          have hc0 := hcI 0 (by omega)
          have hfb := hoR.2.1.getD (by omega) 0
          clear hrg hoR hB2 hh2 hcI hcC hcP hRI hbel hbel1
          generalize cntL (rs.take k) q = cn at *
          generalize (rowI rs k).l = CL at *
          generalize (rowI rs k).ids.getD 0 0 = fb at *
          have e5 : IntKind.i64.wrap fb = fb := wr64 (by omega) (by omega)
          have e6 : IntKind.i64.wrap ((cn : Int) + 1) = (cn : Int) + 1 := wr64 (by omega) (by omega)
          by_cases hfq : fb ≤ (q : Int)
          · have hd : decide (fb ≤ (q : Int)) = true := decide_eq_true hfq
            have KC1 : Kept (cntL (rs.take (k + 1)) q = cn + 1) := ⟨by rw [KCt.out, if_pos hfq]⟩
            go_wp2_with (first | (refine wpList_load_mid rfl 42 _ rfl b (off + k * 34) rfl CL _ hR.out Tryd.underlying42 rfl KI.out ?_) | (refine BigFrame.wpList_want rfl (fun K hK => wp_store_row 42 _ _ rfl wr.heap.size CL.toArray rfl rfl 42 _ (heap_alloc_new wr _) KI2.out (by rw [KL2.out]; rfl) KO.out (hK _ _ ?_)); rw [World.setRow_alloc_new]))
            go_roundw
            case rel => exact ⟨k + 1, by omega, by go_num, by rw [KC1.out]; rfl, KO2.out, KB2.out, KB12.out⟩
            case measure => simp [intOf]; omega
          · have hd : decide (fb ≤ (q : Int)) = false := decide_eq_false hfq
            have KC1 : Kept (cntL (rs.take (k + 1)) q = cn) := ⟨by rw [KCt.out, if_neg hfq]; rfl⟩
            go_wp2_with (first | (refine wpList_load_mid rfl 42 _ rfl b (off + k * 34) rfl CL _ hR.out Tryd.underlying42 rfl KI.out ?_) | (refine BigFrame.wpList_want rfl (fun K hK => wp_store_row 42 _ _ rfl wr.heap.size CL.toArray rfl rfl 42 _ (heap_alloc_new wr _) KI2.out (by rw [KL2.out]; rfl) KO.out (hK _ _ ?_)); rw [World.setRow_alloc_new]))
            go_roundw
            case rel => exact ⟨k + 1, by omega, by go_num, by rw [KC1.out], KO2.out, KB2.out, KB12.out⟩
            case measure => simp [intOf]; omega
        · have hki : ¬ (k : Int) < (rs.length : Int) := by omega
          obtain rfl : k = rs.length := by omega
          rw [List.take_length] at hcle ⊢
          have hlq := Klq.out
          have KPb := Kept.mk (refPut _ Z (cntL rs q : Int) 4 wr KOw2.out.rd KZA.out (by omega) (by omega) (by omega) (by omega) (by have := KZl.out; omega))
          clear hbel hbel1
          generalize hcc : cntL rs q = cn at *
          clear hcc
          have e7 : IntKind.u64.wrap (cn : Int) = (cn : Int) := wru64 (by omega) (by omega)
          have e8 : IntKind.i64.wrap ((q : Int) + 1) = (q : Int) + 1 := wr64 (by omega) (by omega)
          go_wp2_with fail
          refine Calls.mono KPb.out (fun e w5 hp5 => ?_)
          obtain ⟨v5, rfl, hO5, hb5⟩ := hp5
          have KO5 := Kept.mk (hO5.mono KBl1.out.size)
          have KB5 := Kept.mk (KBl1.out.trans (hb5.mono KBl1.out.size))
          clear hO5 hb5
          go_wp2
          go_roundw
          case rel => exact ⟨q + 1, by omega, by go_num, by rw [KSt.out, ← List.append_assoc, KZ.out]; exact KO5.out, KB5.out⟩
          case measure => simp [intOf]; omega
    · have hqi : ¬ (q : Int) < 256 := by omega
      have Kq : Kept (q = 256) := ⟨by omega⟩
      have KXl : Kept ((headB ++ fanB rs q).length = 1032) := ⟨by rw [List.length_append, hlen, Kq.out]; rfl⟩
      have KXA : Kept (AllB (headB ++ fanB rs q)) := ⟨headB_allB.append (KFb.out _)⟩
      generalize hX : headB ++ fanB rs q = X at *
      have KX : Kept (headB ++ fanB rs 256 = X) := ⟨by rw [← hX, Kq.out]⟩
      clear hX hlen hbel1 hlq hq
      go_wp2_with fail
      clear hqi
      go_loopw [7, 49] (fun pv iv wr => ∃ k : Nat, k ≤ rs.length ∧ iv = .int .i64 k ∧ Own .u8 5 wr w1.heap.size pv (X ++ idsB rs k) ∧ Below w1.heap.size w1 wr) (fun _ iv _ => rs.length - (intOf iv).toNat)
      case atStart => exact ⟨0, Nat.zero_le _, rfl, by simpa [idsB, accL] using KOw.out, KBq.out⟩
      case round =>
        clear KOw KBq
        obtain ⟨k, hk, rfl, how, hbel1⟩ := hrel
        have hbel := KBw.out _ hbel1
        have KOw := Kept.mk how
        have KBq := Kept.mk hbel1
        obtain ⟨oa, oc, rfl, -, -, -⟩ := how.rd.form
        have hlen := idsB_len KK.out hk
        by_cases hlt : k < rs.length
        · obtain ⟨b, off, rfl, hbl, hrg⟩ := KR.out (by omega)
          have hoR := rowI_ok KK.out hlt
          have hR : Kept (wr.rangeAt b (off + k * 34) (rowI rs k).l) := ⟨fun j u hu => by
            rw [hbel.cell (p := ⟨b, off + k * 34 + j, none⟩) hbl]
            exact hrg k hlt j u hu⟩
          obtain ⟨w2, hw2, hB2, hlt2, hh2, hcI, hcC, hcP, hRI⟩ := box_row wr 42 hoR
          have KL2 := Kept.mk (row_size hoR)
          have KI2 : Kept ((Tryd.prog.info? 42).map (·.size) = some (rowI rs k).l.toArray.size) := ⟨by rw [KL2.out]; exact info_row2⟩
          have KI : Kept ((Tryd.prog.info? 42).map (·.size) = some (rowI rs k).l.length) := ⟨by rw [RowC.len hoR]; exact info_row2⟩
          have KO : Kept ((rowI rs k).l.toArray.all (·.oneCell') = true) := ⟨all_oneCell_toArray (RowC.ones _)⟩
          have hki : (k : Int) < (rs.length : Int) := by omega
          have e2 : IntKind.i64.wrap ((k : Int) + 1) = (k : Int) + 1 := wr64 (by omega) (by omega)
          have KB2 := Kept.mk (hbel.trans (hB2.mono hbel.size))
          have hid : w2.rangeAt wr.heap.size 0 (cellsK .u8 (rowI rs k).ids) := row_range32 fun j u hu => by
            rw [Nat.zero_add, cell_of_row w2 _ j _ _ (0, 0) hh2]
            simpa using hu
          have KId := Kept.mk hid
          have KIi := Kept.mk (id_infoL hoR.1)
          have KJL : Kept ((cellsK .u8 (rowI rs k).ids).toArray.size = 32) := ⟨by rw [List.size_toArray, cellsK_length, hoR.1]⟩
          have KJ2 : Kept ((Tryd.prog.info? 24).map (·.size) = some (cellsK .u8 (rowI rs k).ids).toArray.size) := ⟨by rw [KJL.out]; exact info_id⟩
          have KJO := Kept.mk (cellsK_all .u8 (rowI rs k).ids)
          obtain ⟨w3, hw3, hB3, -, hbk3⟩ := box_id w2 (rowI rs k).ids
          have KRI : Kept (Rd .u8 anyB w3 (.slice (some ⟨w2.heap.size, 0, none⟩) 32 32) (rowI rs k).ids) := ⟨by
            have := hbk3.rd (by rw [hoR.1]; omega)
            rwa [hoR.1] at this⟩
          have hB23 := hB2.trans (hB3.mono hB2.size)
          have KO3 := Kept.mk (how.later hB23 (Nat.le_refl _))
          have hB13 := hbel1.trans (hB23.mono hbel1.size)
          have KB3 := Kept.mk hB13
          have hs3 : w1.heap.size ≤ w3.heap.size := hB13.size
          have KLn : Kept (((X ++ idsB rs k).length + (rowI rs k).ids.length) * 1 ≤ 140737488355328) := ⟨by rw [List.length_append, hlen, hoR.1, KXl.out]; omega⟩
          have KSt : Kept (X ++ idsB rs (k + 1) = X ++ idsB rs k ++ (rowI rs k).ids) := ⟨by rw [idsB, accL_succ, List.append_assoc]; rfl⟩
          clear hrg hoR hB2 hh2 hcI hcC hcP hRI hbel hbel1 how hid hB3 hbk3 hB23 hB13 hlen
          generalize X ++ idsB rs k = Z at *
          generalize (rowI rs k).l = CL at *
          generalize cellsK .u8 (rowI rs k).ids = IL at *
          generalize (rowI rs k).ids = I at *
          go_wp2_with (first | (refine wpList_load_mid rfl 42 _ rfl b (off + k * 34) rfl CL _ hR.out Tryd.underlying42 rfl KI.out ?_) | (refine BigFrame.wpList_want rfl (fun K hK => wp_store_row 42 _ _ rfl wr.heap.size CL.toArray rfl rfl 42 _ (heap_alloc_new wr _) KI2.out (by rw [KL2.out]; rfl) KO.out (hK _ _ ?_)); rw [World.setRow_alloc_new]) | (refine wpList_load_mid rfl 24 _ rfl wr.heap.size 0 rfl IL _ KId.out Tryd.underlying24 rfl KIi.out ?_) | (refine BigFrame.wpList_want rfl (fun K hK => wp_store_row 24 _ _ rfl w2.heap.size IL.toArray rfl rfl 24 _ (heap_alloc_new w2 _) KJ2.out (by rw [KJL.out]; rfl) KJO.out (hK _ _ ?_)); rw [World.setRow_alloc_new]) | (at_builtin; refine wpList_append_rd _ rfl _ _ 22 rfl .u8 anyB 1 w1.heap.size 5 i0 z0 Tryd.underlying22 hi hz hs hb0 hc (by omega) (.slice oa Z.length oc) Z rfl KO3.out _ I rfl KRI.out KLn.out hs3 ?_; intro v4 w4 hown hgrow hat2; have KO_w4 := Kept.mk hown; have KG_w4 := Kept.mk hgrow; clear hown hgrow hat2))
          go_roundw
          case rel => exact ⟨k + 1, by omega, by go_num, by rw [KSt.out]; exact KO_w4.out, KB3.out.trans ((Below.refl _ w3).grown KG_w4.out hs3 (fun g hg => (KO3.out.lt g hg).1))⟩
          case measure => simp [intOf]; omega
        · have hki : ¬ (k : Int) < (rs.length : Int) := by omega
          obtain rfl : k = rs.length := by omega
          have hYl : (X ++ idsB rs rs.length).length ≤ 140000 := by rw [List.length_append, hlen, KXl.out]; omega
          have KYA : Kept (AllB (X ++ idsB rs rs.length)) := ⟨KXA.out.append (accL_allB _ _ fun i hi => (rowI_ok KK.out hi).2.1)⟩
          generalize hY : X ++ idsB rs rs.length = Y at *
          have KY := Kept.mk hY
          have KYl := Kept.mk hYl
          clear hY hYl hlen hbel1 how hbel
          go_wp2_with fail
          go_loopw [7, 61] (fun pv iv wr => ∃ k : Nat, k ≤ rs.length ∧ iv = .int .i64 k ∧ Own .u8 5 wr w1.heap.size pv (Y ++ crcB rs k) ∧ Below w1.heap.size w1 wr) (fun _ iv _ => rs.length - (intOf iv).toNat)
          case atStart => exact ⟨0, Nat.zero_le _, rfl, by simpa [crcB, accL] using KOw.out, KBq.out⟩
          case round =>
            clear KOw KBq hki
            obtain ⟨k, hk, rfl, how, hbel1⟩ := hrel
            have hbel := KBw.out _ hbel1
            have KOw := Kept.mk how
            have KBq := Kept.mk hbel1
            obtain ⟨oa, oc, rfl, -, -, -⟩ := how.rd.form
            have hlen := crcB_len rs k
            have KAc : Kept (AllB (Y ++ crcB rs k)) := ⟨KYA.out.append (accL_allB _ _ fun _ _ => bigF_allB _ _)⟩
            by_cases hlt : k < rs.length
            · obtain ⟨b, off, rfl, hbl, hrg⟩ := KR.out (by omega)
              have hoR := rowI_ok KK.out hlt
              have hR : Kept (wr.rangeAt b (off + k * 34) (rowI rs k).l) := ⟨fun j u hu => by
                rw [hbel.cell (p := ⟨b, off + k * 34 + j, none⟩) hbl]
                exact hrg k hlt j u hu⟩
              obtain ⟨w2, hw2, hB2, hlt2, hh2, hcI, hcC, hcP, hRI⟩ := box_row wr 42 hoR
              have KL2 := Kept.mk (row_size hoR)
              have KI2 : Kept ((Tryd.prog.info? 42).map (·.size) = some (rowI rs k).l.toArray.size) := ⟨by rw [KL2.out]; exact info_row2⟩
              have KI : Kept ((Tryd.prog.info? 42).map (·.size) = some (rowI rs k).l.length) := ⟨by rw [RowC.len hoR]; exact info_row2⟩
              have KO : Kept ((rowI rs k).l.toArray.all (·.oneCell') = true) := ⟨all_oneCell_toArray (RowC.ones _)⟩
              have hki : (k : Int) < (rs.length : Int) := by omega
              have e2 : IntKind.i64.wrap ((k : Int) + 1) = (k : Int) + 1 := wr64 (by omega) (by omega)
              have KB2 := Kept.mk (hbel.trans (hB2.mono hbel.size))
              have hO2 := how.later hB2 (Nat.le_refl _)
              have hB12 := hbel1.trans (hB2.mono hbel1.size)
              have hcr := hoR.2.2.1
              have hcr2 := hoR.2.2.2.1
              have KPb := Kept.mk (refPut _ _ (rowI rs k).crc 4 w2 hO2.rd KAc.out hcr (by omega) (by omega) (by omega) (by rw [List.length_append, hlen]; have := KYl.out; omega))
              have KB12 := Kept.mk hB12
              have KSt : Kept (Y ++ crcB rs (k + 1) = Y ++ crcB rs k ++ Nu.bigF 4 (rowI rs k).crc) := ⟨by rw [crcB, accL_succ, List.append_assoc]; rfl⟩
              clear hrg hoR hB2 hh2 hcI hcP hRI hbel hbel1 how hO2 hB12 hlen KAc
              generalize Y ++ crcB rs k = Z at *
              generalize (rowI rs k).l = CL at *
              generalize (rowI rs k).crc = cr at *
              have e5 : IntKind.u64.wrap cr = cr := wru64 (by omega) (by omega)
              go_wp2_with (first | (refine wpList_load_mid rfl 42 _ rfl b (off + k * 34) rfl CL _ hR.out Tryd.underlying42 rfl KI.out ?_) | (refine BigFrame.wpList_want rfl (fun K hK => wp_store_row 42 _ _ rfl wr.heap.size CL.toArray rfl rfl 42 _ (heap_alloc_new wr _) KI2.out (by rw [KL2.out]; rfl) KO.out (hK _ _ ?_)); rw [World.setRow_alloc_new]))
              refine Calls.mono KPb.out (fun e w5 hp5 => ?_)
              obtain ⟨v5, rfl, hO5, hb5⟩ := hp5
              have KO5 := Kept.mk (hO5.mono KB12.out.size)
              have KB5 := Kept.mk (KB12.out.trans (hb5.mono KB12.out.size))
              clear hO5 hb5
              go_wp2
              go_roundw
              case rel => exact ⟨k + 1, by omega, by go_num, by rw [KSt.out]; exact KO5.out, KB5.out⟩
              case measure => simp [intOf]; omega
            · have hki : ¬ (k : Int) < (rs.length : Int) := by omega
              obtain rfl : k = rs.length := by omega
              have hTl : (Y ++ crcB rs rs.length).length ≤ 160000 := by rw [List.length_append, hlen]; have := KYl.out; omega
              generalize hT : Y ++ crcB rs rs.length = T at *
              have KT := Kept.mk hT
              have KTl := Kept.mk hTl
              clear hT hTl hlen hbel1 how hbel
              go_wp2_with fail
              go_loopw [7, 17, 73] (fun pv fv iv wr => ∃ k : Nat, k ≤ rs.length ∧ iv = .int .i64 k ∧ Own .u8 5 wr w1.heap.size pv (T ++ accL (shortI rs bs) k) ∧ Own .u64 37 wr w1.heap.size fv (farL rs bs k) ∧ Below w1.heap.size w1 wr) (fun _ _ iv _ => rs.length - (intOf iv).toNat)
              case atStart => exact ⟨0, Nat.zero_le _, rfl, by simpa [accL] using KOw.out, Own.nil _ _ _ _, KBq.out⟩
              case round =>
                clear KOw KBq hki
                obtain ⟨k, hk, rfl, how, hfw, hbel1⟩ := hrel
                have hbel := KBw.out _ hbel1
                have KOw := Kept.mk how
                have KFw := Kept.mk hfw
                have KBq := Kept.mk hbel1
                obtain ⟨oa, oc, rfl, -, -, -⟩ := how.rd.form
                obtain ⟨fa, fc, rfl, -, -, -⟩ := hfw.rd.form
                have hlen := shorts_len rs bs k
                have hfl := farL_len rs bs k
                have hnl := nl_le bs k
                have KAt : Kept (AllB (T ++ accL (shortI rs bs) k)) := ⟨KAc.out.append (accL_allB _ _ fun _ _ => bigF_allB _ _)⟩
                by_cases hlt : k < rs.length
                · obtain ⟨b, off, rfl, hbl, hrg⟩ := KR.out (by omega)
                  have hoR := rowI_ok KK.out hlt
                  have hR : Kept (wr.rangeAt b (off + k * 34) (rowI rs k).l) := ⟨fun j u hu => by
                    rw [hbel.cell (p := ⟨b, off + k * 34 + j, none⟩) hbl]
                    exact hrg k hlt j u hu⟩
                  obtain ⟨w2, hw2, hB2, hlt2, hh2, hcI, hcC, hcP, hRI⟩ := box_row wr 42 hoR
                  have KL2 := Kept.mk (row_size hoR)
                  have KI2 : Kept ((Tryd.prog.info? 42).map (·.size) = some (rowI rs k).l.toArray.size) := ⟨by rw [KL2.out]; exact info_row2⟩
                  have KI : Kept ((Tryd.prog.info? 42).map (·.size) = some (rowI rs k).l.length) := ⟨by rw [RowC.len hoR]; exact info_row2⟩
                  have KO : Kept ((rowI rs k).l.toArray.all (·.oneCell') = true) := ⟨all_oneCell_toArray (RowC.ones _)⟩
                  have hki : (k : Int) < (rs.length : Int) := by omega
                  have e2 : IntKind.i64.wrap ((k : Int) + 1) = (k : Int) + 1 := wr64 (by omega) (by omega)
                  have KB2 := Kept.mk (hbel.trans (hB2.mono hbel.size))
                  obtain ⟨b2, off2, rfl, hbl2, hbc⟩ := KBd.out (by rw [KHl.out]; omega)
                  have hkb : (k : Int) < (bs.length : Int) := by rw [KHl.out]; omega
                  have hcB : w2.cell? ⟨b2, off2 + k, none⟩ = some (.bool (lng bs k)) := by
                    rw [(hbel.trans (hB2.mono hbel.size)).cell (p := ⟨b2, off2 + k, none⟩) hbl2]
                    exact hbc k (by rw [KHl.out]; exact hlt)
                  have hO2 := how.later hB2 (Nat.le_refl _)
                  have hF2 := hfw.later hB2 (Nat.le_refl _)
                  have hB12 := hbel1.trans (hB2.mono hbel1.size)
                  have hy := hoR.2.2.2.2
                  have KSt : Kept (accL (shortI rs bs) (k + 1) = accL (shortI rs bs) k ++ Nu.bigF 4 (if lng bs k = true then 2147483648 + (nl bs k : Int) else (rowI rs k).pl)) := ⟨accL_succ _ _⟩
                  have KSf := Kept.mk (farL_succ rs bs k)
                  have KPb : Kept (∀ x : Int, 0 ≤ x → x < 18446744073709551616 → Calls Tryd.prog 49 #[.slice oa (T ++ accL (shortI rs bs) k).length oc, .int .u64 x, .int .i64 4] w2 fun e w' => ∃ v', e = .returned v' ∧ Own .u8 5 w' w2.heap.size v' (T ++ accL (shortI rs bs) k ++ Nu.bigF 4 x) ∧ Below w2.heap.size w2 w') := ⟨fun x h0 h1 => refPut _ _ x 4 w2 hO2.rd KAt.out h0 h1 (by omega) (by omega) (by rw [List.length_append, hlen]; have := KTl.out; omega)⟩
                  have KF2 := Kept.mk hF2
                  have KB12 := Kept.mk hB12
                  have KFl : Kept (((farL rs bs k).length + 1) * 8 ≤ 140737488355328) := ⟨by rw [hfl]; omega⟩
                  clear hrg hoR hB2 hh2 hcI hcC hRI hbel hbel1 how hfw hO2 hF2 hB12 hlen hbc KAt
                  by_cases hlg : lng bs k = true
                  · rw [hlg] at hcB
                    rw [if_pos hlg] at KSt KSf
                    have q1 : (((farL rs bs k).length : Nat) : Int) = (nl bs k : Int) := by rw [hfl]
                    clear hfl hlg
                    generalize nl bs k = nq at *
                    generalize hZ : T ++ accL (shortI rs bs) k = Z at *
                    have KZ := Kept.mk hZ
                    clear hZ
                    generalize farL rs bs k = F at *
                    generalize (rowI rs k).l = CL at *
                    generalize (rowI rs k).pl = y at *
                    have e3 : IntKind.u64.wrap (nq : Int) = (nq : Int) := wru64 (by omega) (by omega)
                    have e4 : IntKind.u64.wrap (2147483648 + (nq : Int)) = 2147483648 + (nq : Int) := wru64 (by omega) (by omega)
                    have KPc := Kept.mk (KPb.out (2147483648 + (nq : Int)) (by omega) (by omega))
                    clear KPb
                    go_wp2_with (first | (refine wpList_load_mid rfl 42 _ rfl b (off + k * 34) rfl CL _ hR.out Tryd.underlying42 rfl KI.out ?_) | (refine BigFrame.wpList_want rfl (fun K hK => wp_store_row 42 _ _ rfl wr.heap.size CL.toArray rfl rfl 42 _ (heap_alloc_new wr _) KI2.out (by rw [KL2.out]; rfl) KO.out (hK _ _ ?_)); rw [World.setRow_alloc_new]))
                    refine Calls.mono KPc.out (fun e w5 hp5 => ?_)
                    obtain ⟨v5, rfl, hO5, hb5⟩ := hp5
                    obtain ⟨w6, hw6⟩ : ∃ w6, w5.alloc (.cells #[.int .u64 y] 37) = w6 := ⟨_, rfl⟩
                    have hR6 : Rd .u64 (fun b => (Value.slice (some ⟨w5.heap.size, 0, none⟩) 1 1).ownBlock = some b) w6 (.slice (some ⟨w5.heap.size, 0, none⟩) 1 1) [y] := by rw [← hw6]; exact (Own.made1 .u64 w5 y 37).rd
                    have hB56 : Below w5.heap.size w5 w6 := by rw [← hw6]; exact (Below.refl _ _).alloc (Nat.le_refl _) _
                    have KR6 := Kept.mk hR6
                    have hcP5 := (hb5.cell (p := ⟨wr.heap.size, 33, none⟩) hlt2).trans hcP
                    have KO6 := Kept.mk (hO5.later hB56 (Nat.le_refl _))
                    have hb26 := hb5.trans (hB56.mono hb5.size)
                    have KF6 := Kept.mk (KF2.out.later hb26 (Nat.le_refl _))
                    have KB6 := Kept.mk (KB12.out.trans (hb26.mono KB12.out.size))
                    have hs6 : w1.heap.size ≤ w6.heap.size := KB6.out.size
                    clear hO5 hb5 hR6 hB56 hb26
                    go_wp2_with (at_builtin; refine wpList_append_rd _ rfl _ _ 79 rfl .u64 _ 8 w1.heap.size 37 i6 z6 Tryd.underlying79 hi6 hz6 hsz6 hb6 hc6 (by omega) (.slice fa F.length fc) F rfl KF6.out _ [y] rfl KR6.out KFl.out hs6 ?_; intro v7 w7 hown hgrow hat2; have KO7 := Kept.mk hown; have KG7 := Kept.mk hgrow; clear hown hgrow hat2)
                    have KP7 : Kept (Own .u8 5 w7 w1.heap.size v5 (Z ++ Nu.bigF 4 (2147483648 + (nq : Int)))) := ⟨(KO6.out.far fun g hg => KG7.out.block g (KO6.out.lt g hg).2 (fun e => by
                      have h1 := (KO6.out.lt g hg).1
                      have h2 := (KF2.out.lt g e.symm).2
                      omega)).mono KB12.out.size⟩
                    go_roundw
                    case rel => exact ⟨k + 1, by omega, by go_num, by rw [KSt.out, ← List.append_assoc, KZ.out]; exact KP7.out, by rw [KSf.out]; exact KO7.out, KB6.out.trans ((Below.refl _ w6).grown KG7.out hs6 (fun g hg => (KF6.out.lt g hg).1))⟩
                    case measure => simp [intOf]; omega
                  · have hlg2 : lng bs k = false := by simpa using hlg
                    rw [hlg2] at hcB
                    rw [if_neg hlg] at KSt KSf
                    clear hfl hlg hlg2
                    generalize hZ : T ++ accL (shortI rs bs) k = Z at *
                    have KZ := Kept.mk hZ
                    clear hZ
                    generalize farL rs bs k = F at *
                    generalize (rowI rs k).l = CL at *
                    generalize (rowI rs k).pl = y at *
                    have KPc := Kept.mk (KPb.out y hy.1 hy.2)
                    clear KPb
                    go_wp2_with (first | (refine wpList_load_mid rfl 42 _ rfl b (off + k * 34) rfl CL _ hR.out Tryd.underlying42 rfl KI.out ?_) | (refine BigFrame.wpList_want rfl (fun K hK => wp_store_row 42 _ _ rfl wr.heap.size CL.toArray rfl rfl 42 _ (heap_alloc_new wr _) KI2.out (by rw [KL2.out]; rfl) KO.out (hK _ _ ?_)); rw [World.setRow_alloc_new]))
                    refine Calls.mono KPc.out (fun e w5 hp5 => ?_)
                    obtain ⟨v5, rfl, hO5, hb5⟩ := hp5
                    have KO5 := Kept.mk (hO5.mono KB12.out.size)
                    have KF5 := Kept.mk (KF2.out.later hb5 (Nat.le_refl _))
                    have KB5 := Kept.mk (KB12.out.trans (hb5.mono KB12.out.size))
                    clear hO5 hb5
                    go_wp2
                    go_roundw
                    case rel => exact ⟨k + 1, by omega, by go_num, by rw [KSt.out, ← List.append_assoc, KZ.out]; exact KO5.out, by rw [KSf.out, List.append_nil]; exact KF5.out, KB5.out⟩
                    case measure => simp [intOf]; omega
                · have hki : ¬ (k : Int) < (rs.length : Int) := by omega
                  obtain rfl : k = rs.length := by omega
                  have hUl : (T ++ accL (shortI rs bs) rs.length).length ≤ 180000 := by rw [List.length_append, hlen]; have := KTl.out; omega
                  have KFar := Kept.mk (far_longs rs bs rs.length)
                  have KFr := Kept.mk (farL_range KK.out bs rs.length (Nat.le_refl _))
                  have hFl : (farL rs bs rs.length).length ≤ 4096 := by omega
                  generalize hU : T ++ accL (shortI rs bs) rs.length = U at *
                  generalize farL rs bs rs.length = F at *
                  have KU := Kept.mk hU
                  have KUl := Kept.mk hUl
                  clear hU hUl hlen hfl hnl hbel1 how hfw hbel
                  go_wp2_with fail
                  go_loopw [7, 100] (fun pv iv wr => ∃ k : Nat, k ≤ F.length ∧ iv = .int .i64 k ∧ Own .u8 5 wr w1.heap.size pv (U ++ farB F k) ∧ Own .u64 37 wr w1.heap.size (.slice fa F.length fc) F ∧ Below w1.heap.size w1 wr) (fun _ iv _ => F.length - (intOf iv).toNat)
                  case atStart => exact ⟨0, Nat.zero_le _, rfl, by simpa [farB, accL] using KOw.out, KFw.out, KBq.out⟩
                  case round =>
                    clear KOw KBq KFw hki
                    obtain ⟨k, hk, rfl, how, hfw, hbel1⟩ := hrel
                    have KOw := Kept.mk how
                    have KFw := Kept.mk hfw
                    have KBq := Kept.mk hbel1
                    obtain ⟨oa, oc, rfl, -, -, -⟩ := how.rd.form
                    have hlen : (farB F k).length = 8 * k := accL_len _ 8 k fun _ _ => Nu.bigF_length _ _
                    have KAu : Kept (AllB (U ++ farB F k)) := ⟨KAt.out.append (accL_allB _ _ fun _ _ => bigF_allB _ _)⟩
                    by_cases hlt : k < F.length
                    · have hki : (k : Int) < (F.length : Int) := by omega
                      obtain ⟨a3, c3, hv3, -, -, -, h53⟩ := hfw.rd
                      have hfa : fa = a3 := by injection hv3
                      clear hv3
                      obtain ⟨b3, o3, rfl, hbl3, -, hc3⟩ := h53 (by omega)
                      subst hfa
                      have hcF := hc3 k hlt
                      have hy := KFr.out (F.getD k 0) (by simp [List.getD, List.getElem?_eq_getElem hlt])
                      have KPb := Kept.mk (refPut _ _ (F.getD k 0) 8 wr how.rd KAu.out hy.1 hy.2 (by omega) (by omega) (by rw [List.length_append, hlen]; have := KUl.out; omega))
                      have KSt : Kept (U ++ farB F (k + 1) = U ++ farB F k ++ Nu.bigF 8 (F.getD k 0)) := ⟨by rw [farB, accL_succ, List.append_assoc]; rfl⟩
                      have e2 : IntKind.i64.wrap ((k : Int) + 1) = (k : Int) + 1 := wr64 (by omega) (by omega)
                      clear h53 hc3 how hfw hbel1 hlen KAu
                      generalize U ++ farB F k = Z at *
                      generalize F.getD k 0 = y at *
                      go_wp2_with fail
                      refine Calls.mono KPb.out (fun e w5 hp5 => ?_)
                      obtain ⟨v5, rfl, hO5, hb5⟩ := hp5
                      have KO5 := Kept.mk (hO5.mono KBq.out.size)
                      have KF5 := Kept.mk (KFw.out.later hb5 (Nat.le_refl _))
                      have KB5 := Kept.mk (KBq.out.trans (hb5.mono KBq.out.size))
                      clear hO5 hb5
                      go_wp2
                      go_roundw
                      case rel => exact ⟨k + 1, by omega, by go_num, by rw [KSt.out]; exact KO5.out, KF5.out, KB5.out⟩
                      case measure => simp [intOf]; omega
                    · have hki : ¬ (k : Int) < (F.length : Int) := by omega
                      obtain rfl : k = F.length := by omega
                      have hVl : (U ++ farB F F.length).length ≤ 1000000 := by rw [List.length_append, hlen]; have := KUl.out; omega
                      have KBody : Kept (bodyL rs bs pk = U ++ farB F F.length ++ pk) := ⟨by rw [KFar.out, ← KU.out, ← KT.out, ← KY.out, ← KX.out]; rfl⟩
                      have KAll := Kept.mk (bodyL_allB KK.out bs KA.out)
                      have hP7 : Rd .u8 anyB wr (.slice (some ⟨w.heap.size, 0, none⟩) 32 32) pk := by
                        have := (KP1.out.far hbel1 KP1.out.lt).rd (by omega)
                        rwa [hp] at this
                      have KP7 := Kept.mk hP7
                      have hsz7 : w1.heap.size ≤ wr.heap.size := hbel1.size
                      generalize U ++ farB F F.length = V at *
                      have KVl : Kept ((V.length + pk.length) * 1 ≤ 140737488355328) := ⟨by omega⟩
                      have hV2 : V.length + 32 ≤ 1000032 := by omega
                      clear hP7 hbel1 how hfw hlen hVl KAu
                      go_wp2_with (at_builtin; refine wpList_append_rd _ rfl _ _ 22 rfl .u8 anyB 1 w1.heap.size 5 i0 z0 Tryd.underlying22 hi hz hs hb0 hc (by omega) (.slice oa V.length oc) V rfl KOw.out _ pk rfl KP7.out KVl.out hsz7 ?_; intro v8 w8 hown hgrow hat2; have KO_w8 := Kept.mk hown; have KG_w8 := Kept.mk hgrow; clear hown hgrow hat2)
                      have hb78 : Below w1.heap.size wr w8 := (Below.refl _ wr).grown KG_w8.out hsz7 (fun g hg => (KOw.out.lt g hg).1)
                      have hB18 := KBq.out.trans (hb78.mono (Nat.le_refl _))
                      have hW : Own .u8 5 w8 w1.heap.size v8 (bodyL rs bs pk) := KO_w8.out.eq KBody.out.symm
                      have hlW : (bodyL rs bs pk).length ≤ 1000032 := by rw [KBody.out, List.length_append, hp]; omega
                      have KSl := Kept.mk (sumB_length (bodyL rs bs pk))
                      have KSu : Kept (Calls Tryd.prog 26 #[v8] w8 fun e w' => e = .returned (.agg (cellsK .u8 (sumB (bodyL rs bs pk))).toArray) ∧ Below w8.heap.size w8 w') := Kept.mk (Sh.rsum_any v8 (bodyL rs bs pk) w8 (shRd hW.rd KAll.out))
                      have KFin : Kept (buildL rs bs pk = bodyL rs bs pk ++ sumB (bodyL rs bs pk)) := ⟨rfl⟩
                      generalize sumB (bodyL rs bs pk) = D at *
                      generalize bodyL rs bs pk = W0 at *
                      obtain ⟨a8, c8, rfl, -, -, -⟩ := hW.rd.form
                      have KW8 := Kept.mk hW
                      have KB18 := Kept.mk hB18
                      have hsz8 : w1.heap.size ≤ w8.heap.size := hB18.size
                      clear hW hb78 hB18 KO_w8 KAll
                      go_wp2_with fail
                      refine Calls.mono KSu.out (fun e w9 hp9 => ?_)
                      obtain ⟨rfl, hB9⟩ := hp9
                      obtain ⟨w10, hw10, hB10, -, hbk10⟩ := box_id w9 D
                      have KJL : Kept ((cellsK .u8 D).toArray.size = 32) := ⟨by rw [List.size_toArray, cellsK_length, KSl.out]⟩
                      have KJ2 : Kept ((Tryd.prog.info? 24).map (·.size) = some (cellsK .u8 D).toArray.size) := ⟨by rw [KJL.out]; exact info_id⟩
                      have KJO := Kept.mk (cellsK_all .u8 D)
                      have KY10 := Kept.mk ((KW8.out.later hB9 (Nat.le_refl _)).later hB10 (Nat.le_refl _))
                      have hD10 : Rd .u8 anyB w10 (.slice (some ⟨w9.heap.size, 0, none⟩) 32 32) D := by
                        have := hbk10.rd (by rw [KSl.out]; omega)
                        rwa [KSl.out] at this
                      have KD10 := Kept.mk hD10
                      have hB110 := (KB18.out.trans (hB9.mono KB18.out.size)).trans (hB10.mono (Nat.le_trans KB18.out.size hB9.size))
                      have KB110 := Kept.mk hB110
                      have hsz10 : w1.heap.size ≤ w10.heap.size := hB110.size
                      have KX2 : Kept ((W0.length + D.length) * 1 ≤ 140737488355328) := ⟨by rw [KSl.out]; omega⟩
                      clear hB9 hB10 hbk10 hD10 hB110
                      generalize hcd : (cellsK .u8 D).toArray = CD at *
                      clear hcd
                      go_wp2_with (first | (refine BigFrame.wpList_want rfl (fun K hK => wp_store_row 24 _ _ rfl w9.heap.size CD rfl rfl 24 _ (heap_alloc_new w9 _) KJ2.out (by rw [KJL.out]; rfl) KJO.out (hK _ _ ?_)); rw [World.setRow_alloc_new]) | (at_builtin; refine wpList_append_rd _ rfl _ _ 22 rfl .u8 anyB 1 w1.heap.size 5 i0 z0 Tryd.underlying22 hi hz hs hb0 hc (by omega) (.slice a8 W0.length c8) W0 rfl KY10.out _ D rfl KD10.out KX2.out hsz10 ?_; intro v11 w11 hown hgrow hat2; have KO_w11 := Kept.mk hown; have KG_w11 := Kept.mk hgrow; clear hown hgrow hat2))
                      go_ret
                      have hb1011 : Below w1.heap.size w10 w11 := (Below.refl _ w10).grown KG_w11.out hsz10 (fun g hg => (KY10.out.lt g hg).1)
                      exact ⟨v11, rfl, (KO_w11.out.eq KFin.out.symm).mono KB1.out.size, KBw.out _ (KB110.out.trans (hb1011.mono (Nat.le_refl _)))⟩
end Go.Proofs.YtgoegmaepafopaaDoor
