/-
  Walks: the document's DocBuild. (By tools/gen_pxr8.py.)
-/
import Derived.Test.YtnflfkmmkejkpaaDoorR7
import Derived.Deep.RegionHeld3
import Derived.Test.YtnflfkmmkejkpaaDoorShF
import Derived.Deep.Slices
import Derived.WideKeyArr2
namespace Go.Proofs.YtnflfkmmkejkpaaDoor
open Go.RowKit Go.Sort

/-- A row of truths in a block of its own. -/
def BlB (w : World) (g : Nat) (bs : List Bool) : Prop := w.heap[g]? = some (.cells (bs.map Value.bool).toArray 4)
section
variable {w w' : World} {g : Nat} {bs : List Bool}
theorem BlB.lt (h : BlB w g bs) : g < w.heap.size := by
  rcases Nat.lt_or_ge g w.heap.size with h' | h'
  · exact h'
  · unfold BlB at h
    rw [Array.getElem?_eq_none h'] at h
    cases h
theorem BlB.cell (h : BlB w g bs) (i : Nat) (hi : i < bs.length) : w.cell? ⟨g, i, none⟩ = some (.bool (lng bs i)) := by
  unfold BlB at h
  simp [World.cell?, h, lng, List.getD, List.getElem?_eq_getElem hi]
theorem BlB.frozen (h : BlB w g bs) (i : Nat) : w.frozen? ⟨g, i, none⟩ = false := by
  unfold BlB at h
  simp [World.frozen?, h]
theorem BlB.set (h : BlB w g bs) (i : Nat) (b : Bool) : BlB (w.setCell ⟨g, i, none⟩ (.bool b)) g (bs.set i b) := by
  unfold BlB at h ⊢
  simp only [World.setCell, Array.getElem?_modify, h]
  simp [List.map_set]
theorem BlB.later {B : Nat} (h : BlB w g bs) (hb : Below B w w') (hB : w.heap.size ≤ B) : BlB w' g bs := by
  have := h.lt
  unfold BlB at h ⊢
  rw [hb.block g (by omega)]
  exact h
theorem BlB.rd (h : BlB w g bs) (hl : bs.length ≤ 1000000) : RdB w (.slice (some ⟨g, 0, none⟩) bs.length bs.length) bs :=
  ⟨_, bs.length, rfl, Nat.le_refl _, by unfold maxLen; omega, fun _ => ⟨g, 0, rfl, h.lt, fun i hi => by rw [Nat.zero_add]; exact h.cell i hi⟩⟩
end
def lgM (L : List Bool) (k : Nat) : List Bool := (List.range L.length).map fun i => if i < k then lng L i else false
theorem lgM_len (L : List Bool) (k : Nat) : (lgM L k).length = L.length := by simp [lgM]
theorem lgM_zero (L : List Bool) : lgM L 0 = List.replicate L.length false := by
  apply List.ext_getElem
  · simp [lgM]
  · intro i h1 h2
    simp [lgM]
theorem lgM_step (L : List Bool) {k : Nat} : (lgM L k).set k (lng L k) = lgM L (k + 1) := by
  apply List.ext_getElem
  · simp [lgM]
  · intro i h1 h2
    rw [List.getElem_set]
    by_cases hik : k = i
    · subst hik
      simp [lgM]
    · rw [if_neg hik]
      have : (i < k) ↔ (i < k + 1) := by omega
      simp [lgM, this]
theorem lgM_all (L : List Bool) : lgM L L.length = L := by
  apply List.ext_getElem
  · simp [lgM]
  · intro i h1 h2
    simp [lgM, h2, lng_get h2]
set_option maxRecDepth 100000 in
theorem zeroB : ∃ i, Tryd.prog.info? 4 = some i ∧ i.zero = some (.bool false) ∧ i.size = 1 ∧ i.bytes = 1 := ⟨_, rfl, rfl, rfl, rfl⟩
/-- make([]bool, n). -/
theorem wpList_makeB (w : World) {ops : Array Oper} {rest : List Oper} {o : Oper} {a : Act} {Q : Exit → Act → World → Prop} (hg : o.guard = none) (l c : Operand) (hop : o.op = Op.makeSlice 55 l c) (L C : Int) (n : Nat) (hl : a.eval l = .int .i64 L) (hc : a.eval c = .int .i64 C) (hL : L = (n : Int)) (hC : C = (n : Int)) (hn : n ≤ 2000000)
    (hK : ∀ w', BlB w' w.heap.size (List.replicate n false) → w.grownBy w' none → wpList Tryd.prog ops Q rest (a.put o.dst (.slice (some ⟨w.heap.size, 0, none⟩) n n)) w') :
    wpList Tryd.prog ops Q (o :: rest) a w := by
  obtain ⟨i, hi, hz, hs, hb⟩ := zeroB
  refine wpList_make_full w hg l c 55 hop w.heap.size 4 i (.bool false) 1 Tryd.underlying55 hi hz hs .i64 .i64 L C n hl hc hL hC (by rw [hb]; omega) (by unfold maxLen; omega) (Nat.le_refl _) (fun w' ho hgr => hK w' ?_ hgr)
  rcases ho with ⟨h1, h2 | ⟨g, cap, cur, hv, hg2, hh, hnc, hcm, hcs, htake⟩⟩
  · cases h2.1
  · cases hv
    unfold BlB
    rw [hh]
    have e : cur = ((List.replicate n false).map Value.bool).toArray := by
      apply Array.toList_inj.1
      rw [List.take_of_length_le (by rw [Array.length_toList, hcs]; exact Nat.le_refl _)] at htake
      rw [htake]
      have ec : (Value.bool false).cells = #[.bool false] := rfl
      rw [ec, Nat.mul_one]
      unfold madeCells
      rw [Array.toList_map, Array.toList_range, List.map_replicate]
      apply List.ext_getElem
      · simp
      · intro j h1 h2
        simp [Nat.mod_one]
    rw [e]
theorem bld_doc {rs : List RowC} (h : rs.length ≤ 4096) : bldE rs = if twiceB (sortF rs) = true then 8 else 0 := by
  unfold bldE
  rw [if_neg (by omega), twice_rise (sortF_sorted rs)]
  cases riseB (sortF rs) <;> rfl

set_option maxHeartbeats 4000000 in
set_option maxRecDepth 100000 in
theorem docBuildE_any (v : Value) (rs : List RowC) (pk : List Int) (w : World) (hr : RdR w v rs) (hp : pk.length = 32) (hA : AllB pk) :
    Calls Tryd.prog 11 #[v, .agg (cellsK .u8 pk).toArray] w fun e w' => ∃ v', e = .returned (.tuple #[v', .int .i64 (bldE rs)]) ∧ Own .u8 5 w' w.heap.size v' (bldL rs pk) ∧ Below w.heap.size w w' := by
  obtain ⟨w1, hw1, hB1, -, hbk1⟩ := box_id w pk
  have hps : (cellsK .u8 pk).toArray.size = 32 := by rw [List.size_toArray, cellsK_length, hp]
  have hr1 := hr.later hB1 (Nat.le_refl _)
  obtain ⟨a, c, rfl, hlc, hcm, -, -, -⟩ := hr
  have KB1 := Kept.mk hB1
  have KP1 := Kept.mk hbk1
  have KPi := Kept.mk (id_infoL hp)
  have KA := Kept.mk hA
  have KBl : Kept (bldL rs pk = if bldE rs = 0 then buildL (sortF rs) (lngs (sortF rs)) pk else []) := ⟨rfl⟩
  have KEa : Kept (rs.length ≤ 4096 → bldE rs = if twiceB (sortF rs) = true then 8 else 0) := ⟨bld_doc⟩
  have KEb : Kept (¬ rs.length ≤ 4096 → bldE rs = 2) := ⟨fun h => by unfold bldE; rw [if_pos (by omega)]⟩
  clear hB1 hbk1 hA
  generalize bldE rs = E at *
  generalize bldL rs pk = BL at *
  by_cases hl : rs.length ≤ 4096
  · have KE := Kept.mk (KEa.out hl)
    have KSo := Kept.mk (sorted_any _ rs w1 hr1 hl)
    have hli : ¬ (4096 : Int) < (rs.length : Int) := by omega
    have hsl : (sortF rs).length = rs.length := (sortF_perm rs).length_eq
    have Kl : Kept ((sortF rs).length ≤ 4096) := ⟨by omega⟩
    clear hr1 hsl hl KEa KEb
    go_enter Tryd.func11, Tryd.ntmps11
    go_wp2_with fail
    refine Calls.mono KSo.out (fun e w2 hp2 => ?_)
    obtain ⟨v2, rfl, hO2, hb2⟩ := hp2
    have KTw := Kept.mk (twice_any v2 (sortF rs) w2 hO2.rdR (by have := Kl.out; omega))
    have KO2 := Kept.mk hO2
    have KB2 := Kept.mk (KB1.out.trans (hb2.mono KB1.out.size))
    have KP2 := Kept.mk (KP1.out.far hb2 KP1.out.lt)
    generalize twiceB (sortF rs) = tw at *
    generalize sortF rs = ss at *
    obtain ⟨a2, c2, rfl, -⟩ := hO2.rdR
    clear hO2 hb2 KSo hli hw1 KP1 KB1
    go_wp2_with fail
    refine Calls.mono KTw.out (fun e w3 hp3 => ?_)
    obtain ⟨rfl, hb3⟩ := hp3
    have KO3 := Kept.mk (KO2.out.later hb3 (Nat.le_refl _))
    have hB3 := KB2.out.trans (hb3.mono KB2.out.size)
    have KB3 := Kept.mk hB3
    have KP3 := Kept.mk (KP2.out.far hb3 KP2.out.lt)
    clear hb3 hB3 KTw KO2 KB2 KP2
    cases tw with
    | true =>
      have KF : Kept (E = 8) := ⟨by rw [KE.out]; rfl⟩
      go_wp2
      go_ret2
      exact ⟨_, by rw [KF.out]; rfl, by rw [KBl.out, KF.out]; exact Own.nil _ _ _ _, KB3.out⟩
    | false =>
      have KF : Kept (E = 0) := ⟨by rw [KE.out]; rfl⟩
      go_wp2_with (refine wpList_makeB _ rfl _ _ rfl _ _ ss.length rfl rfl rfl rfl (by have := Kl.out; omega) ?_; intro w4 hblb hgrow; have KL4 := Kept.mk hblb; have KG4 := Kept.mk hgrow; clear hblb hgrow)
      have hB34 : Below w3.heap.size w3 w4 := (Below.refl _ w3).grown KG4.out (Nat.le_refl _) (fun k hk => by cases hk)
      have KR4 := KO3.out.rdR
      obtain ⟨a', c', hv', hlc2, hcm2, hac2, hok, hrd⟩ := KR4
      have ha' : a2 = a' ∧ c2 = c' := by
        injection hv' with h1 _ h2
        exact ⟨h1, h2⟩
      obtain ⟨rfl, rfl⟩ := ha'
      clear hv'
      have KR := Kept.mk hrd
      have KK := Kept.mk hok
      have KG := Kept.mk hB34
      have hlg : (lngs ss).length = ss.length := by simp [lngs]
      have KLg := Kept.mk hlg
      have KL0 : Kept (BlB w4 w3.heap.size (lgM (lngs ss) 0)) := ⟨by rw [lgM_zero, hlg]; exact KL4.out⟩
      have hl := Kl.out
      clear hrd hok hB34 hlg KG4 KL4
      go_loopw [22] (fun iv wr => ∃ k : Nat, k ≤ ss.length ∧ iv = .int .i64 k ∧ BlB wr w3.heap.size (lgM (lngs ss) k) ∧ Below w3.heap.size w3 wr) (fun iv _ => ss.length - (intOf iv).toNat)
      case atStart => exact ⟨0, Nat.zero_le _, rfl, KL0.out, KG.out⟩
      case round =>
        clear KL0 KG
        obtain ⟨k, hk, rfl, hbb, hbel⟩ := hrel
        have KBb := Kept.mk hbb
        have KBq := Kept.mk hbel
        by_cases hlt : k < ss.length
        · obtain ⟨b, off, rfl, hbl, hrg⟩ := KR.out (by omega)
          have hoR := rowI_ok KK.out hlt
          have hR : Kept (wr.rangeAt b (off + k * 34) (rowI ss k).l) := ⟨fun j u hu => by
            rw [hbel.cell (p := ⟨b, off + k * 34 + j, none⟩) hbl]
            exact hrg k hlt j u hu⟩
          obtain ⟨w2, hw2, hB2, hlt2, hh2, hcI, hcC, hcP, hRI⟩ := box_row wr 48 hoR
          have KL2 := Kept.mk (row_size hoR)
          have KI2 : Kept ((Tryd.prog.info? 48).map (·.size) = some (rowI ss k).l.toArray.size) := ⟨by rw [KL2.out]; exact info_row2⟩
          have KI : Kept ((Tryd.prog.info? 48).map (·.size) = some (rowI ss k).l.length) := ⟨by rw [RowC.len hoR]; exact info_row2⟩
          have KO : Kept ((rowI ss k).l.toArray.all (·.oneCell') = true) := ⟨all_oneCell_toArray (RowC.ones _)⟩
          have hki : (k : Int) < (ss.length : Int) := by omega
          have e2 : IntKind.i64.wrap ((k : Int) + 1) = (k : Int) + 1 := wr64 (by omega) (by omega)
          have KB2 := Kept.mk (hbel.trans (hB2.mono hbel.size))
          have hkl : k < (lgM (lngs ss) k).length := by rw [lgM_len, KLg.out]; exact hlt
          have hbb2 := hbb.later hB2 (Nat.le_refl _)
          have hcL := hbb2.cell k hkl
          have hfL := hbb2.frozen k
          have hd : decide (2147483648 ≤ (rowI ss k).pl) = lng (lngs ss) k := (lngs_get hlt).symm
          have KSt := Kept.mk (lgM_step (lngs ss) (k := k))
          have KB2' := Kept.mk hbb2
          obtain ⟨w5, hw5⟩ : ∃ w5, w2.setCell ⟨w3.heap.size, k, none⟩ (.bool (lng (lngs ss) k)) = w5 := ⟨_, rfl⟩
          have KB5 : Kept (BlB w5 w3.heap.size (lgM (lngs ss) (k + 1))) := ⟨by rw [← KSt.out, ← hw5]; exact hbb2.set k _⟩
          have KBl5 : Kept (Below w3.heap.size w3 w5) := ⟨by rw [← hw5]; exact KB2.out.setCell (Nat.le_refl _) _⟩
          clear hrg hoR hB2 hh2 hcI hcC hRI hbel hbb hbb2 hkl KSt KB2'
          generalize lng (lgM (lngs ss) k) k = lg0 at *
          generalize lng (lngs ss) k = lg at *
          generalize (rowI ss k).l = CL at *
          generalize (rowI ss k).pl = y at *
          go_wp2_with (first | (refine wpList_load_mid rfl 48 _ rfl b (off + k * 34) rfl CL _ hR.out Tryd.underlying48 rfl KI.out ?_) | (refine BigFrame.wpList_want rfl (fun K hK => wp_store_row 48 _ _ rfl wr.heap.size CL.toArray rfl rfl 48 _ (heap_alloc_new wr _) KI2.out (by rw [KL2.out]; rfl) KO.out (hK _ _ ?_)); rw [World.setRow_alloc_new]))
          go_roundw
          case rel => exact ⟨k + 1, by omega, by go_num, KB5.out, KBl5.out⟩
          case measure => simp [intOf]; omega
        · have hki : ¬ (k : Int) < (ss.length : Int) := by omega
          obtain rfl : k = ss.length := by omega
          have hBb : BlB wr w3.heap.size (lngs ss) := by
            have := lgM_all (lngs ss)
            rw [KLg.out] at this
            rw [← this]
            exact hbb
          have hRb : RdB wr (.slice (some ⟨w3.heap.size, 0, none⟩) ss.length ss.length) (lngs ss) := by
            have := hBb.rd (by rw [KLg.out]; omega)
            rwa [KLg.out] at this
          have hR3 : RdR wr (.slice a2 ss.length c2) ss := KO3.out.rdR.later hbel (Nat.le_refl _)
          have KC := Kept.mk (docBuild_any _ _ ss (lngs ss) pk wr hR3 hRb KLg.out hl hp KA.out)
          have KPr := Kept.mk (KP3.out.far hbel KP3.out.lt).range
          have KBL : Kept (BL = buildL ss (lngs ss) pk) := ⟨by rw [KBl.out, if_pos KF.out]⟩
          have KBw := Kept.mk (KB3.out.trans (hbel.mono KB3.out.size))
          clear hbb hbel hBb hRb hR3
          generalize buildL ss (lngs ss) pk = L at *
          go_wp2_with (refine wpList_load_mid rfl 24 _ rfl w.heap.size 0 rfl (cellsK .u8 pk) _ KPr.out Tryd.underlying24 rfl KPi.out ?_)
          refine Calls.mono KC.out (fun e w9 hp9 => ?_)
          obtain ⟨v9, rfl, hO9, hb9⟩ := hp9
          have KO9 := Kept.mk (hO9.mono KBw.out.size)
          have KB9 := Kept.mk (KBw.out.trans (hb9.mono KBw.out.size))
          clear hO9 hb9 KC
          go_wp2
          go_ret2
          exact ⟨v9, by rw [KF.out]; rfl, by rw [KBL.out]; exact KO9.out, KB9.out⟩
  · have KF : Kept (E = 2) := ⟨KEb.out hl⟩
    clear KEa KEb
    have hli : (4096 : Int) < (rs.length : Int) := by omega
    clear hr1
    go_enter Tryd.func11, Tryd.ntmps11
    go_wp2
    go_ret2
    exact ⟨_, by rw [KF.out]; rfl, by rw [KBl.out, KF.out]; exact Own.nil _ _ _ _, KB1.out⟩

open Go.RowKit Go.Sort

theorem wpAnyH_takeD {P : Program} {md : Region.Mode} {ops : Array Oper} {Q : Exit → Act → World → Prop} {S : World → Prop} {i : Nat} {oi : Oper} {d : Option Tmp} {v : Value} {fuel : Nat} {listed : Array Bool} {a : Act} {w : World} (hi : ops[i]? = some oi) (hd : oi.dst = d)
    (hs : Region.noSelect ops = true) (hf : Region.free md ops listed i = true) (hr : (Region.ready md ops listed).contains i = true)
    (hQ : ∀ c a w, Q (.panic c) (a.put oi.dst v) w → Q (.panic c) a w) (hy : YieldsIf P ops S oi v a) (hS : S w)
    (h : wpAnyH P md ops Q S fuel (listed.setIfInBounds i true) (a.put d v) w) : wpAnyH P md ops Q S (fuel + 1) listed a w := by
  subst hd
  exact wpAnyH_take hi hs hf hr hQ hy hS h
set_option maxHeartbeats 4000000 in
set_option maxRecDepth 100000 in
theorem builds_any (v : Value) (rs : List RowC) (pk : List Int) (w : World) (hT : Sh.Tab w Sh.ksK) (hr : RdR w v rs) (hp : pk.length = 32) (hA : AllB pk) (hl : rs.length ≤ 2932031007317) :
    Calls Tryd.prog 3 #[v, .agg (cellsK .u8 pk).toArray] w fun e w' => e = .returned (.bool true) ∧ Below w.heap.size w w' := by
  obtain ⟨w1, hw1, hB1, -, hbk1⟩ := box_id w pk
  have hps : (cellsK .u8 pk).toArray.size = 32 := by rw [List.size_toArray, cellsK_length, hp]
  have KPi := Kept.mk (id_infoL hp)
  have KA := Kept.mk hA
  have KT := Kept.mk hT
  have KAw := Kept.mk (awake_any w1 (Tab.later hT hB1 (Nat.le_refl _)))
  have KB1 := Kept.mk hB1
  have KP1 := Kept.mk hbk1
  have KBA := Kept.mk (bldL_allB hr.ok hA)
  have KH := Kept.mk hr
  have hu29 := Tryd.underlying24
  obtain ⟨a, c, rfl, -, -, -, -, -⟩ := hr
  clear hB1 hbk1 hA hT
  obtain ⟨IL, hIL⟩ : ∃ IL, cellsK .u8 pk = IL := ⟨_, rfl⟩
  have KIL := Kept.mk hIL
  rw [hIL] at hw1 hps KPi ⊢
  go_enter Tryd.func3, Tryd.ntmps3
  go_wp2_with fail
  refine Calls.mono KAw.out (fun e w2 hp2 => ?_)
  obtain ⟨rfl, hb2⟩ := hp2
  have hB2 := KB1.out.trans (hb2.mono KB1.out.size)
  have KB2 := Kept.mk hB2
  have KR2 := Kept.mk (KH.out.later hB2 (Nat.le_refl _))
  have KRg : Kept (∀ W, Below w2.heap.size w2 W → W.rangeAt w.heap.size 0 IL) := ⟨fun W hW => by
    rw [← hIL]
    exact (KP1.out.far (hb2.trans (hW.mono hb2.size)) KP1.out.lt).range⟩
  clear hb2 hB2 KAw KP1 KB1 KH hw1 hIL
  by_cases h1 : 100 < rs.length
  · have h1i : (100 : Int) < (rs.length : Int) := by omega
    by_cases h2 : rs.length ≤ 4096
    · have h2i : (rs.length : Int) ≤ 4096 := by omega
      go_wp2
      go_ret
      exact ⟨by simp, KB2.out⟩
    · have h2i : ¬ (rs.length : Int) ≤ 4096 := by omega
      clear h1 h2
      have KRg0 := KRg.out w2.drew (Below.refl _ w2).drew
      have KRw := Kept.mk (rows_any _ rs w2.drew (KR2.out.later (Below.refl w2.heap.size w2).drew (Nat.le_refl _)) hl)
      go_wp2_with fail
      refine wp_region_noPanic ?_
      refine wp_region_held_drew (S := fun W => W.rangeAt w.heap.size 0 IL) (by kernel_rfl) KRg0 (fun hHeld => ?_)
      refine wpAnyH_takeD (i := 0) (d := some 20) (v := .slice a rs.length c) rfl rfl (by kernel_rfl) (by kernel_rfl) (by kernel_rfl) (fun _ _ _ h => h) (Or.inl ⟨by rfl, fun W hSw => by (try dsimp only at hSw); go_simp⟩) (by assumption) ?_
      simp only [Act.put, List.setIfInBounds_toArray, List.set_cons_zero, List.set_cons_succ]
      refine wpAnyH_takeD (i := 2) (d := some 22) (v := .agg IL.toArray) rfl rfl (by kernel_rfl) (by kernel_rfl) (by kernel_rfl) (fun _ _ _ h => h) (yieldsIf_load_mid (by rfl) _ _ rfl _ _ rfl IL _ (fun W hSw => hSw) hu29 rfl KPi.out) (by assumption) ?_
      simp only [Act.put, List.setIfInBounds_toArray, List.set_cons_zero, List.set_cons_succ]
      refine wpAnyH_ready (rs := [1]) (by kernel_rfl) (by simp) ?_
      refine AllReadyH.cons (o := _) rfl (fun K hK => ?_) AllReadyH.nil
      go_simp
      refine Calls.mono KRw.out (fun e w3 hp3 => ?_)
      obtain ⟨v3, rfl, hO3, hb3⟩ := hp3
      have hb23 : Below w2.heap.size w2 w3 := (Below.refl _ w2).drew.trans hb3
      have hB3 := KB2.out.trans (hb23.mono KB2.out.size)
      have KC := Kept.mk (build_any v3 rs pk w3 (Tab.later KT.out hB3 (Nat.le_refl _)) hO3.rdR hp KA.out)
      rw [KIL.out] at KC
      have KB3 := Kept.mk hB3
      have KB23 := Kept.mk hb23
      refine hK.out _ _ (KRg.out w3 hb23) (fun hHeld1 => ?_)
      clear hK K hHeld hO3 hb3 hb23 hB3 KRw
      refine wpAnyH_ready (rs := [3]) (by kernel_rfl) (by simp) ?_
      refine AllReadyH.cons (o := _) rfl (fun K hK => ?_) AllReadyH.nil
      go_simp
      refine Calls.mono KC.out (fun e w4 hp4 => ?_)
      obtain ⟨v4, rfl, hO4, hb4⟩ := hp4
      have hb24 := KB23.out.trans (hb4.mono KB23.out.size)
      have KB4 := Kept.mk (KB3.out.trans (hb4.mono KB3.out.size))
      have KO4 := Kept.mk hO4
      have hRg4 := KRg.out w4 hb24
      have KR4 := Kept.mk hRg4
      have KD := Kept.mk (docBuildE_any _ rs pk w4 (KR2.out.later hb24 (Nat.le_refl _)) hp KA.out)
      rw [KIL.out] at KD
      refine hK.out _ _ hRg4 (fun hHeld2 => ?_)
      clear hK K hHeld1 hO4 hb4 hb24 hRg4 KC
      generalize bldE rs = E at *
      refine wpAnyH_takeD (i := 4) (d := some 19) (v := .tuple #[v4, .int .i64 E]) rfl rfl (by kernel_rfl) (by kernel_rfl) (by kernel_rfl) (fun _ _ _ h => h) (Or.inl ⟨by rfl, fun W hSw => by (try dsimp only at hSw); go_simp⟩) (by assumption) ?_
      simp only [Act.put, List.setIfInBounds_toArray, List.set_cons_zero, List.set_cons_succ]
      refine wpAnyH_takeD (i := 5) (d := some 24) (v := v4) rfl rfl (by kernel_rfl) (by kernel_rfl) (by kernel_rfl) (fun _ _ _ h => h) (Or.inl ⟨by rfl, fun W hSw => by (try dsimp only at hSw); go_simp⟩) (by assumption) ?_
      simp only [Act.put, List.setIfInBounds_toArray, List.set_cons_zero, List.set_cons_succ]
      refine wpAnyH_takeD (i := 6) (d := some 25) (v := .int .i64 E) rfl rfl (by kernel_rfl) (by kernel_rfl) (by kernel_rfl) (fun _ _ _ h => h) (Or.inl ⟨by rfl, fun W hSw => by (try dsimp only at hSw); go_simp⟩) (by assumption) ?_
      simp only [Act.put, List.setIfInBounds_toArray, List.set_cons_zero, List.set_cons_succ]
      refine wpAnyH_takeD (i := 7) (d := some 5) (v := v4) rfl rfl (by kernel_rfl) (by kernel_rfl) (by kernel_rfl) (fun _ _ _ h => h) (Or.inl ⟨by rfl, fun W hSw => by (try dsimp only at hSw); go_simp⟩) (by assumption) ?_
      simp only [Act.put, List.setIfInBounds_toArray, List.set_cons_zero, List.set_cons_succ]
      refine wpAnyH_takeD (i := 8) (d := some 6) (v := .int .i64 E) rfl rfl (by kernel_rfl) (by kernel_rfl) (by kernel_rfl) (fun _ _ _ h => h) (Or.inl ⟨by rfl, fun W hSw => by (try dsimp only at hSw); go_simp⟩) (by assumption) ?_
      simp only [Act.put, List.setIfInBounds_toArray, List.set_cons_zero, List.set_cons_succ]
      refine wpAnyH_done (by kernel_rfl) ?_ _
      refine NoPanic.normal ?_
      clear hHeld2
      go_wp2_with (refine wpList_load_mid rfl 24 _ rfl w.heap.size 0 rfl IL _ KR4.out Tryd.underlying24 rfl KPi.out ?_)
      refine Calls.mono KD.out (fun e w5 hp5 => ?_)
      obtain ⟨v5, rfl, hO5, hb5⟩ := hp5
      have KS := Kept.mk (Sh.same_any v4 v5 (bldL rs pk) (bldL rs pk) w5 (shRd (KO4.out.later hb5 (Nat.le_refl _)).rd KBA.out) (shRd hO5.rd KBA.out))
      rw [decide_eq_true rfl] at KS
      have KB5 := Kept.mk (KB4.out.trans (hb5.mono KB4.out.size))
      clear hO5 hb5 KD
      go_wp2_with fail
      refine Calls.mono KS.out (fun e w6 hp6 => ?_)
      obtain ⟨rfl, rfl⟩ := hp6
      go_wp2
      go_ret
      exact ⟨by simp, KB5.out⟩
  · have h1i : ¬ (100 : Int) < (rs.length : Int) := by omega
    clear h1
    have KRg0 := KRg.out w2.drew (Below.refl _ w2).drew
    have KRw := Kept.mk (rows_any _ rs w2.drew (KR2.out.later (Below.refl w2.heap.size w2).drew (Nat.le_refl _)) hl)
    go_wp2_with fail
    refine wp_region_noPanic ?_
    refine wp_region_held_drew (S := fun W => W.rangeAt w.heap.size 0 IL) (by kernel_rfl) KRg0 (fun hHeld => ?_)
    refine wpAnyH_takeD (i := 0) (d := some 20) (v := .slice a rs.length c) rfl rfl (by kernel_rfl) (by kernel_rfl) (by kernel_rfl) (fun _ _ _ h => h) (Or.inl ⟨by rfl, fun W hSw => by (try dsimp only at hSw); go_simp⟩) (by assumption) ?_
    simp only [Act.put, List.setIfInBounds_toArray, List.set_cons_zero, List.set_cons_succ]
    refine wpAnyH_takeD (i := 2) (d := some 22) (v := .agg IL.toArray) rfl rfl (by kernel_rfl) (by kernel_rfl) (by kernel_rfl) (fun _ _ _ h => h) (yieldsIf_load_mid (by rfl) _ _ rfl _ _ rfl IL _ (fun W hSw => hSw) hu29 rfl KPi.out) (by assumption) ?_
    simp only [Act.put, List.setIfInBounds_toArray, List.set_cons_zero, List.set_cons_succ]
    refine wpAnyH_ready (rs := [1]) (by kernel_rfl) (by simp) ?_
    refine AllReadyH.cons (o := _) rfl (fun K hK => ?_) AllReadyH.nil
    go_simp
    refine Calls.mono KRw.out (fun e w3 hp3 => ?_)
    obtain ⟨v3, rfl, hO3, hb3⟩ := hp3
    have hb23 : Below w2.heap.size w2 w3 := (Below.refl _ w2).drew.trans hb3
    have hB3 := KB2.out.trans (hb23.mono KB2.out.size)
    have KC := Kept.mk (build_any v3 rs pk w3 (Tab.later KT.out hB3 (Nat.le_refl _)) hO3.rdR hp KA.out)
    rw [KIL.out] at KC
    have KB3 := Kept.mk hB3
    have KB23 := Kept.mk hb23
    refine hK.out _ _ (KRg.out w3 hb23) (fun hHeld1 => ?_)
    clear hK K hHeld hO3 hb3 hb23 hB3 KRw
    refine wpAnyH_ready (rs := [3]) (by kernel_rfl) (by simp) ?_
    refine AllReadyH.cons (o := _) rfl (fun K hK => ?_) AllReadyH.nil
    go_simp
    refine Calls.mono KC.out (fun e w4 hp4 => ?_)
    obtain ⟨v4, rfl, hO4, hb4⟩ := hp4
    have hb24 := KB23.out.trans (hb4.mono KB23.out.size)
    have KB4 := Kept.mk (KB3.out.trans (hb4.mono KB3.out.size))
    have KO4 := Kept.mk hO4
    have hRg4 := KRg.out w4 hb24
    have KR4 := Kept.mk hRg4
    have KD := Kept.mk (docBuildE_any _ rs pk w4 (KR2.out.later hb24 (Nat.le_refl _)) hp KA.out)
    rw [KIL.out] at KD
    refine hK.out _ _ hRg4 (fun hHeld2 => ?_)
    clear hK K hHeld1 hO4 hb4 hb24 hRg4 KC
    generalize bldE rs = E at *
    refine wpAnyH_takeD (i := 4) (d := some 19) (v := .tuple #[v4, .int .i64 E]) rfl rfl (by kernel_rfl) (by kernel_rfl) (by kernel_rfl) (fun _ _ _ h => h) (Or.inl ⟨by rfl, fun W hSw => by (try dsimp only at hSw); go_simp⟩) (by assumption) ?_
    simp only [Act.put, List.setIfInBounds_toArray, List.set_cons_zero, List.set_cons_succ]
    refine wpAnyH_takeD (i := 5) (d := some 24) (v := v4) rfl rfl (by kernel_rfl) (by kernel_rfl) (by kernel_rfl) (fun _ _ _ h => h) (Or.inl ⟨by rfl, fun W hSw => by (try dsimp only at hSw); go_simp⟩) (by assumption) ?_
    simp only [Act.put, List.setIfInBounds_toArray, List.set_cons_zero, List.set_cons_succ]
    refine wpAnyH_takeD (i := 6) (d := some 25) (v := .int .i64 E) rfl rfl (by kernel_rfl) (by kernel_rfl) (by kernel_rfl) (fun _ _ _ h => h) (Or.inl ⟨by rfl, fun W hSw => by (try dsimp only at hSw); go_simp⟩) (by assumption) ?_
    simp only [Act.put, List.setIfInBounds_toArray, List.set_cons_zero, List.set_cons_succ]
    refine wpAnyH_takeD (i := 7) (d := some 5) (v := v4) rfl rfl (by kernel_rfl) (by kernel_rfl) (by kernel_rfl) (fun _ _ _ h => h) (Or.inl ⟨by rfl, fun W hSw => by (try dsimp only at hSw); go_simp⟩) (by assumption) ?_
    simp only [Act.put, List.setIfInBounds_toArray, List.set_cons_zero, List.set_cons_succ]
    refine wpAnyH_takeD (i := 8) (d := some 6) (v := .int .i64 E) rfl rfl (by kernel_rfl) (by kernel_rfl) (by kernel_rfl) (fun _ _ _ h => h) (Or.inl ⟨by rfl, fun W hSw => by (try dsimp only at hSw); go_simp⟩) (by assumption) ?_
    simp only [Act.put, List.setIfInBounds_toArray, List.set_cons_zero, List.set_cons_succ]
    refine wpAnyH_done (by kernel_rfl) ?_ _
    refine NoPanic.normal ?_
    clear hHeld2
    go_wp2_with (refine wpList_load_mid rfl 24 _ rfl w.heap.size 0 rfl IL _ KR4.out Tryd.underlying24 rfl KPi.out ?_)
    refine Calls.mono KD.out (fun e w5 hp5 => ?_)
    obtain ⟨v5, rfl, hO5, hb5⟩ := hp5
    have KS := Kept.mk (Sh.same_any v4 v5 (bldL rs pk) (bldL rs pk) w5 (shRd (KO4.out.later hb5 (Nat.le_refl _)).rd KBA.out) (shRd hO5.rd KBA.out))
    rw [decide_eq_true rfl] at KS
    have KB5 := Kept.mk (KB4.out.trans (hb5.mono KB4.out.size))
    clear hO5 hb5 KD
    go_wp2_with fail
    refine Calls.mono KS.out (fun e w6 hp6 => ?_)
    obtain ⟨rfl, rfl⟩ := hp6
    go_wp2
    go_ret
    exact ⟨by simp, KB5.out⟩

open Go.ChangeShapes Go.WideShapes Go.ChangeAt Go.RowKit Go.Deep

theorem take_one {l : List Value} {k : Nat} {v : Value} (h : (l.drop k).take 1 = [v]) : l[k]? = some v := by
  have := congrArg (fun q => q[0]?) h
  simpa using this
theorem ints_of {H : Type} {enc : TypeId × Value → H} {P : Program} {W : World} {base : Nat} {sp : Nat → Bool} {held : Bool} {t e : TypeId} {n fuel : Nat} {q : IntKind} (hu : P.underlying t = some (.array n e)) (he : P.underlying e = some (.int q)) (hce : P.cellsOf e = 1) (hct : P.cellsOf t = n)
    {cs : List Value} {x : DataW H × List MemPlace} (h : DataW.trod enc P W base sp held fuel t cs = some x) : ∃ l : List Int, cs = cellsK q l ∧ l.length = n ∧ ∀ y ∈ l, (Lit.int q y).wf = true := by
  obtain ⟨xs, m, -, -, hlen, hxl, hall⟩ := DataW.trod_array hu h
  rw [hct] at hlen
  have hat : ∀ i, i < n → ∃ a, cs[i]? = some (.int q a) ∧ (Lit.int q a).wf = true := fun i hi => by
    have h1 := hall i hi
    rw [hce, Nat.mul_one, List.getElem?_eq_getElem (by omega)] at h1
    obtain ⟨a, ea, _, wa⟩ := DataW.trod_int he h1
    exact ⟨a, take_one ea, wa⟩
  refine ⟨cs.map intOf, ?_, by simpa using hlen, fun y hy => ?_⟩
  · unfold cellsK
    rw [List.map_map]
    apply List.ext_getElem?
    intro i
    rcases Nat.lt_or_ge i n with h | h
    · obtain ⟨a, ha, _⟩ := hat i h
      simp only [List.getElem?_map, ha, Option.map_some]
      rfl
    · simp [List.getElem?_eq_none (show cs.length ≤ i by omega)]
  · obtain ⟨z, hz, rfl⟩ := List.mem_map.1 hy
    obtain ⟨i, hi, rfl⟩ := List.getElem_of_mem hz
    obtain ⟨a, ha, wa⟩ := hat i (by omega)
    rw [List.getElem?_eq_getElem hi] at ha
    rw [Option.some.inj ha]
    exact wa
theorem allB_wf {l : List Int} (h : ∀ y ∈ l, (Lit.int .u8 y).wf = true) : AllB l := fun y hy => by
  have := bounds_u8 (h y hy)
  omega
set_option maxRecDepth 100000 in
theorem row_of_trod {H : Type} {enc : TypeId × Value → H} {W : World} {base : Nat} {sp : Nat → Bool} {held : Bool} {fuel : Nat} {cs : List Value} {x : DataW H × List MemPlace} (h : DataW.trod enc Tryd.prog W base sp held fuel 48 cs = some x) : ∃ r : RowC, r.ok ∧ cs = r.l := by
  obtain ⟨ys, n, -, -, hlen, hy, hall⟩ := DataW.trod_struct Tryd.underlying48 h
  have hc : Tryd.prog.cellsOf 48 = 34 := by kernel_rfl
  rw [hc] at hlen
  match ys, hy with
  | [y0, y1, y2], _ =>
    have c0 : Tryd.prog.cellsOf 24 = 32 := by kernel_rfl
    have c1 : Tryd.prog.cellsOf 42 = 1 := by kernel_rfl
    have c2 : Tryd.prog.cellsOf 43 = 1 := by kernel_rfl
    have c8 : Tryd.prog.cellsOf 5 = 1 := by kernel_rfl
    have h0 : DataW.trod enc Tryd.prog W base sp held n 24 ((cs.drop 0).take (Tryd.prog.cellsOf 24)) = some y0 := hall 0 _ rfl
    have h1 : DataW.trod enc Tryd.prog W base sp held n 42 ((cs.drop 32).take (Tryd.prog.cellsOf 42)) = some y1 := hall 1 _ rfl
    have h2 : DataW.trod enc Tryd.prog W base sp held n 43 ((cs.drop 33).take (Tryd.prog.cellsOf 43)) = some y2 := hall 2 _ rfl
    rw [c1] at h1
    rw [c2] at h2
    obtain ⟨c, e1, -, w1⟩ := DataW.trod_int Tryd.underlying42 h1
    obtain ⟨p, e2, -, w2⟩ := DataW.trod_int Tryd.underlying43 h2
    obtain ⟨l, e0, hl, wl⟩ := ints_of Tryd.underlying24 Tryd.underlying5 c8 c0 h0
    rw [c0, List.drop_zero] at e0
    have b1 := bounds_u32 w1
    have b2 := bounds_u64 w2
    refine ⟨⟨l, c, p⟩, ⟨hl, allB_wf wl, by simp only; omega, by simp only; omega, by simp only; omega, by simp only; omega⟩, ?_⟩
    have k1 := take_one e1
    have k2 := take_one e2
    unfold RowC.l
    rw [← e0]
    apply List.ext_getElem?
    intro i
    rcases Nat.lt_or_ge i 32 with hi | hi
    · rw [List.getElem?_append_left (by rw [List.length_take]; omega), List.getElem?_take_of_lt hi]
    · rw [List.getElem?_append_right (by rw [List.length_take]; omega), List.length_take, Nat.min_eq_left (by omega)]
      rcases Nat.lt_or_ge i 34 with hi2 | hi2
      · have : i = 32 ∨ i = 33 := by omega
        rcases this with rfl | rfl
        · simpa using k1
        · simpa using k2
      · rw [List.getElem?_eq_none (by omega), List.getElem?_eq_none (by simp; omega)]
theorem cells_get {w : World} {base : Nat} {a : Addr} {n : Nat} {cs : List Value} (h : w.cells? base a n = some cs) (j : Nat) (u : Value) (hu : cs[j]? = some u) : w.cell? (a.add j) = some u := by
  unfold World.cells? at h
  split at h
  · have hl : cs.length = n := by simpa using mapM_some_length h
    have hj : j < n := by
      rcases Nat.lt_or_ge j cs.length with h' | h'
      · omega
      · rw [List.getElem?_eq_none h'] at hu
        cases hu
    have := mapM_some_get h j j (by simp [hj])
    rw [this, hu]
  · cases h
theorem bytesR : Tryd.prog.bytesOf 48 = 48 := by kernel_rfl
theorem cellsR : Tryd.prog.cellsOf 48 = 34 := by kernel_rfl
/-- A slice of rows that came in. -/
theorem arg_rowsR {H : Type} {enc : TypeId × Value → H} {W : World} {held : Bool} {a : Option Addr} {len cap : Nat} {d : DataW H} {p : List MemPlace} {ts : List TypeId} {ds : List (DataW H)} {j : Nat}
    (h : ∃ fuel, DataW.trod enc Tryd.prog W 0 (fun _ => true) held fuel 22 (Value.slice a len cap).cells.toList = some (d, p))
    (hsz : (DataW.weightsEach Tryd.prog ts ds).all (· ≤ reachBytes) = true) (ht : ts[j]? = some 22) (hd : ds[j]? = some d) : ∃ rs, RdR W (.slice a len cap) rs ∧ rs.length ≤ 2932031007317 := by
  obtain ⟨fuel, hf⟩ := h
  rcases open_slice Tryd.underlying22 hf with ⟨hcs, -⟩ | ⟨x, l, c, m, n, D, Pl, hcs, -, hl, hm, hmm, hx, hr⟩
  · simp [Value.cells] at hcs
    obtain ⟨rfl, rfl, rfl⟩ := hcs
    exact ⟨[], (OwnR.nil 48 W 0).rdR, by simp⟩
  · simp [Value.cells] at hcs
    obtain ⟨rfl, rfl, rfl⟩ := hcs
    simp only [if_true] at hmm
    subst hmm
    have hd' : d = .slice ((List.range len).map D) ((List.range (m - len)).map fun j => D (len + j)) := congrArg Prod.fst hx
    rw [hd'] at hd
    have hw := sized_slice hsz ht hd Tryd.underlying22
    rw [bytesR] at hw
    simp only [List.length_map, List.length_range, reachBytes] at hw
    have hrow : ∀ i, ∃ r : RowC, i < m → r.ok ∧ ∀ k u, r.l[k]? = some u → W.cell? ((x.add (i * 34)).add k) = some u := fun i => by
      by_cases hi : i < m
      · obtain ⟨cs', h1, h2⟩ := hr i hi
        rw [cellsR] at h1
        obtain ⟨r, h3, rfl⟩ := row_of_trod h2
        exact ⟨r, fun _ => ⟨h3, fun k u hu => cells_get h1 k u hu⟩⟩
      · exact ⟨default, fun h => absurd h hi⟩
    obtain ⟨f, hfr⟩ := Classical.skolem.1 hrow
    have hlen : ((List.range len).map f).length = len := by simp
    have hget : ∀ i, i < len → rowI ((List.range len).map f) i = f i := fun i hi => by simp [rowI, List.getD, hi]
    refine ⟨(List.range len).map f, ⟨some x, m, by rw [hlen], by rw [hlen]; exact hl, hm, (fun h => by cases h), fun r hr => ?_, fun h0 => ?_⟩, by rw [hlen]; omega⟩
    · obtain ⟨i, hi, rfl⟩ := List.mem_map.1 hr
      exact (hfr i (by have := List.mem_range.1 hi; omega)).1
    · rw [hlen] at h0 ⊢
      obtain ⟨b, off, spot⟩ := x
      have hk0 := (hfr 0 (by omega)).1
      have hc0 := (hfr 0 (by omega)).2 0 _ (RowC.cId hk0 (j := 0) (by omega))
      have hspot : spot = none := by simpa [Addr.add] using World.cell?_spot hc0
      subst hspot
      refine ⟨b, off, rfl, ?_, fun i hi k u hu => ?_⟩
      · simp only [Nat.zero_mul, add_plain, Nat.add_zero] at hc0
        rcases Nat.lt_or_ge b W.heap.size with h' | h'
        · exact h'
        · simp [World.cell?, Array.getElem?_eq_none h'] at hc0
      · rw [hget i hi] at hu
        have := (hfr i (by omega)).2 k u hu
        simpa only [add_plain] using this
set_option maxRecDepth 100000 in
/-- An id that came in. -/
theorem arg_id {H : Type} {enc : TypeId × Value → H} {W : World} {base : Nat} {sp : Nat → Bool} {held : Bool} {r : Reach} {b0 : Nat} {v : Value} {d : DataW H} {ps : List MemPlace} (hval : Value.okWide Tryd.prog W r b0 24 v) (hd : DataW.Trod enc Tryd.prog W base sp held 24 v d ps) :
    ∃ l : List Int, v = .agg (cellsK .u8 l).toArray ∧ l.length = 32 ∧ AllB l := by
  have hu := Tryd.underlying24
  simp only [Value.okWide, hu] at hval
  obtain ⟨xs, rfl, -, -⟩ := hval
  obtain ⟨fuel, hf⟩ := hd
  obtain ⟨l, e, hl, wl⟩ := ints_of hu Tryd.underlying5 (by kernel_rfl) (by kernel_rfl) hf
  refine ⟨l, ?_, hl, allB_wf wl⟩
  rw [← e]
  rfl
end Go.Proofs.YtnflfkmmkejkpaaDoor
