/-
  The document's If, Least, DocCheck.
-/
import Derived.Test.YthkaohkondkhgaaDoorIA
import Derived.Test.YthkaohkondkhgaaDoorN32
namespace Go.Proofs.YthkaohkondkhgaaDoor
open Go.RowKit

def lsF (l e : Int) : Int := if e ≠ 0 ∧ (l = 0 ∨ e < l) then e else l
set_option maxHeartbeats 400000 in
set_option maxRecDepth 100000 in
theorem if_any (so : Bool) (e : Int) (w : World) : Calls Tryd.prog 50 #[.bool so, .int .i64 e] w fun x w' => x = .returned (.int .i64 (if so then e else 0)) ∧ w' = w := by
  cases so
  · go_enter Tryd.func50, Tryd.ntmps50
    go_wp2
    go_ret
    exact ⟨rfl, rfl⟩
  · go_enter Tryd.func50, Tryd.ntmps50
    go_wp2
    go_ret
    exact ⟨rfl, rfl⟩
theorem lsF_eq (l e : Int) : lsF l e = if e = 0 then l else if l = 0 then e else if e < l then e else l := by
  unfold lsF
  by_cases h1 : e = 0
  · rw [if_neg (by omega), if_pos h1]
  · rw [if_neg h1]
    by_cases h2 : l = 0
    · rw [if_pos (by omega), if_pos h2]
    · rw [if_neg h2]
      by_cases h3 : e < l
      · rw [if_pos (by omega), if_pos h3]
      · rw [if_neg (by omega), if_neg h3]
theorem take_fold (l : List Int) {k : Nat} (h : k < l.length) : (l.take (k + 1)).foldl lsF 0 = lsF ((l.take k).foldl lsF 0) (l.getD k 0) := by
  rw [List.take_add_one, List.getElem?_eq_getElem h, List.foldl_append]
  simp [List.getD, List.getElem?_eq_getElem h]
set_option maxHeartbeats 1000000 in
set_option maxRecDepth 100000 in
theorem least_any (l : List Int) (g : Nat) (w : World) (hr : w.heap[g]? = some (.cells (cellsK .i64 l).toArray 26)) (hl : l.length ≤ 1000) :
    Calls Tryd.prog 49 #[.slice (some ⟨g, 0, none⟩) l.length l.length] w fun e w' => e = .returned (.int .i64 (l.foldl lsF 0)) ∧ w' = w := by
  have KC : Kept (∀ i, i < l.length → w.cell? ⟨g, i, none⟩ = some (.int .i64 (l.getD i 0))) := ⟨fun i hi => by
    rw [cell_of_row w g i _ _ (0, 0) hr]
    unfold cellsK
    simp [List.getD, List.getElem?_eq_getElem hi]⟩
  clear hr
  go_enter Tryd.func49, Tryd.ntmps49
  go_wp2
  go_loop [3, 8] (fun lv kv => ∃ k : Nat, k ≤ l.length ∧ kv = .int .i64 k ∧ lv = .int .i64 ((l.take k).foldl lsF 0)) (fun _ kv => l.length - (intOf kv).toNat)
  case atStart => exact ⟨0, Nat.zero_le _, rfl, rfl⟩
  case round =>
    obtain ⟨k, hk, rfl, rfl⟩ := hrel
    by_cases hlt : k < l.length
    · have hki : (k : Int) < (l.length : Int) := by omega
      have hc := KC.out k hlt
      have KF := Kept.mk (take_fold l hlt)
      have e2 : IntKind.i64.wrap ((k : Int) + 1) = (k : Int) + 1 := by rw [IntKind.wrap_i64]; omega
      generalize l.getD k 0 = e at *
      generalize (l.take k).foldl lsF 0 = m at *
      by_cases h1 : e = 0
      · have KE : Kept (lsF m e = m) := ⟨by rw [lsF_eq, if_pos h1]⟩
        have b1 : (e != 0) = false := by simpa using h1
        clear h1
        go_wp2
        go_round
        case rel => exact ⟨k + 1, by omega, by go_num, by rw [KF.out, KE.out]⟩
        case measure => simp [intOf]; omega
      · have b1 : (e != 0) = true := by simpa using h1
        by_cases h2 : m = 0
        · have KE : Kept (lsF m e = e) := ⟨by rw [lsF_eq, if_neg h1, if_pos h2]⟩
          have b2 : (m == 0) = true := by simpa using h2
          clear h1 h2
          go_wp2
          go_round
          case rel => exact ⟨k + 1, by omega, by go_num, by rw [KF.out, KE.out]⟩
          case measure => simp [intOf]; omega
        · have b2 : (m == 0) = false := by simpa using h2
          by_cases h3 : e < m
          · have KE : Kept (lsF m e = e) := ⟨by rw [lsF_eq, if_neg h1, if_neg h2, if_pos h3]⟩
            have b3 : decide (e < m) = true := decide_eq_true h3
            clear h1 h2 h3
            go_wp2
            go_round
            case rel => exact ⟨k + 1, by omega, by go_num, by rw [KF.out, KE.out]⟩
            case measure => simp [intOf]; omega
          · have KE : Kept (lsF m e = m) := ⟨by rw [lsF_eq, if_neg h1, if_neg h2, if_neg h3]⟩
            have b3 : decide (e < m) = false := decide_eq_false h3
            clear h1 h2 h3
            go_wp2
            go_round
            case rel => exact ⟨k + 1, by omega, by go_num, by rw [KF.out, KE.out]⟩
            case measure => simp [intOf]; omega
    · have hki : ¬ (k : Int) < (l.length : Int) := by omega
      have KF : Kept ((l.take k).foldl lsF 0 = l.foldl lsF 0) := ⟨by rw [List.take_of_length_le (by omega)]⟩
      generalize (l.take k).foldl lsF 0 = m at *
      go_wp2
      go_ret
      exact ⟨by rw [← KF.out]; rfl, rfl⟩

theorem cmp_less : ∀ (x y : List UInt8), Op.bytesLess x y = true → Lib.compareBytes x y = -1
  | [], [], h => by simp [Op.bytesLess] at h
  | [], _ :: _, _ => by simp [Lib.compareBytes]
  | _ :: _, [], h => by simp [Op.bytesLess] at h
  | a :: x, b :: y, h => by
    have ih := cmp_less x y
    unfold Op.bytesLess at h
    unfold Lib.compareBytes
    by_cases h1 : a < b
    · rw [if_pos h1]
    · by_cases h2 : b < a
      · exfalso; grind
      · rw [if_neg h1, if_neg h2]
        apply ih
        grind
theorem cmp_more : ∀ (x y : List UInt8), Op.bytesLess x y = false → x ≠ y → Lib.compareBytes x y = 1
  | [], [], _, h => absurd rfl h
  | [], _ :: _, h, _ => by simp [Op.bytesLess] at h
  | _ :: _, [], _, _ => by simp [Lib.compareBytes]
  | a :: x, b :: y, h, hn => by
    have ih := cmp_more x y
    unfold Op.bytesLess at h
    unfold Lib.compareBytes
    by_cases h1 : a < b
    · exfalso; grind
    · by_cases h2 : b < a
      · rw [if_neg h1, if_pos h2]
      · rw [if_neg h1, if_neg h2]
        have e : a = b := by
          have := UInt8.not_lt.1 h1
          have := UInt8.not_lt.1 h2
          exact UInt8.le_antisymm ‹_› ‹_›
        apply ih
        · grind
        · intro he
          exact hn (by rw [e, he])
theorem cmp_same : ∀ (x : List UInt8), Lib.compareBytes x x = 0
  | [] => rfl
  | a :: x => by
    unfold Lib.compareBytes
    rw [if_neg (UInt8.lt_irrefl a), if_neg (UInt8.lt_irrefl a)]
    exact cmp_same x
theorem cmp_flip : ∀ (x y : List UInt8), Lib.compareBytes y x = -Lib.compareBytes x y
  | [], [] => rfl
  | [], _ :: _ => rfl
  | _ :: _, [] => rfl
  | a :: x, b :: y => by
    have ih := cmp_flip x y
    unfold Lib.compareBytes
    by_cases h1 : a < b
    · rw [if_pos h1, if_neg (fun h => UInt8.lt_irrefl a (UInt8.lt_trans h1 h)), if_pos h1]
      rfl
    · by_cases h2 : b < a
      · rw [if_pos h2, if_neg h1, if_pos h2]
      · rw [if_neg h1, if_neg h2, if_neg h1, if_neg h2]
        exact ih
theorem cmp_range : ∀ (x y : List UInt8), -1 ≤ Lib.compareBytes x y ∧ Lib.compareBytes x y ≤ 1
  | [], [] => by decide
  | [], _ :: _ => by simp [Lib.compareBytes]
  | _ :: _, [] => by simp [Lib.compareBytes]
  | a :: x, b :: y => by
    have ih := cmp_range x y
    unfold Lib.compareBytes
    split
    · omega
    · split
      · omega
      · exact ih

theorem forget {P : Program} {c : Code} {Q : Exit → Act → World → Prop} {DEFS : List Deferred} {w : World} {L : List Value} (i : Nat) (h : ∀ z, Code.wp P c Q { tmps := (L.set i z).toArray, defers := DEFS } w) : Code.wp P c Q { tmps := L.toArray, defers := DEFS } w := by
  by_cases hi : i < L.length
  · have := h L[i]
    rwa [List.set_getElem_self] at this
  · have := h (.bool true)
    rwa [List.set_eq_of_length_le (by omega)] at this
/-- What the document asks of a slot's numbers, name, mode. -/
theorem chk_least (es : List SlC) : [if es.any outF then 1 else 0, if decide (4096 < es.length) then 2 else 0, if es.any unnF then 3 else 0, if es.any noFl || !ordB es then 4 else (0 : Int)].foldl lsF 0 = chkE es := by
  unfold chkE
  cases es.any outF <;> cases hq : decide (4096 < es.length) <;> cases es.any unnF <;> cases es.any noFl <;> cases ordB es <;> simp at hq <;> simp [lsF, hq]
/-- Does a slot stand wrongly behind another? -/
theorem beh_doc (a b : SlC) : (!behB a b) = ((!Op.bytesLess a.pt.toList b.pt.toList && !decide (a.pt = b.pt)) || (decide (a.pt = b.pt) && (decide (b.st ≤ a.st) || decide (a.st = 0)))) := by
  have hd : (a.pt = b.pt) ↔ a.pt.data.toList = b.pt.data.toList := ⟨fun h => by rw [h], fun h => by
    have := Array.toList_inj.1 h
    cases ha : a.pt; cases hb : b.pt
    rw [ha, hb] at this
    simp only at this
    rw [this]⟩
  rw [Lib.toList_data, Lib.toList_data]
  unfold behB ordZ orI
  generalize a.pt.data.toList = x at *
  generalize b.pt.data.toList = y at *
  by_cases he : x = y
  · have h1 : a.pt = b.pt := hd.2 he
    subst he
    rw [cmp_same, if_pos rfl, decide_eq_true h1]
    unfold Lib.compareInt
    by_cases h3 : a.st < b.st
    · have h4 : ¬ b.st ≤ a.st := by omega
      rw [if_pos h3]
      simp [h4]
    · have h4 : b.st ≤ a.st := by omega
      rw [if_neg h3]
      by_cases h5 : a.st > b.st
      · rw [if_pos h5]
        simp [h4]
      · rw [if_neg h5]
        simp [h4]
  · have h1 : ¬ a.pt = b.pt := fun h => he (hd.1 h)
    rw [decide_eq_false h1]
    cases hq : Op.bytesLess x y
    · have := cmp_more x y hq he
      rw [if_neg (by omega), this]
      rfl
    · have := cmp_less x y hq
      rw [if_neg (by omega), this]
      rfl
theorem ord_snoc {es : List SlC} {k : Nat} (h : k + 1 < es.length) : ordB (es.take (k + 2)) = (ordB (es.take (k + 1)) && behB (es[k]'(by omega)) es[k + 1]) := by
  rw [Bool.eq_iff_iff, Bool.and_eq_true, ordB_iff, ordB_iff]
  constructor
  · intro hh
    refine ⟨fun j hj => ?_, ?_⟩
    · have hl : j + 1 < (es.take (k + 2)).length := by rw [List.length_take] at hj ⊢; omega
      have := hh j hl
      simpa only [List.getElem_take] using this
    · have hl : k + 1 < (es.take (k + 2)).length := by rw [List.length_take]; omega
      have := hh k hl
      simpa only [List.getElem_take] using this
  · intro ⟨h1, h2⟩ j hj
    rw [List.length_take] at hj
    rcases Nat.lt_or_ge j k with hjk | hjk
    · have hl : j + 1 < (es.take (k + 1)).length := by rw [List.length_take]; omega
      have := h1 j hl
      simpa only [List.getElem_take] using this
    · obtain rfl : j = k := by omega
      simpa only [List.getElem_take] using h2
/-- Behind a region: one slot has this value, those from lo on so many have any. -/
structure Cut (C : World → Prop) (X : List Value) (D : List Deferred) (lo n : Nat) (ex : Exit) (a' : Act) (w' : World) : Prop where
  ex : ex = .normal
  w : C w'
  pre : a'.tmps.toList.take lo = X.take lo
  suf : a'.tmps.toList.drop (lo + n) = X.drop (lo + n)
  len : a'.tmps.toList.length = X.length
  def_ : a'.defers = D
theorem Cut.act {C : World → Prop} {X : List Value} {D : List Deferred} {lo n : Nat} {ex : Exit} {a' : Act} {w' : World} (h : Cut C X D lo n ex a' w') (hl : lo + n ≤ X.length) : ∃ z : Nat → Value, a' = { tmps := (X.take lo ++ ((List.range' lo n).map z ++ X.drop (lo + n))).toArray, defers := D } := by
  obtain ⟨⟨T⟩, d⟩ := a'
  obtain ⟨-, -, h1, h2, h3, h4⟩ := h
  simp only at h1 h2 h3 h4
  subst h4
  refine ⟨fun j => T.getD j undef, ?_⟩
  congr 2
  rw [← h1, ← h2]
  apply List.ext_getElem?
  intro j
  have ht : (T.take lo).length = lo := by rw [List.length_take]; omega
  rcases Nat.lt_or_ge j lo with hj | hj
  · rw [List.getElem?_append_left (by omega), List.getElem?_take_of_lt hj]
  · rw [List.getElem?_append_right (by omega), ht]
    rcases Nat.lt_or_ge j (lo + n) with hk | hk
    · rw [List.getElem?_append_left (by simp; omega), List.getElem?_map, List.getElem?_range' (by omega)]
      simp only [Option.map_some, Nat.one_mul]
      rw [show lo + (j - lo) = j by omega, List.getD_eq_getElem?_getD, List.getElem?_eq_getElem (by omega)]
      rfl
    · rw [List.getElem?_append_right (by simp; omega), List.getElem?_drop]
      congr 1
      simp
      omega
theorem cut_region {P : Program} {c : Code} {Q : Exit → Act → World → Prop} {L : List Value} {D : List Deferred} {w : World} (C : World → Prop) (i : Nat) (v : Value) (lo n : Nat) (hl : lo + n ≤ L.length) (zs : (Nat → Value) → List Value) (hzs : ∀ z, (List.range' lo n).map z = zs z)
    (h1 : c.wp P (Cut C (L.set i v) D lo n) { tmps := L.toArray, defers := D } w) (h2 : ∀ z w', C w' → Q .normal { tmps := ((L.set i v).take lo ++ (zs z ++ (L.set i v).drop (lo + n))).toArray, defers := D } w') : c.wp P Q { tmps := L.toArray, defers := D } w :=
  wp_mono h1 fun ex a' w' h => by
    obtain ⟨z, rfl⟩ := h.act (by rw [List.length_set]; exact hl)
    rw [h.ex, hzs]
    exact h2 z w' h.w
set_option maxHeartbeats 4000000 in
set_option maxRecDepth 100000 in
theorem docCheck_any (v : Value) (es : List SlC) (w : World) (hr : RdZ w v es) (hl : es.length ≤ 4398046511104) (hn : ∀ e ∈ es, e.pt.size < 4294967281) :
    Calls Tryd.prog 23 #[v] w fun e w' => e = .returned (.int .i64 (chkE es)) ∧ Below w.heap.size w w' := by
  obtain ⟨a, c, rfl, hlc, hok, hrd⟩ := hr
  have KR := Kept.mk hrd
  have KK := Kept.mk hok
  have KN := Kept.mk hn
  clear hrd hok hn
  go_enter Tryd.func23, Tryd.ntmps23
  go_wp2
  go_loopw [3, 4, 5, 11] (fun av nv fv kv wr => ∃ k : Nat, k ≤ es.length ∧ kv = .int .i64 k ∧ av = .bool ((es.take k).any outF) ∧ nv = .bool ((es.take k).any unnF) ∧ fv = .bool ((es.take k).any noFl || !ordB (es.take k)) ∧ Below w.heap.size w wr) (fun _ _ _ kv _ => es.length - (intOf kv).toNat)
  case atStart => exact ⟨0, Nat.zero_le _, rfl, rfl, rfl, rfl, Below.refl _ _⟩
  case round =>
    obtain ⟨k, hk, rfl, rfl, rfl, rfl, hbel⟩ := hrel
    have KBr := Kept.mk hbel
    by_cases hlt : k < es.length
    · have hki : (k : Int) < (es.length : Int) := by omega
      obtain ⟨b, off, rfl, hbl, hrg⟩ := KR.out (by omega)
      have hR : Kept (wr.rangeAt b (off + k * 37) (es[k]'hlt).l) := ⟨fun j u hu => by
        rw [hbel.cell (p := ⟨b, off + k * 37 + j, none⟩) hbl]
        exact hrg k hlt j u hu⟩
      have hko := KK.out _ (List.getElem_mem hlt)
      have KI := Kept.mk (SlC.info hko)
      obtain ⟨x2, hx2, hBx, hzx, hbx, hcx⟩ := SlC.box wr hko
      have KBx := Kept.mk (KBr.out.trans (hBx.mono KBr.out.size))
      have Kcx := Kept.mk hcx
      have Kzx := Kept.mk hzx
      have h37 := SlC.len hko
      have hones := SlC.ones (es[k]'hlt)
      have hstep : ∀ q : SlC → Bool, (es.take (k + 1)).any q = ((es.take k).any q || q (es[k]'hlt)) := fun q => by
        rw [List.take_add_one, List.getElem?_eq_getElem hlt, List.any_append]
        simp
      have KS1 := Kept.mk (hstep outF)
      have KS2 := Kept.mk (hstep unnF)
      have KS3 := Kept.mk (hstep noFl)
      have KPn := Kept.mk (KN.out _ (List.getElem_mem hlt))
      have KO1 : Kept (outF (es[k]'hlt) = (decide ((es[k]'hlt).st < 0) || decide (3 < (es[k]'hlt).st) || decide ((es[k]'hlt).sz < 0) || decide (4294967295 < (es[k]'hlt).sz) || decide ((es[k]'hlt).tm < 0) || decide (4294967295 < (es[k]'hlt).tm))) := ⟨rfl⟩
      have KO2 : Kept (unnF (es[k]'hlt) = !pathF (es[k]'hlt).pt) := ⟨rfl⟩
      have KO3 : Kept (noFl (es[k]'hlt) = (decide ((es[k]'hlt).md = 16384) || !modF (es[k]'hlt).md)) := ⟨rfl⟩
      clear hko hbx hBx hzx hstep hcx
      obtain ⟨CL, hCL⟩ : ∃ CL, (es[k]'hlt).l = CL := ⟨_, rfl⟩
      rw [hCL] at hR KI hx2 h37 hones
      clear hCL
      obtain ⟨PT, hPT⟩ : ∃ PT, (es[k]'hlt).pt = PT := ⟨_, rfl⟩
      obtain ⟨ST, hST⟩ : ∃ ST, (es[k]'hlt).st = ST := ⟨_, rfl⟩
      obtain ⟨MD, hMD⟩ : ∃ MD, (es[k]'hlt).md = MD := ⟨_, rfl⟩
      obtain ⟨SZ, hSZ⟩ : ∃ SZ, (es[k]'hlt).sz = SZ := ⟨_, rfl⟩
      obtain ⟨TM, hTM⟩ : ∃ TM, (es[k]'hlt).tm = TM := ⟨_, rfl⟩
      rw [hPT, hST, hMD, hSZ, hTM] at Kcx
      rw [hST, hSZ, hTM] at KO1
      rw [hPT] at KO2 KPn
      rw [hMD] at KO3
      have KPT := Kept.mk hPT
      have KST := Kept.mk hST
      clear hMD hSZ hTM hPT hST
      obtain ⟨AR, hAR⟩ : ∃ AR, (es.take k).any outF = AR := ⟨_, rfl⟩
      obtain ⟨NA, hNA⟩ : ∃ NA, (es.take k).any unnF = NA := ⟨_, rfl⟩
      obtain ⟨FO, hFO⟩ : ∃ FO, ((es.take k).any noFl || !ordB (es.take k)) = FO := ⟨_, rfl⟩
      rw [hAR] at KS1
      rw [hNA] at KS2
      have KFO := Kept.mk hFO
      rw [hAR, hNA, hFO]
      clear hAR hNA hFO
      obtain ⟨OE, hOE⟩ : ∃ OE, outF (es[k]'hlt) = OE := ⟨_, rfl⟩
      obtain ⟨UE, hUE⟩ : ∃ UE, unnF (es[k]'hlt) = UE := ⟨_, rfl⟩
      obtain ⟨NE, hNE⟩ : ∃ NE, noFl (es[k]'hlt) = NE := ⟨_, rfl⟩
      rw [hOE] at KS1 KO1
      rw [hUE] at KS2 KO2
      rw [hNE] at KS3 KO3
      clear hOE hUE hNE
      have KI2 : Kept ((Tryd.prog.info? 41).map (·.size) = some CL.toArray.size) := ⟨by rw [List.size_toArray]; exact KI.out⟩
      have KS : Kept (CL.toArray.size = 37) := ⟨by rw [List.size_toArray]; exact h37⟩
      have KOn : Kept (CL.toArray.all (·.oneCell') = true) := ⟨by rw [Array.all_eq_true_iff_forall_mem]; intro x hx; exact hones x (by simpa using hx)⟩
      clear h37 hones
      go_upto_region 5 with (first | (refine wpList_load_mid rfl 41 _ rfl b (off + k * 37) rfl CL _ hR.out Tryd.underlying41 rfl KI.out ?_) | (refine BigFrame.wpList_want rfl (fun K hK => wp_store_row 41 _ _ rfl wr.heap.size CL.toArray rfl rfl 41 _ (heap_alloc_new wr _) KI2.out (by rw [KS.out]; rfl) KOn.out (hK _ _ ?_)); rw [World.setRow_alloc_new]))
      try rw [hx2]
      clear hx2
      refine cut_region (fun W => W = x2) 3 (.bool (AR || OE)) 16 31 (by simp) (fun z => [z 16, z 17, z 18, z 19, z 20, z 21, z 22, z 23, z 24, z 25, z 26, z 27, z 28, z 29, z 30, z 31, z 32, z 33, z 34, z 35, z 36, z 37, z 38, z 39, z 40, z 41, z 42, z 43, z 44, z 45, z 46]) (fun _ => rfl) ?_ ?_
      · obtain ⟨c0, c1, c2, c3, c4⟩ := Kcx.out x2 (CC.refl _)
        cases AR with
        | true =>
          go_wp2
          exact ⟨rfl, rfl, rfl, rfl, rfl, rfl⟩
        | false =>
          by_cases h0 : ST < 0
          · obtain rfl : OE = true := by rw [KO1.out]; simp; omega
            go_wp2
            exact ⟨rfl, rfl, rfl, rfl, rfl, rfl⟩
          · by_cases h1 : 3 < ST
            · obtain rfl : OE = true := by rw [KO1.out]; simp; omega
              go_wp2
              exact ⟨rfl, rfl, rfl, rfl, rfl, rfl⟩
            · by_cases h2 : SZ < 0
              · obtain rfl : OE = true := by rw [KO1.out]; simp; omega
                go_wp2
                exact ⟨rfl, rfl, rfl, rfl, rfl, rfl⟩
              · by_cases h3 : 4294967296 ≤ SZ
                · obtain rfl : OE = true := by rw [KO1.out]; simp; omega
                  go_wp2
                  exact ⟨rfl, rfl, rfl, rfl, rfl, rfl⟩
                · by_cases h4 : TM < 0
                  · obtain rfl : OE = true := by rw [KO1.out]; simp; omega
                    go_wp2
                    exact ⟨rfl, rfl, rfl, rfl, rfl, rfl⟩
                  · by_cases h5 : 4294967296 ≤ TM
                    · obtain rfl : OE = true := by rw [KO1.out]; simp; omega
                      go_wp2
                      exact ⟨rfl, rfl, rfl, rfl, rfl, rfl⟩
                    · obtain rfl : OE = false := by rw [KO1.out]; simp; omega
                      go_wp2
                      exact ⟨rfl, rfl, rfl, rfl, rfl, rfl⟩
      · intro z W hW
        obtain rfl := hW
        simp only [List.set_cons_succ, List.set_cons_zero, List.take_succ_cons, List.take_zero, List.drop_succ_cons, List.drop_zero, List.cons_append, List.nil_append]
        obtain ⟨A2, hA2⟩ : ∃ A2, (AR || OE) = A2 := ⟨_, rfl⟩
        have KA2 := Kept.mk hA2
        rw [hA2]
        clear hA2
        have KPa := Kept.mk (rpath_any PT W KPn.out)
        have KMo : Kept (∀ V, CC W V → Calls Tryd.prog 48 #[.int .i64 MD] V fun e w' => e = .returned (.bool (modF MD)) ∧ CC W w') := ⟨fun V hV => (rmode_any MD V).mono fun e w' hp => ⟨hp.1, hV.on hp.2⟩⟩
        go_upto_region 6 with fail
        refine cut_region (CC W) 4 (.bool (NA || UE)) 47 7 (by simp) (fun z => [z 47, z 48, z 49, z 50, z 51, z 52, z 53]) (fun _ => rfl) ?_ ?_
        · obtain ⟨c0, c1, c2, c3, c4⟩ := Kcx.out W (CC.refl _)
          cases NA with
          | true =>
            go_wp2
            exact ⟨rfl, Below.refl _ _, rfl, rfl, rfl, rfl⟩
          | false =>
            go_wp2_with fail
            refine Calls.mono KPa.out (fun e w3 hp => ?_)
            obtain ⟨rfl, hb3⟩ := hp
            have KB3 : Kept (CC W w3) := ⟨hb3⟩
            clear hb3
            cases hpf : pathF PT with
            | true =>
              obtain rfl : UE = false := by rw [KO2.out, hpf]; rfl
              clear hpf
              go_wp2
              exact ⟨rfl, KB3.out, rfl, rfl, rfl, rfl⟩
            | false =>
              obtain rfl : UE = true := by rw [KO2.out, hpf]; rfl
              clear hpf
              go_wp2
              exact ⟨rfl, KB3.out, rfl, rfl, rfl, rfl⟩
        · intro z V hV
          have KV := Kept.mk hV
          clear hV
          simp only [List.set_cons_succ, List.set_cons_zero, List.take_succ_cons, List.take_zero, List.drop_succ_cons, List.drop_zero, List.cons_append, List.nil_append]
          obtain ⟨N2, hN2⟩ : ∃ N2, (NA || UE) = N2 := ⟨_, rfl⟩
          have KN2 := Kept.mk hN2
          rw [hN2]
          clear hN2 KPa
          go_upto_region 7 with fail
          refine cut_region (CC W) 5 (.bool (FO || NE)) 54 12 (by simp) (fun z => [z 54, z 55, z 56, z 57, z 58, z 59, z 60, z 61, z 62, z 63, z 64, z 65]) (fun _ => rfl) ?_ ?_
          · obtain ⟨c0, c1, c2, c3, c4⟩ := Kcx.out V KV.out
            cases FO with
            | true =>
              go_wp2
              exact ⟨rfl, KV.out, rfl, rfl, rfl, rfl⟩
            | false =>
              go_wp2_with fail
              refine Calls.mono (KMo.out _ KV.out) (fun e w3 hp => ?_)
              obtain ⟨rfl, hb3⟩ := hp
              have KB3 : Kept (CC W w3) := ⟨hb3⟩
              obtain ⟨d0, d1, d2, d3, d4⟩ := Kcx.out w3 hb3
              clear hb3 c0 c1 c2 c3 c4
              cases hmf : modF MD with
              | false =>
                obtain rfl : NE = true := by rw [KO3.out, hmf]; simp
                clear hmf
                go_wp2
                exact ⟨rfl, KB3.out, rfl, rfl, rfl, rfl⟩
              | true =>
                by_cases hmd : MD = 16384
                · obtain rfl : NE = true := by rw [KO3.out]; simp [hmd]
                  clear hmf
                  go_wp2
                  exact ⟨rfl, KB3.out, rfl, rfl, rfl, rfl⟩
                · obtain rfl : NE = false := by rw [KO3.out, hmf]; simp [hmd]
                  have hmq : (MD == 16384) = false := by simpa using hmd
                  clear hmf
                  go_wp2
                  exact ⟨rfl, KB3.out, rfl, rfl, rfl, rfl⟩
          · intro z2 U hU
            have KU := Kept.mk hU
            clear hU KV
            simp only [List.set_cons_succ, List.set_cons_zero, List.take_succ_cons, List.take_zero, List.drop_succ_cons, List.drop_zero, List.cons_append, List.nil_append]
            obtain ⟨F2, hF2⟩ : ∃ F2, (FO || NE) = F2 := ⟨_, rfl⟩
            have KF2 := Kept.mk hF2
            rw [hF2]
            clear hF2 KMo
            have e3 : IntKind.i64.wrap ((k : Int) + 1) = (k : Int) + 1 := wr64 (by omega) (by omega)
            have KBu : Kept (Below w.heap.size w U) := ⟨KBx.out.trans (Below.mono KU.out KBx.out.size)⟩
            have KTot : Kept ((es.take (k + 1)).any outF = A2 ∧ (es.take (k + 1)).any unnF = N2) := ⟨by rw [KS1.out, KA2.out], by rw [KS2.out, KN2.out]⟩
            by_cases hk0 : k = 0
            · subst hk0
              have KFf : Kept (((es.take (0 + 1)).any noFl || !ordB (es.take (0 + 1))) = F2) := ⟨by
                have h1 : ordB (es.take (0 + 1)) = true := by
                  rw [List.take_add_one]
                  cases es with
                  | nil => rfl
                  | cons x xs => rfl
                rw [h1, KS3.out, ← KF2.out, ← KFO.out]
                simp [ordB]⟩
              go_wp2
              go_roundw
              case rel => exact ⟨0 + 1, hlt, by go_num, by rw [KTot.out.1], by rw [KTot.out.2], by rw [KFf.out], KBu.out⟩
              case measure => simp [intOf]; omega
            · obtain ⟨j, rfl⟩ : ∃ j, k = j + 1 := ⟨k - 1, by omega⟩
              have hjl : j < es.length := by omega
              have hji : (j : Int) < (es.length : Int) := by omega
              have hk0i : (0 : Int) < ((j + 1 : Nat) : Int) := by omega
              have e1 : ((j + 1 : Nat) : Int) - 1 = (j : Int) := by omega
              have e2 : IntKind.i64.wrap (j : Int) = (j : Int) := wr64 (by omega) (by omega)
              have hjo := KK.out _ (List.getElem_mem hjl)
              have hRj : Kept (U.rangeAt b (off + j * 37) (es[j]'hjl).l) := ⟨fun i u hu => by
                rw [KBu.out.cell (p := ⟨b, off + j * 37 + i, none⟩) hbl]
                exact hrg j hjl i u hu⟩
              obtain ⟨y2, hy2, hBy, hzy, -, hcy⟩ := SlC.box U hjo
              have KIj := Kept.mk (SlC.info hjo)
              have Kcy := Kept.mk hcy
              have KBy := Kept.mk (KBu.out.trans (hBy.mono KBu.out.size))
              have KCy : Kept (CC W y2) := ⟨Below.trans KU.out (hBy.mono (Below.size KU.out))⟩
              have h37 := SlC.len hjo
              have hones := SlC.ones (es[j]'hjl)
              have KBe : Kept ((!behB (es[j]'hjl) (es[j + 1]'hlt)) = ((!Op.bytesLess (es[j]'hjl).pt.toList (es[j + 1]'hlt).pt.toList && !decide ((es[j]'hjl).pt = (es[j + 1]'hlt).pt)) || (decide ((es[j]'hjl).pt = (es[j + 1]'hlt).pt) && (decide ((es[j + 1]'hlt).st ≤ (es[j]'hjl).st) || decide ((es[j]'hjl).st = 0))))) := ⟨beh_doc _ _⟩
              rw [KPT.out, KST.out] at KBe
              have KFf : Kept (((es.take (j + 1 + 1)).any noFl || !ordB (es.take (j + 1 + 1))) = (F2 || !behB (es[j]'hjl) (es[j + 1]'hlt))) := ⟨by
                rw [show j + 1 + 1 = j + 2 from rfl, ord_snoc hlt, show (es.take (j + 2)).any noFl = ((es.take (j + 1)).any noFl || NE) from KS3.out, ← KF2.out, ← KFO.out]
                cases (es.take (j + 1)).any noFl <;> cases ordB (es.take (j + 1)) <;> cases NE <;> cases behB (es[j]'hjl) (es[j + 1]'hlt) <;> rfl⟩
              obtain ⟨BE, hBE⟩ : ∃ BE, (!behB (es[j]'hjl) (es[j + 1]'hlt)) = BE := ⟨_, rfl⟩
              rw [hBE] at KBe KFf
              clear hBE hBy hzy hcy hjo hk0
              obtain ⟨DL, hDL⟩ : ∃ DL, (es[j]'hjl).l = DL := ⟨_, rfl⟩
              rw [hDL] at hRj KIj hy2 h37 hones
              obtain ⟨PJ, hPJ⟩ : ∃ PJ, (es[j]'hjl).pt = PJ := ⟨_, rfl⟩
              obtain ⟨SJ, hSJ⟩ : ∃ SJ, (es[j]'hjl).st = SJ := ⟨_, rfl⟩
              rw [hPJ, hSJ] at KBe Kcy
              clear hDL hPJ hSJ
              have KJ2 : Kept ((Tryd.prog.info? 41).map (·.size) = some DL.toArray.size) := ⟨by rw [List.size_toArray]; exact KIj.out⟩
              have KJS : Kept (DL.toArray.size = 37) := ⟨by rw [List.size_toArray]; exact h37⟩
              have KJo : Kept (DL.toArray.all (·.oneCell') = true) := ⟨by rw [Array.all_eq_true_iff_forall_mem]; intro x hx; exact hones x (by simpa using hx)⟩
              clear h37 hones
              go_upto_region 10 with (first | (refine wpList_load_mid rfl 41 _ rfl b (off + j * 37) rfl DL _ hRj.out Tryd.underlying41 rfl KIj.out ?_) | (refine BigFrame.wpList_want rfl (fun K hK => wp_store_row 41 _ _ rfl U.heap.size DL.toArray rfl rfl 41 _ (heap_alloc_new U _) KJ2.out (by rw [KJS.out]; rfl) KJo.out (hK _ _ ?_)); rw [World.setRow_alloc_new]))
              try rw [hy2]
              clear hy2
              refine cut_region (fun W' => W' = y2) 5 (.bool (F2 || BE)) 73 27 (by simp) (fun z => [z 73, z 74, z 75, z 76, z 77, z 78, z 79, z 80, z 81, z 82, z 83, z 84, z 85, z 86, z 87, z 88, z 89, z 90, z 91, z 92, z 93, z 94, z 95, z 96, z 97, z 98, z 99]) (fun _ => rfl) ?_ ?_
              · obtain ⟨c0, c1, -⟩ := Kcx.out y2 KCy.out
                obtain ⟨d0, d1, -⟩ := Kcy.out y2 (CC.refl _)
                cases F2 with
                | true =>
                  go_wp2
                  exact ⟨rfl, rfl, rfl, rfl, rfl, rfl⟩
                | false =>
                  by_cases hpq : PJ = PT
                  · subst hpq
                    by_cases hs1 : ST ≤ SJ
                    · obtain rfl : BE = true := by rw [KBe.out]; simp [hs1]
                      go_wp2
                      exact ⟨rfl, rfl, rfl, rfl, rfl, rfl⟩
                    · by_cases hs2 : SJ = 0
                      · obtain rfl : BE = true := by rw [KBe.out]; simp [hs2]
                        go_wp2
                        exact ⟨rfl, rfl, rfl, rfl, rfl, rfl⟩
                      · obtain rfl : BE = false := by rw [KBe.out]; simp [hs1, hs2]
                        have hsq : (SJ == 0) = false := by simpa using hs2
                        go_wp2
                        exact ⟨rfl, rfl, rfl, rfl, rfl, rfl⟩
                  · have hpl : ¬ PJ.toList = PT.toList := fun h => by
                      have h2 := str_eq PJ PT
                      rw [decide_eq_false hpq, h] at h2
                      simp at h2
                    have hpb : (PJ.toList == PT.toList) = false := by rw [str_eq]; exact decide_eq_false hpq
                    cases hbl2 : Op.bytesLess PJ.toList PT.toList with
                    | true =>
                      obtain rfl : BE = false := by rw [KBe.out, hbl2]; simp [hpq]
                      go_wp2
                      exact ⟨rfl, rfl, rfl, rfl, rfl, rfl⟩
                    | false =>
                      obtain rfl : BE = true := by rw [KBe.out, hbl2]; simp [hpq]
                      go_wp2
                      exact ⟨rfl, rfl, rfl, rfl, rfl, rfl⟩
              · intro z3 V3 hV3
                obtain rfl := hV3
                simp only [List.set_cons_succ, List.set_cons_zero, List.take_succ_cons, List.take_zero, List.drop_succ_cons, List.drop_zero, List.cons_append, List.nil_append]
                go_wp2
                go_roundw
                case rel => exact ⟨j + 1 + 1, hlt, by go_num, by rw [KTot.out.1], by rw [KTot.out.2], by rw [KFf.out], KBy.out⟩
                case measure => simp [intOf]; omega
    · have hki : ¬ (k : Int) < (es.length : Int) := by omega
      have hkk : k = es.length := by omega
      subst hkk
      rw [List.take_length]
      have KLs := Kept.mk (chk_least es)
      have KIf : Kept (∀ (so : Bool) (e : Int) (W : World), Calls Tryd.prog 50 #[.bool so, .int .i64 e] W fun x w' => x = .returned (.int .i64 (if so then e else 0)) ∧ w' = W) := ⟨fun so e W => if_any so e W⟩
      generalize es.any outF = A at *
      generalize es.any unnF = B at *
      generalize (es.any noFl || !ordB es) = F at *
      clear hbel
      have hdl : decide ((4096 : Int) < (es.length : Int)) = decide (4096 < es.length) := by
        by_cases h : 4096 < es.length
        · rw [decide_eq_true h, decide_eq_true (by omega)]
        · rw [decide_eq_false h, decide_eq_false (by omega)]
      obtain ⟨LN, hLN⟩ : ∃ LN, decide (4096 < es.length) = LN := ⟨_, rfl⟩
      rw [hLN] at hdl KLs
      clear hLN
      have KI1 := Kept.mk (KIf.out A 1)
      have KI2 := Kept.mk (KIf.out LN 2)
      have KI3 := Kept.mk (KIf.out B 3)
      have KI4 := Kept.mk (KIf.out F 4)
      generalize (if A = true then (1 : Int) else 0) = i1 at *
      generalize (if LN = true then (2 : Int) else 0) = i2 at *
      generalize (if B = true then (3 : Int) else 0) = i3 at *
      generalize (if F = true then (4 : Int) else 0) = i4 at *
      have KLe := Kept.mk (least_any [i1, i2, i3, i4] wr.heap.size (wr.alloc (.cells #[.int .i64 i1, .int .i64 i2, .int .i64 i3, .int .i64 i4] 26)) (heap_alloc_new wr _) (by simp))
      rw [KLs.out] at KLe
      have KBa := Kept.mk (KBr.out.alloc KBr.out.size (.cells #[.int .i64 i1, .int .i64 i2, .int .i64 i3, .int .i64 i4] 26))
      go_wp2_with fail
      refine Calls.mono (KI1.out _) (fun x t1 hp => ?_)
      obtain ⟨rfl, rfl⟩ := hp
      go_wp2_with fail
      refine Calls.mono (KI2.out _) (fun x t2 hp => ?_)
      obtain ⟨rfl, rfl⟩ := hp
      go_wp2_with fail
      refine Calls.mono (KI3.out _) (fun x t3 hp => ?_)
      obtain ⟨rfl, rfl⟩ := hp
      go_wp2_with fail
      refine Calls.mono (KI4.out _) (fun x t4 hp => ?_)
      obtain ⟨rfl, rfl⟩ := hp
      go_wp2_with fail
      refine Calls.mono KLe.out (fun x t5 hp => ?_)
      obtain ⟨rfl, rfl⟩ := hp
      go_wp2
      go_ret
      exact ⟨rfl, KBa.out⟩
end Go.Proofs.YthkaohkondkhgaaDoor
