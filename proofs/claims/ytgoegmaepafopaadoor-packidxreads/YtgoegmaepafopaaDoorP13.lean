/-
  Walks: countRows, cutId.
-/
import Derived.Test.YtgoegmaepafopaaDoorPE
import Derived.Laws.CopyRow
namespace Go.Proofs.YtgoegmaepafopaaDoor
open Go.RowKit

def cntS (p : List Int) : Int × Int :=
  if p.length < 1096 then (0, 5) else if p.take 8 ≠ headB then (0, 4) else if upB (fanRL p) = false then (0, 4) else if 4096 < fanR p 255 then (0, 10) else (fanR p 255, 0)
theorem headB_allB : AllB headB := by
  intro x hx
  simp [headB] at hx
  omega
theorem headS : (⟨#[255, 116, 79, 99, 0, 0, 0, 2]⟩ : ByteArray) = strOfNums headB := rfl
theorem box_fan (w : World) (F : List Int) : ∃ w1, w.alloc (.cells (cellsK .u64 F).toArray 61) = w1 ∧ Below w.heap.size w w1 ∧ w1.heap.size = w.heap.size + 1 ∧ BlkK .u64 w1 w.heap.size 61 F :=
  ⟨_, rfl, (Below.refl _ _).alloc (Nat.le_refl _) _, by simp, alloc_blkK .u64 w F _⟩

set_option maxHeartbeats 2000000 in
set_option maxRecDepth 100000 in
theorem countRows_any {S : Nat → Prop} (v : Value) (xs : List Int) (w : World) (h : Rd .u8 S w v xs) (hA : AllB xs) (hl : xs.length + 20 ≤ 140737488355328) :
    Calls Tryd.prog 17 #[v] w fun e w' => e = .returned (.tuple #[.int .i64 (cntS xs).1, .int .i64 (cntS xs).2]) ∧ Below w.heap.size w w' := by
  obtain ⟨a, c, rfl, hac, hlc, hcm⟩ := h.form
  have KH := Kept.mk h
  have KE : Kept (cntS xs = if xs.length < 1096 then (0, 5) else if xs.take 8 ≠ headB then (0, 4) else if upB (fanRL xs) = false then (0, 4) else if 4096 < fanR xs 255 then (0, 10) else (fanR xs 255, 0)) := ⟨rfl⟩
  clear h
  generalize cntS xs = E at *
  by_cases h1 : xs.length < 1096
  · have d1 : decide ((xs.length : Int) < 1096) = true := decide_eq_true (by omega)
    have KV : Kept (E = (0, 5)) := ⟨by rw [KE.out, if_pos h1]⟩
    clear h1
    go_enter Tryd.func17, Tryd.ntmps17
    go_wp2
    go_ret2
    exact ⟨by rw [KV.out]; rfl, Below.refl _ _⟩
  · have d1 : decide ((xs.length : Int) < 1096) = false := decide_eq_false (by omega)
    have h1096 : 1096 ≤ xs.length := by omega
    obtain ⟨b, off, c', hv, hblt, -, -, hSb, hcell⟩ := KH.out.open (by omega)
    simp at hv
    obtain ⟨rfl, rfl⟩ := hv
    have hr8 : Rd .u8 anyB w (.slice (some ⟨b, off, none⟩) 8 c) (xs.take 8) := by
      refine ⟨some ⟨b, off, none⟩, c, by rw [List.length_take]; congr 1; omega, by rw [List.length_take]; omega, hcm, (fun h => by cases h), fun _ => ⟨b, off, rfl, hblt, trivial, fun i hi => ?_⟩⟩
      rw [List.length_take] at hi
      rw [hcell i (by omega)]
      simp [List.getD, show i < 8 by omega]
    have hcv := fun W (hW : Rd .u8 anyB W (.slice (some ⟨b, off, none⟩) 8 c) (xs.take 8)) => hW.str Tryd.underlying22 Tryd.underlying5 9 Tryd.underlying9
    have cv8 := hcv w hr8
    have hse := strs_eq (hA.take 8) headB_allB
    rw [← headS, Lib.toList_data ⟨#[255, 116, 79, 99, 0, 0, 0, 2]⟩] at hse
    have hne : ((strOfNums (xs.take 8)).toList == [255, 116, 79, 99, 0, 0, 0, 2]) = decide (xs.take 8 = headB) := hse
    have i8 : (8 : Int) ≤ (xs.length : Int) := by omega
    have c8 : (8 : Int) ≤ (c : Int) := by omega
    clear hcv hcell hr8
    by_cases h2 : xs.take 8 = headB
    · rw [decide_eq_true h2] at hne hse
      have hne' : ((strOfNums (xs.take 8)).toList == [255, 116, 79, 99, 0, 0, 0, 2]) = true := hne
      have KE2 : Kept (E = if upB (fanRL xs) = false then (0, 4) else if 4096 < fanR xs 255 then (0, 10) else (fanR xs 255, 0)) := ⟨by rw [KE.out, if_neg h1, if_neg (by simpa using h2)]⟩
      have KC := Kept.mk (readFan_any _ xs w KH.out hA (by omega) hl)
      have hfl : (fanRL xs).length = 256 := map256_length _
      have KFl := Kept.mk hfl
      have KFz : Kept ((cellsK .u64 (fanRL xs)).toArray.size = 256) := ⟨by rw [List.size_toArray, cellsK_length, hfl]⟩
      have KFi : Kept ((Tryd.prog.info? 61).map (·.size) = some (cellsK .u64 (fanRL xs)).toArray.size) := ⟨by rw [KFz.out]; exact info_fan⟩
      have KFo := Kept.mk (cellsK_all .u64 (fanRL xs))
      have Kg : Kept ((fanRL xs).getD 255 0 = fanR xs 255) := ⟨map256_get _ (by omega)⟩
      have hrg := bigT_range xs (8 + 255 * 4) 4 hA (by omega)
      have hrg' : 0 ≤ fanR xs 255 ∧ fanR xs 255 < 4294967296 := hrg
      clear hne h1 h2 hfl hrg hse
      generalize strOfNums (xs.take 8) = T8 at *
      generalize fanRL xs = F at *
      generalize fanR xs 255 = y at *
      go_enter Tryd.func17, Tryd.ntmps17
      go_wp2_with fail
      refine Calls.mono KC.out (fun e w1 hp => ?_)
      obtain ⟨rfl, hb1⟩ := hp
      obtain ⟨w2, hw2, hB2, hs2, hbk2⟩ := box_fan w1 F
      have KIs := Kept.mk (isSorted_any w1.heap.size 256 F w2 61 hbk2 KFl.out (by omega) (by omega))
      have KB2 := Kept.mk (hb1.trans (hB2.mono hb1.size))
      have KBk := Kept.mk hbk2
      clear hb1 hB2 hbk2 cv8 hne'
      generalize hCF : (cellsK .u64 F).toArray = CF at *
      clear hCF
      obtain ⟨U, hU⟩ : ∃ U, upB F = U := ⟨_, rfl⟩
      rw [hU] at KIs KE2
      clear hU
      go_wp2_with (refine BigFrame.wpList_want rfl (fun K hK => wp_store_row 61 _ _ rfl w1.heap.size CF rfl rfl 61 _ (heap_alloc_new w1 _) KFi.out (by rw [KFz.out, zero_fan, List.size_toArray, cellsK_length, z256_length]) KFo.out (hK _ _ ?_)); rw [World.setRow_alloc_new])
      refine Calls.mono KIs.out (fun e w3 hp => ?_)
      obtain ⟨rfl, hb3⟩ := hp
      have KB3 := Kept.mk (KB2.out.trans (hb3.mono KB2.out.size))
      have hc3 := (KBk.out.far hb3 (by omega)).cell 255 (by rw [KFl.out]; omega)
      rw [Kg.out] at hc3
      clear hb3 KIs KBk
      cases U with
      | false =>
        have KV : Kept (E = (0, 4)) := ⟨by rw [KE2.out, if_pos rfl]⟩
        go_wp2
        go_ret2
        exact ⟨by rw [KV.out]; rfl, KB3.out⟩
      | true =>
        by_cases h4 : 4096 < y
        · have d4 : decide (4096 < y) = true := decide_eq_true h4
          have KV : Kept (E = (0, 10)) := ⟨by rw [KE2.out, if_neg (by decide), if_pos h4]⟩
          go_wp2
          go_ret2
          exact ⟨by rw [KV.out]; rfl, KB3.out⟩
        · have d4 : decide (4096 < y) = false := decide_eq_false h4
          have KV : Kept (E = (y, 0)) := ⟨by rw [KE2.out, if_neg (by decide), if_neg h4]⟩
          have e4 : IntKind.i64.wrap y = y := wr64 (by omega) (by omega)
          go_wp2
          go_ret2
          exact ⟨by rw [KV.out]; rfl, KB3.out⟩
    · rw [decide_eq_false h2] at hne hse
      have hne' : ((strOfNums (xs.take 8)).toList == [255, 116, 79, 99, 0, 0, 0, 2]) = false := hne
      have KV : Kept (E = (0, 4)) := ⟨by rw [KE.out, if_neg h1, if_pos h2]⟩
      clear hne h1 h2
      generalize strOfNums (xs.take 8) = T8 at *
      go_enter Tryd.func17, Tryd.ntmps17
      go_wp2
      go_ret2
      exact ⟨by rw [KV.out]; rfl, Below.refl _ _⟩


theorem results_tmp_row {P : Program} {fn : Func} {t p : Tmp} {ty : TypeId} (h : fn.results = #[.tmp t, .cell p ty]) (tmps : Array Value) (w : World) (g : Nat) (t' : TypeId) (cs : Array Value) (fr : Nat × Nat) (d : TypeDesc)
    (hp : tmps.getD p undef = .pointer (some ⟨g, 0, none⟩)) (hg : w.heap[g]? = some (.cells cs t' fr))
    (hu : P.underlying ty = some d) (hd : (match d with | .struct _ | .array _ _ => true | _ => false) = true) (hi : (P.info? ty).map (·.size) = some cs.size) :
    (results fn tmps).run P w = .ok (.tuple #[tmps.getD t undef, .agg cs]) w := by
  have hp' : tmps[p]?.getD undef = .pointer (some ⟨g, 0, none⟩) := by simpa using hp
  simp [results, h, hp', asAddr, run_loadVar_row w g t' ty cs fr d hg hu hd hi]
theorem results_trt {P : Program} {fn : Func} {t p u : Tmp} {ty : TypeId} (h : fn.results = #[.tmp t, .cell p ty, .tmp u]) (tmps : Array Value) (w : World) (g : Nat) (t' : TypeId) (cs : Array Value) (fr : Nat × Nat) (d : TypeDesc)
    (hp : tmps.getD p undef = .pointer (some ⟨g, 0, none⟩)) (hg : w.heap[g]? = some (.cells cs t' fr))
    (hu : P.underlying ty = some d) (hd : (match d with | .struct _ | .array _ _ => true | _ => false) = true) (hi : (P.info? ty).map (·.size) = some cs.size) :
    (results fn tmps).run P w = .ok (.tuple #[tmps.getD t undef, .agg cs, tmps.getD u undef]) w := by
  have hp' : tmps[p]?.getD undef = .pointer (some ⟨g, 0, none⟩) := by simpa using hp
  simp [results, h, hp', asAddr, run_loadVar_row w g t' ty cs fr d hg hu hd hi]
theorem results_rt {P : Program} {fn : Func} {p u : Tmp} {ty : TypeId} (h : fn.results = #[.cell p ty, .tmp u]) (tmps : Array Value) (w : World) (g : Nat) (t' : TypeId) (cs : Array Value) (fr : Nat × Nat) (d : TypeDesc)
    (hp : tmps.getD p undef = .pointer (some ⟨g, 0, none⟩)) (hg : w.heap[g]? = some (.cells cs t' fr))
    (hu : P.underlying ty = some d) (hd : (match d with | .struct _ | .array _ _ => true | _ => false) = true) (hi : (P.info? ty).map (·.size) = some cs.size) :
    (results fn tmps).run P w = .ok (.tuple #[.agg cs, tmps.getD u undef]) w := by
  have hp' : tmps[p]?.getD undef = .pointer (some ⟨g, 0, none⟩) := by simpa using hp
  simp [results, h, hp', asAddr, run_loadVar_row w g t' ty cs fr d hg hu hd hi]

def z32 : List Int := List.replicate 32 0
theorem z32_length : z32.length = 32 := List.length_replicate
theorem z32_cells : (#[.int .u8 0, .int .u8 0, .int .u8 0, .int .u8 0, .int .u8 0, .int .u8 0, .int .u8 0, .int .u8 0, .int .u8 0, .int .u8 0, .int .u8 0, .int .u8 0, .int .u8 0, .int .u8 0, .int .u8 0, .int .u8 0, .int .u8 0, .int .u8 0, .int .u8 0, .int .u8 0, .int .u8 0, .int .u8 0, .int .u8 0, .int .u8 0, .int .u8 0, .int .u8 0, .int .u8 0, .int .u8 0, .int .u8 0, .int .u8 0, .int .u8 0, .int .u8 0] : Array Value) = (cellsK .u8 z32).toArray := rfl
/-- Two ids of noughts. -/
theorem two_ids (w : World) : ∃ w0, (w.alloc (.cells (cellsK .u8 z32).toArray 24)).alloc (.cells (cellsK .u8 z32).toArray 24) = w0 ∧ BlkK .u8 w0 w.heap.size 24 z32 ∧ BlkK .u8 w0 (w.heap.size + 1) 24 z32 ∧ w0.heap.size = w.heap.size + 2 ∧ Below w.heap.size w w0 := by
  have hB : Below w.heap.size w ((w.alloc (.cells (cellsK .u8 z32).toArray 24)).alloc (.cells (cellsK .u8 z32).toArray 24)) := ((Below.refl _ _).alloc (Nat.le_refl _) _).alloc (by simp) _
  refine ⟨_, rfl, ?_, ?_, by simp, hB⟩
  · exact (alloc_blkK .u8 w z32 _).far ((Below.refl (w.heap.size + 1) _).alloc (by simp) _) (by omega)
  · have := alloc_blkK .u8 (w.alloc (.cells (cellsK .u8 z32).toArray 24)) z32 24
    rwa [show (w.alloc (.cells (cellsK .u8 z32).toArray 24)).heap.size = w.heap.size + 1 by simp] at this
theorem below_setRow {B : Nat} {a w : World} (h : Below B a w) {g : Nat} (hg : B ≤ g) (cs : Array Value) : Below B a (w.setRow g cs) :=
  ⟨h.os, h.tape, h.output, by simpa using h.size, fun k hk => by
    rw [setRow_other _ _ _ _ (by omega)]
    exact h.block k hk⟩

set_option maxHeartbeats 2000000 in
set_option maxRecDepth 100000 in
theorem cutId_any {S : Nat → Prop} (v : Value) (xs : List Int) (w : World) (h : Rd .u8 S w v xs) (hx : 33 ≤ xs.length) (hl : xs.length + 20 ≤ 140737488355328) :
    Calls Tryd.prog 19 #[v] w fun e w' => ∃ v', e = .returned (.tuple #[v', .agg (cellsK .u8 (seg xs (xs.length - 32) 32)).toArray]) ∧ Rd .u8 S w' v' (xs.take (xs.length - 32)) ∧ Below w.heap.size w w' := by
  obtain ⟨b, off, c, rfl, hblt, hlc, hcm, hSb, hcell⟩ := h.open (by omega)
  obtain ⟨w0, hw0, hb0, hb1, hs0, hB0⟩ := two_ids w
  have hgl : (seg xs (xs.length - 32) 32).length = 32 := seg_len _ _ _ (by omega)
  obtain ⟨n, hn⟩ : ∃ n, xs.length = n + 32 := ⟨xs.length - 32, by omega⟩
  have hn' : xs.length - 32 = n := by omega
  rw [hn'] at hgl ⊢
  have KR : Kept (∀ w', Below w.heap.size w w' → Rd .u8 S w' (.slice (some ⟨b, off, none⟩) n c) (xs.take n)) := ⟨fun w' hb => by
    have hlt : (xs.take n).length = n := by rw [List.length_take]; omega
    refine ⟨some ⟨b, off, none⟩, c, by rw [hlt], by omega, hcm, (fun h => by cases h), fun _ => ⟨b, off, rfl, Nat.lt_of_lt_of_le hblt hb.size, hSb, fun i hi => ?_⟩⟩
    rw [hlt] at hi
    rw [hb.cell (p := ⟨b, off + i, none⟩) hblt, hcell i (by omega)]
    simp [List.getD, hi]⟩
  have KSrc : Kept (∀ (m j : Nat) (u : Value), (cellsK .u8 (seg xs n 32))[j]? = some u → (w0.drewN m).cell? ((⟨b, off + n, none⟩ : Addr).add j) = some u) := ⟨fun m j u hj => by
    obtain ⟨hj', rfl⟩ := cellsK_get hj
    rw [hgl] at hj'
    rw [add_plain]
    have e := hB0.cell (p := ⟨b, off + (n + j), none⟩) hblt
    rw [hcell (n + j) (by omega)] at e
    rw [Nat.add_assoc]
    refine e.trans ?_
    unfold seg
    simp [List.getD, hj']⟩
  have hw0' : (w.alloc (.cells #[.int .u8 0, .int .u8 0, .int .u8 0, .int .u8 0, .int .u8 0, .int .u8 0, .int .u8 0, .int .u8 0, .int .u8 0, .int .u8 0, .int .u8 0, .int .u8 0, .int .u8 0, .int .u8 0, .int .u8 0, .int .u8 0, .int .u8 0, .int .u8 0, .int .u8 0, .int .u8 0, .int .u8 0, .int .u8 0, .int .u8 0, .int .u8 0, .int .u8 0, .int .u8 0, .int .u8 0, .int .u8 0, .int .u8 0, .int .u8 0, .int .u8 0, .int .u8 0] 24)).alloc (.cells #[.int .u8 0, .int .u8 0, .int .u8 0, .int .u8 0, .int .u8 0, .int .u8 0, .int .u8 0, .int .u8 0, .int .u8 0, .int .u8 0, .int .u8 0, .int .u8 0, .int .u8 0, .int .u8 0, .int .u8 0, .int .u8 0, .int .u8 0, .int .u8 0, .int .u8 0, .int .u8 0, .int .u8 0, .int .u8 0, .int .u8 0, .int .u8 0, .int .u8 0, .int .u8 0, .int .u8 0, .int .u8 0, .int .u8 0, .int .u8 0, .int .u8 0, .int .u8 0] 24) = w0 := hw0
  have K0 := Kept.mk hb0
  have K1 := Kept.mk hb1
  have KB0 := Kept.mk hB0
  have Kgl := Kept.mk hgl
  generalize seg xs n 32 = D at *
  have e1 : IntKind.i64.wrap ((xs.length : Int) - 32) = (n : Int) := by rw [hn, wr64 (by omega) (by omega)]; omega
  have e2 : (n : Int) ≤ (xs.length : Int) := by omega
  have e3 : (xs.length : Int) ≤ (c : Int) := by omega
  have e4 : ¬ c = n := by omega
  have e5 : (n : Int) ≤ (c : Int) := by omega
  have KL := Kept.mk hn
  have hd0 : xs.length - n = 32 := by omega
  clear h hcell hb0 hb1 hB0 hgl hw0 hn hn' hcm
  go_enter Tryd.func19, Tryd.ntmps19
  go_upto_region 2 with fail
  clear hw0'
  refine wp_region_last _ 6 (by kernel_rfl) (by kernel_rfl) rfl rfl ?_
  simp only [List.take_succ_cons, List.take_zero]
  repeat (first | go_big_quiet_step (fail) | quiet_step (fail))
  refine wpQuiet_nil ?_
  intro m
  refine Sh.wp_copy _ _ _ _ _ rfl _ _ rfl rfl (run_copy_row Tryd.prog (w0.drewN m) 22 22 3 5 (w.heap.size + 1) 0 32 32 ⟨b, off + n, none⟩ 32 (c - n) (cellsK .u8 z32).toArray 24 (cellsK .u8 D) Tryd.underlying22 rfl K1.out (by rw [cellsK_length, Kgl.out]; rfl) (KSrc.out m) (by rw [cellsK_length, Kgl.out, List.size_toArray, cellsK_length, z32_length]; omega) (cellsK_one _ _)) ?_
  have hrow : (List.take 0 (cellsK .u8 z32).toArray.toList ++ cellsK .u8 D ++ List.drop (0 + (cellsK .u8 D).length) (cellsK .u8 z32).toArray.toList).toArray = (cellsK .u8 D).toArray := by
    rw [cellsK_length, Kgl.out, List.drop_eq_nil_of_le (by rw [cellsK_length, z32_length]; omega), List.append_nil]
    rfl
  rw [hrow]
  obtain ⟨W, hW⟩ : ∃ W, (w0.drewN m).setRow (w.heap.size + 1) (cellsK .u8 D).toArray = W := ⟨_, rfl⟩
  have B1 : BlkK .u8 W (w.heap.size + 1) 24 D := by rw [← hW]; exact setRow_heap _ _ _ _ _ _ K1.out
  have B0 : BlkK .u8 W w.heap.size 24 z32 := by rw [← hW]; exact (setRow_other _ _ _ _ (by omega)).trans K0.out
  have BB : Below w.heap.size w W := by rw [← hW]; exact below_setRow (below_drewN KB0.out m) (by omega) _
  rw [hW]
  have HR : Kept (∀ W', (∃ q, W' = W.drewN q) → W'.rangeAt (w.heap.size + 1) 0 (cellsK .u8 D)) := ⟨fun W' hq => by
    obtain ⟨q, rfl⟩ := hq
    exact (B1.drewN q).range⟩
  have HT : Kept (∀ q, (W.drewN q).there w.heap.size 0 (cellsK .u8 D).toArray.size) := ⟨fun q => (B0.drewN q).there _ (by rw [List.size_toArray, cellsK_length, Kgl.out, z32_length])⟩
  have HI : Kept ((Tryd.prog.info? 24).map (·.size) = some (cellsK .u8 D).length) := ⟨by rw [cellsK_length, Kgl.out]; exact info_id⟩
  have HI2 : Kept ((Tryd.prog.info? 24).map (·.size) = some (cellsK .u8 D).toArray.size) := ⟨by rw [List.size_toArray]; exact HI.out⟩
  have HO := Kept.mk (cellsK_all .u8 D)
  have HF : Kept (∀ q, BlkK .u8 ((W.drewN q).setCells w.heap.size 0 (cellsK .u8 D)) w.heap.size 24 D) := ⟨fun q => (B0.drewN q).over (by rw [Kgl.out, z32_length])⟩
  have HB : Kept (∀ q, Below w.heap.size w ((W.drewN q).setCells w.heap.size 0 (cellsK .u8 D))) := ⟨fun q => Sh.below_cells (b := w.heap.size) (Nat.le_refl _) (cellsK .u8 D) 0 w _ (below_drewN BB q)⟩
  clear hW B0 B1 BB hrow K0 K1 KB0 KSrc hs0
  go_upto_region 3 with fail
  refine wp_region_last _ 7 (by kernel_rfl) (by kernel_rfl) rfl rfl ?_
  simp only [List.take_succ_cons, List.take_zero]
  repeat (first | go_big_quiet_step (fail) | quiet_step (fail))
  refine BigFrame.wpQuiet_want rfl (fun K hK => quiet_load_mid 24 _ rfl (w.heap.size + 1) 0 rfl (cellsK .u8 D) _ HR.out Tryd.underlying24 rfl HI.out (hK _ ?_))
  clear hK K
  simp only [Act.put, List.setIfInBounds_toArray, List.set_cons_zero, List.set_cons_succ]
  repeat (first | go_big_quiet_step (fail) | quiet_step (fail))
  refine wpQuiet_nil ?_
  intro q
  refine wp_store_mid 24 _ _ rfl w.heap.size 0 (cellsK .u8 D).toArray rfl rfl (HT.out q) HI2.out HO.out ?_
  have e6 : (cellsK .u8 D).toArray.toList = cellsK .u8 D := rfl
  rw [e6]
  go_wp2
  refine bodyPost_ret (v := .tuple #[.slice (some ⟨b, off, none⟩) n c, .agg (cellsK .u8 D).toArray]) (results_tmp_row (t := 2) (p := 3) (ty := 24) Tryd.results19 _ _ w.heap.size 24 _ (0, 0) _ rfl (HF.out q) Tryd.underlying24 rfl HI2.out) rfl ⟨_, rfl, KR.out _ (HB.out q), HB.out q⟩
end Go.Proofs.YtgoegmaepafopaaDoor
