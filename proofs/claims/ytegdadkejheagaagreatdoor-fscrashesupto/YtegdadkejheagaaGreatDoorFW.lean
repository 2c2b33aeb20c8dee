/-
  Walks: awake.
-/
import Derived.Test.YtegdadkejheagaaGreatDoorFW0
import Derived.Lib.SlBytesConst
namespace Go.Proofs.YtegdadkejheagaaGreatDoor
open Go.RowKit Go.WideMaps Go.Maps

/-- Only blocks that are there. -/
theorem Dk.cut {w : World} {B : Nat → Prop} {d n : Nat} {S : St} (h : Dk w B d S n) : Dk w (fun i => B i ∧ i < w.heap.size) d S n := h.weak (fun _ hi hb => ⟨hb, hi⟩) (Nat.le_refl _)

theorem Rd.litF (k : IntKind) (w : World) (xs : List Int) (t : TypeId) (fr : Nat × Nat) (h : xs.length ≤ 1000) : Rd k (fun g => g = w.heap.size) (w.alloc (.cells (cellsK k xs).toArray t fr)) (.slice (some ⟨w.heap.size, 0, none⟩) xs.length xs.length) xs := by
  refine ⟨some ⟨w.heap.size, 0, none⟩, xs.length, rfl, Nat.le_refl _, by unfold maxLen; omega, (fun h => by cases h), fun _ => ⟨w.heap.size, 0, rfl, by simp, rfl, fun i hi => ?_⟩⟩
  have hh := heap_alloc_new w (.cells (cellsK k xs).toArray t fr)
  simp only [Nat.zero_add, World.cell?, hh]
  simp [cellsK, List.getD, List.getElem?_eq_getElem hi]
theorem conv_const (w : World) (C : Array Value) (n c : Nat) : (convert 23 23 (.slice (some ⟨w.heap.size, 0, none⟩) n c)).run Tryz.prog (w.alloc (.cells C 5)) = .ok (.slice (some ⟨w.heap.size, 0, none⟩) n c) (w.alloc (.cells C 5 (C.size, C.size + 1))) :=
  Lib.run_convert_bytes_const w _ _ C n c Tryz.underlying23 Tryz.underlying5
/-- The bytes of a text that the program has. -/
theorem lit_step (w : World) (xs : List Int) (h : xs.length ≤ 1000) : ∃ wa, (convert 23 23 (.slice (some ⟨w.heap.size, 0, none⟩) xs.length xs.length)).run Tryz.prog (w.alloc (.cells (cellsK .u8 xs).toArray 5)) = .ok (.slice (some ⟨w.heap.size, 0, none⟩) xs.length xs.length) wa ∧
    Rd .u8 anyB wa (.slice (some ⟨w.heap.size, 0, none⟩) xs.length xs.length) xs ∧ Below w.heap.size w wa :=
  ⟨_, conv_const w _ _ _, (Rd.litF .u8 w xs 5 _ h).any, (Below.refl w.heap.size w).alloc (Nat.le_refl _) _⟩
theorem AllB.of {xs : List Int} (h : xs.all (fun x => decide (0 ≤ x) && decide (x < 256)) = true) : AllB xs := fun x hx => by
  have := List.all_eq_true.1 h x hx
  simp only [Bool.and_eq_true, decide_eq_true_eq] at this
  exact this
theorem rd_made (w : World) (xs : List Int) (hl : xs.length ≤ maxLen) (T : TypeId) : Rd .u8 (fun b => b = w.heap.size) (w.alloc (.cells (cellsK .u8 xs).toArray T)) (.slice (some ⟨w.heap.size, 0, none⟩) xs.length xs.length) xs :=
  ⟨some ⟨w.heap.size, 0, none⟩, xs.length, rfl, Nat.le_refl _, hl, (fun e => nomatch e), fun _ => ⟨w.heap.size, 0, rfl, by simp, rfl, fun i hi => by
    rw [Nat.zero_add, (Bk.new w T (cellsK .u8 xs)).cell i (.int .u8 (xs.getD i 0)) (by unfold cellsK; rw [List.getElem?_map, List.getElem?_eq_getElem hi]; simp [List.getD, List.getElem?_eq_getElem hi])]⟩⟩
/-- What is read lies in its own block. -/
theorem rd_block {S B : Nat → Prop} {w : World} {g off n c : Nat} {xs : List Int} (h : Rd .u8 S w (.slice (some ⟨g, off, none⟩) n c) xs) (hB : ¬ B g) : Rd .u8 (fun b => ¬ B b) w (.slice (some ⟨g, off, none⟩) n c) xs := by
  obtain ⟨a, c', hv, h1, h2, h3, h4⟩ := h
  refine ⟨a, c', hv, h1, h2, h3, fun h0 => ?_⟩
  obtain ⟨b, o, ha, hl, hs, hc⟩ := h4 h0
  subst ha
  injection hv with e1 _ _
  injection e1 with e1
  injection e1 with e1 _ _
  subst e1
  exact ⟨_, o, rfl, hl, hB, hc⟩
/-- The second cell of the first file that is told. -/
theorem OwnF.cell {w : World} {base : Nat} {v : Value} {c : FlC} {l : List FlC} (h : OwnF w base v (c :: l)) : ∃ g cap, v = .slice (some ⟨g, 0, none⟩) (l.length + 1) cap ∧ w.cell? ⟨g, 1, none⟩ = some c.v := by
  rcases h.own.2 with ⟨h1, h2⟩ | ⟨g, cap, cur, h1, -⟩
  · simp at h2
  · refine ⟨g, cap, by rw [h1]; rfl, ?_⟩
    have h3 := h.own
    subst h1
    have := World.ownsRow.cells h3 (g := g) rfl 1 c.v rfl
    rw [add_plain, Nat.zero_add] at this
    exact this
def pAB : ByteArray := ⟨#[97, 47, 98]⟩
theorem pAB_path : pathF pAB = true := by kernel_rfl
/-- The disk that awake makes. -/
structure AwS (s : Ps) (f : Nat) : Prop where
  calm : Calm s
  quota : s.quota = 100
  N : ∀ p, s.N p = if p = pAB then some f else none
  L : ∀ p, s.L p = none
  C : ∀ q, s.C q = if q = folF pAB then [crC pAB f] else []
  F : s.F f = some ([120, 121, 122], 0)
theorem aw_one {s1 : Ps} (h : CrP (newS 100).ps pAB s1) : Calm s1 ∧ s1.quota = 100 ∧ s1.used = 0 ∧ ∃ f, (∀ p, s1.N p = if p = pAB then some f else none) ∧ (∀ p, s1.L p = none) ∧ (∀ q, s1.C q = if q = folF pAB then [crC pAB f] else []) ∧ s1.F f = some ([], 0) := by
  have hc := (calm_new 100).cr h
  obtain ⟨f, -, rfl⟩ := (calm_new 100).created pAB_path rfl h
  refine ⟨hc, by show (bgP (newS 100).ps).quota = 100; rw [(calm_new 100).bgP_eq]; rfl, by show (bgP (newS 100).ps).used = 0; rw [bgP_used]; rfl, f, fun p => ?_, fun p => ?_, fun q => ?_, ?_⟩
  · show apl (bgP (newS 100).ps).N (crC pAB f) p = _
    rw [bgP_N]
    show upd (upd (fun _ => none) ByteArray.empty none) pAB (some f) p = _
    unfold upd
    split
    · rfl
    · split <;> rfl
  · show (bgP (newS 100).ps).L p = none
    rw [bgP_L]
    rfl
  · show upd (bgP (newS 100).ps).C (folF pAB) ((bgP (newS 100).ps).C (folF pAB) ++ [crC pAB f]) q = _
    rw [bgP_C]
    show upd (fun _ => []) (folF pAB) ([] ++ [crC pAB f]) q = _
    unfold upd
    split <;> rfl
  · show upd (newS 100).ps.F f (some ([], 0)) f = _
    rw [upd_same]
theorem aw_two {s1 : Ps} (h : CrP (newS 100).ps pAB s1) : apE s1 pAB 3 = 0 ∧ ∃ f, AwS (apP s1 pAB [120, 121, 122]) f := by
  obtain ⟨hc, hq, hu, f, hN, hL, hC, hF⟩ := aw_one h
  have hf : fileP s1 pAB = some (f, [], 0) := by
    unfold fileP
    rw [hN, if_pos rfl]
    show (s1.F f).map _ = _
    rw [hF]
    rfl
  refine ⟨hc.apE pAB_path hf (by decide) (by rw [hu, hq]; decide), f, ⟨hc.ap _ _, ?_, fun p => ?_, fun p => ?_, fun q => ?_, ?_⟩⟩ <;> rw [hc.apP pAB_path hf (by decide) (by rw [hu, hq]; decide)]
  · show (bgP s1).quota = 100
    rw [hc.bgP_eq]
    exact hq
  · show (bgP s1).N p = _
    rw [bgP_N]
    exact hN p
  · show (bgP s1).L p = _
    rw [bgP_L]
    exact hL p
  · show (bgP s1).C q = _
    rw [bgP_C]
    exact hC q
  · show upd s1.F f (some ([] ++ [120, 121, 122], 0)) f = _
    rw [upd_same]
    rfl
theorem AwS.empty {s s' : Ps} {f : Nat} (h : AwS s f) {ks ps : List ByteArray} (hc : CrD s [] s' ks ps) {l : List FlC} (hl : FlL s' l) : l = [] := by
  have hps : ps = [] := keys_none hc.hps (fun p => by rw [svF_zero]; unfold nmV; rw [h.L]; rfl)
  have hi := hc.cri
  rw [hps] at hi
  have hi : CrI s.quota [] s' := hi
  unfold FlL at hl
  rw [if_neg (by rw [hi.dark]; decide)] at hl
  obtain ⟨ps', hk, hm⟩ := hl
  have : ps' = [] := keys_none hk (fun p => by unfold nmV; rw [hi.no p (by simp)]; rfl)
  rw [this] at hm
  exact List.map_eq_nil_iff.1 hm
theorem AwS.two {s s' : Ps} {f : Nat} (h : AwS s f) {ks ps : List ByteArray} (hc : CrD s [1, 2, 0] s' ks ps) {l : List FlC} (hl : FlL s' l) : ∃ c, l = [c] ∧ c.xs = [120, 121] := by
  have hks : ks = [folF pAB] := keys_one hc.hks (folF pAB) (fun q => by
    rw [h.C]
    by_cases e : q = folF pAB <;> simp [e])
  have hsv : svF s.C [1, 2, 0] s.L 0 ks = upd (upd s.L ByteArray.empty none) pAB (some f) := by
    rw [hks]
    show ((s.C (folF pAB)).take ((chs [1, 2, 0] 0).toNat % ((s.C (folF pAB)).length + 1))).foldl apl s.L = _
    rw [h.C, if_pos rfl]
    rfl
  have hps : ps = [pAB] := keys_one hc.hps pAB (fun p => by
    rw [hsv]
    unfold nmV upd
    by_cases e : p = pAB
    · simp [e]
    · rw [if_neg e]
      split
      · simp [e]
      · rw [h.L]; simp [e])
  have hi := hc.cri
  have hg : (crG (svF s.C [1, 2, 0] s.L 0 ks) s.F [1, 2, 0] ks.length ps).1 = [(pAB, [120, 121])] := by
    rw [hsv, hps, hks]
    show (crO _ _ _ ([], 1) pAB).1 = _
    unfold crO
    rw [upd_same]
    show (match s.F f with | none => _ | some x => _ : List (ByteArray × List Int) × Nat).1 = _
    rw [h.F]
    rfl
  rw [hg] at hi
  unfold FlL at hl
  rw [if_neg (by rw [hi.dark]; decide)] at hl
  obtain ⟨ps', hk, hm⟩ := hl
  obtain ⟨g, hN, hF⟩ := hi.yes pAB [120, 121] (by simp)
  have hps' : ps' = [pAB] := keys_one hk pAB (fun p => by
    unfold nmV
    by_cases e : p = pAB
    · rw [e, hN]; simp
    · rw [hi.no p (by simp [e])]; simp [e])
  rw [hps'] at hm
  have hfp : fileP s' pAB = some (g, [120, 121], 2) := by
    unfold fileP
    rw [hN]
    show (s'.F g).map _ = _
    rw [hF]
    rfl
  have hm : l.map (fun c : FlC => (c.p, c.xs)) = [(pAB, match fileP s' pAB with | none => [] | some (_, xs, _) => xs)] := hm
  rw [hfp] at hm
  cases l with
  | nil => cases hm
  | cons c l =>
    cases l with
    | nil =>
      simp only [List.map_cons, List.map_nil, List.cons.injEq, Prod.mk.injEq, and_true] at hm
      exact ⟨c, rfl, hm.2⟩
    | cons c2 l =>
      simp at hm
set_option maxRecDepth 100000 in
set_option maxHeartbeats 4000000 in
theorem awake_any (w : World) (hg : Gl w) : Calls Tryz.prog 4 #[] w fun e w' => e = .returned (.bool true) ∧ Below w.heap.size w w' := by
  have KG := Kept.mk hg
  have KNew := Kept.mk (new_any 100 w (by decide))
  have Kgw := Kept.mk hg.lo
  clear hg
  go_enter Tryz.func4, Tryz.ntmps4
  go_wp2_with fail
  refine Calls.mono KNew.out (fun e w1 hp => ?_)
  obtain ⟨rfl, hd1, hb1⟩ := hp
  have KB1 := Kept.mk hb1
  have KG1 := Kept.mk (KG.out.later hb1)
  have KCr := Kept.mk (create_any pAB hd1 KG1.out (by decide) (by decide) KG.out.lo (by decide) (by decide))
  have e1 : crE (newS 100).ps pAB = 0 := (calm_new 100).crE pAB_path rfl
  rw [e1] at KCr
  obtain ⟨d, hd⟩ : ∃ d, w.heap.size = d := ⟨_, rfl⟩
  have Kd := Kept.mk hd
  have Kgd : Kept (3 ≤ d) := ⟨by rw [← hd]; exact Kgw.out⟩
  rw [hd] at KCr ⊢
  clear hd1 hb1 KNew hd e1
  go_wp2_with fail
  refine Calls.mono KCr.out (fun e w2 hp => ?_)
  obtain ⟨rfl, S2, hd2, hcr2, hF2, hm2⟩ := hp
  have Kaw := Kept.mk (aw_two hcr2)
  have Kon := Kept.mk (aw_one hcr2)
  have KB2 : Kept (Below w.heap.size w w2) := ⟨KB1.out.trans (hF2.below KB1.out.size (fun i hi e => by have := Kd.out; omega))⟩
  have KD2 := Kept.mk hd2.cut
  have Kcn : Kept (S2.count = 1) := ⟨(calm_new 100).cr_count hcr2⟩
  have Km2 : Kept (S2.m ≤ 1) := ⟨hm2⟩
  clear hd2 hcr2 hF2 KCr hm2
  obtain ⟨w3, hcv, hr3, hb3⟩ := lit_step w2 [120, 121, 122] (by decide)
  have hcv : (convert 23 23 (.slice (some ⟨w2.heap.size, 0, none⟩) 3 3)).run Tryz.prog (w2.alloc (.cells #[.int .u8 120, .int .u8 121, .int .u8 122] 5)) = .ok (.slice (some ⟨w2.heap.size, 0, none⟩) 3 3) w3 := hcv
  have KB3 : Kept (Below w.heap.size w w3) := ⟨KB2.out.trans (hb3.mono KB2.out.size)⟩
  have KG3 := Kept.mk (KG.out.later KB3.out)
  have hu2 : S2.used = 0 := Kon.out.2.2.1
  have hc2 : S2.count = 1 := Kcn.out
  have KAp := Kept.mk (append_any pAB _ [120, 121, 122] (KD2.out.later hb3) KG3.out (by omega) (by omega) Kgd.out (rd_block hr3 (fun hb => by have := hb.2; omega)) (AllB.of (by decide)) (by decide) (by omega) (by omega))
  have e2 : apE S2.ps pAB ([120, 121, 122] : List Int).length = 0 := Kaw.out.1
  rw [e2] at KAp
  have Ks3 := Kept.mk hb3.size
  clear hb3 hr3 e2 hu2 hc2
  go_wp2_with (rw [hcv])
  refine Calls.mono KAp.out (fun e w4 hp => ?_)
  obtain ⟨rfl, S4, hd4, hps4, hF4, hm4⟩ := hp
  have Kaw4 : Kept (∃ f, AwS S4.ps f) := ⟨by rw [hps4]; exact Kaw.out.2⟩
  have KB4 : Kept (Below w.heap.size w w4) := ⟨KB3.out.trans (hF4.below KB3.out.size (fun i hi e => by
    rcases e.1 with e | e
    · have := Kd.out; omega
    · have := KB1.out.size; omega))⟩
  have hd4c := hd4.cut
  have KD4 := Kept.mk hd4c
  have Km4 : Kept (S4.m ≤ 1) := ⟨by rw [hm4]; exact Km2.out⟩
  clear hd4 hps4 hF4 hm4 KAp hcv
  have KC1 := Kept.mk (crash_any (.slice none 0 0) [] hd4c (Rd.nil _ _ _) AllIn.nil (by have := Km4.out; have : 2 * S4.m ≤ 2 * 1 := Nat.mul_le_mul_left _ this; omega))
  clear hd4c
  go_wp2_with fail
  refine Calls.mono KC1.out (fun e w5 hp => ?_)
  obtain ⟨d5, S5, n5, ks5, ps5, B5, rfl, hd5, -, -, hb5, hn5, -, hcr5⟩ := hp
  have KB5 : Kept (Below w.heap.size w w5) := ⟨KB4.out.trans (hb5.mono KB4.out.size)⟩
  have KD5 := Kept.mk (KD4.out.later hb5)
  have Kcr5 := Kept.mk hcr5
  have hmm : 2 * S4.m ≤ 2 := by have := Km4.out; omega
  have KF5 := Kept.mk (files_any hd5 (by omega))
  clear hd5 hb5 hn5 hcr5 KC1
  go_wp2_with fail
  refine Calls.mono KF5.out (fun e w6 hp => ?_)
  obtain ⟨v6, l6, rfl, hof6, hfl6, hb6⟩ := hp
  have hl6 : l6 = [] := by
    obtain ⟨f, hf⟩ := Kaw4.out
    exact hf.empty Kcr5.out hfl6
  subst hl6
  obtain ⟨a6, c6, rfl⟩ := hof6.form
  have hdk5 : rdyE S5.dark = 0 := by
    have h : S5.ps.dark = false := Kcr5.out.cri.dark
    show rdyE S5.ps.dark = 0
    rw [h]; rfl
  rw [hdk5]
  have KB6 : Kept (Below w.heap.size w w6) := ⟨KB5.out.trans (hb6.mono KB5.out.size)⟩
  have KD6 := Kept.mk (KD5.out.later hb6)
  clear hof6 hfl6 hb6 hdk5 KF5
  obtain ⟨w7, hw7⟩ : ∃ w7, w6.alloc (.cells #[.int .u8 1, .int .u8 2, .int .u8 0] 5) = w7 := ⟨_, rfl⟩
  have hb7 : Below w6.heap.size w6 w7 := by rw [← hw7]; exact (Below.refl _ _).alloc (Nat.le_refl _) _
  have hr7 : Rd .u8 (fun b => b = w6.heap.size) w7 (.slice (some ⟨w6.heap.size, 0, none⟩) 3 3) [1, 2, 0] := by rw [← hw7]; exact rd_made w6 [1, 2, 0] (by decide) 5
  have KB7 : Kept (Below w.heap.size w w7) := ⟨KB6.out.trans (hb7.mono KB6.out.size)⟩
  have KC7 := Kept.mk (crash_any _ [1, 2, 0] (KD6.out.later hb7) hr7.any (AllB.of (by decide)) (by omega))
  clear hb7 hr7
  go_wp2_with fail
  refine Calls.mono KC7.out (fun e w8 hp => ?_)
  obtain ⟨d8, S8, n8, ks8, ps8, B8, rfl, hd8, -, -, hb8, hn8, -, hcr8⟩ := hp
  have KB8 : Kept (Below w.heap.size w w8) := ⟨KB7.out.trans (hb8.mono KB7.out.size)⟩
  have Kcr8 := Kept.mk hcr8
  have KF8 := Kept.mk (files_any hd8 (by omega))
  clear hd8 hb8 hn8 hcr8 KC7
  go_wp2_with fail
  refine Calls.mono KF8.out (fun e w9 hp => ?_)
  obtain ⟨v9, l9, rfl, hof9, hfl9, hb9⟩ := hp
  obtain ⟨c, hl9, hcx⟩ : ∃ c, l9 = [c] ∧ c.xs = [120, 121] := by
    obtain ⟨f, hf⟩ := Kaw4.out
    exact hf.two Kcr8.out hfl9
  subst hl9
  have hdk8 : rdyE S8.dark = 0 := by
    have h : S8.ps.dark = false := Kcr8.out.cri.dark
    show rdyE S8.ps.dark = 0
    rw [h]; rfl
  rw [hdk8]
  have KB9 : Kept (Below w.heap.size w w9) := ⟨KB8.out.trans (hb9.mono KB8.out.size)⟩
  obtain ⟨g9, c9, hv9, hk9⟩ := hof9.cell
  have hd9 := hof9.dat c (by simp)
  obtain ⟨a9, e9, hcv9⟩ := own_form hd9
  have hcx2 : c.xs.length = 2 := by rw [hcx]; rfl
  have hstr := hd9.rd.str (P := Tryz.prog) (src := 23) Tryz.underlying23 Tryz.underlying5 9 Tryz.underlying9
  have exy : strOfNums [120, 121] = { data := #[120, 121] } := by kernel_rfl
  rw [hcx, exy, hcv9, hcx2] at hstr
  rw [hcv9, hcx2] at hk9
  subst hv9
  clear hof9 hfl9 hb9 hd9 hcv9 hcx hcx2 exy hdk8 KF8
  go_wp2
  go_ret
  exact ⟨rfl, KB9.out⟩
end Go.Proofs.YtegdadkejheagaaGreatDoor
