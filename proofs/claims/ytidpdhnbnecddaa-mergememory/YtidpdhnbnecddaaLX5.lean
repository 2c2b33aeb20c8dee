/-
  Walks: Lines.
-/
import Derived.Test.YtidpdhnbnecddaaLX3
import Derived.Test.YtidpdhnbnecddaaVI
import Derived.Test.YtidpdhnbnecddaaV5
import Derived.Test.YtidpdhnbnecddaaV9
namespace Go.Proofs.Ytidpdhnbnecddaa
open Go.RowKit Go.Shelf
attribute [local go_sem] Oper.semAt_some

/-- Behind k bytes. -/
structure LiI (w W : World) (xs : List Int) (k : Nat) : Prop where
  st : ∃ v M, Boxed W w.heap.size 33 v ∧ OwnT W (w.heap.size + 4) v M ∧ lnS xs = M ++ lnS (xs.drop k)
  le : k ≤ xs.length
  bel : Below w.heap.size w W
theorem LiI.fx {w W W' : World} {xs : List Int} {k : Nat} (h : LiI w W xs k) (hx : Fx (fun b => b = w.heap.size + 1 ∨ b = w.heap.size + 2 ∨ b = w.heap.size + 2 + 1) W W') : LiI w W' xs k := by
  obtain ⟨⟨v, M, h1, h2, h3⟩, h4, h5⟩ := h
  refine ⟨⟨v, M, ?_, h2.far (fun g hg => hx.block g (h2.lt g hg).2 (by have := (h2.lt g hg).1; omega)), h3⟩, h4, h5.trans (hx.below h5.size (fun i hi => by omega))⟩
  exact (hx.block _ h1.lt (by omega)).trans h1
set_option maxRecDepth 100000 in
set_option maxHeartbeats 4000000 in
theorem lines_any {S : Nat → Prop} (v : Value) (xs : List Int) (w : World) (h : Rd .u8 S w v xs) (hx : AllB xs) (hl : xs.length ≤ 8796093022208) :
    Calls Try.prog 16 #[v] w fun e w' => ∃ v', e = .returned v' ∧ OwnT w' w.heap.size v' (lnS xs) ∧ Below w.heap.size w w' := by
  obtain ⟨i0, z0, hi, hz, hsz, hbt, hzc⟩ := info_str
  obtain ⟨a, c, rfl, h3, hxc, hcm⟩ := h.form
  obtain ⟨tb, to, htb, hae, hcell⟩ : ∃ tb to, (0 < xs.length → tb < w.heap.size) ∧ (0 < xs.length → a = some ⟨tb, to, none⟩) ∧ (∀ i, i < xs.length → w.cell? ⟨tb, to + i, none⟩ = some (.int .u8 (xs.getD i 0))) := by
    by_cases h0 : 0 < xs.length
    · obtain ⟨b, off, c', hv, hb, -, -, -, hcs⟩ := h.open h0
      injection hv with h1 h2 h3
      exact ⟨b, off, fun _ => hb, fun _ => h1, hcs⟩
    · exact ⟨0, 0, fun h => absurd h h0, fun h => absurd h h0, fun i hi => by omega⟩
  have KX := Kept.mk hx
  have KC := Kept.mk hcell
  have Ktb := Kept.mk htb
  clear h hx hcell htb
  refine (callsIn_wide (n := 4)).1 ?_
  refine callsIn_of_wp_marks Try.func16 rfl trivial ?_ rfl
  simp only [Try.ntmps16, List.size_toArray, List.length_cons, List.length_nil, Nat.reduceAdd, Nat.reduceSub, Array.replicate_succ, Array.replicate_zero, List.push_toArray, List.append_toArray, List.nil_append, List.cons_append]
  gi_wp2_with (refine ⟨trivial, ?_⟩; gi_at_call 30; refine (bytesLines_any _ _ _ _).mono ?_; rintro e w' ⟨rfl, rfl⟩)
  obtain ⟨w0, hw0⟩ : ∃ w0, (w.alloc (.cells #[.slice none 0 0] 33)).alloc (.cells #[.slice a xs.length c] 22) = w0 := ⟨_, rfl⟩
  have hs0 : w0.heap.size = w.heap.size + 2 := by rw [← hw0]; simp
  have bO : Boxed w0 w.heap.size 33 (.slice none 0 0) := by rw [← hw0]; exact (Boxed.new w 33 _).alloc _
  have bN : Boxed w0 (w.heap.size + 1) 22 (.slice a xs.length c) := by
    rw [← hw0]
    have h := Boxed.new (w.alloc (.cells #[.slice none 0 0] 33)) 22 (.slice a xs.length c)
    rw [World.size_alloc] at h
    exact h
  have hB0 : Below w.heap.size w w0 := by rw [← hw0]; exact ((Below.refl _ w).alloc (Nat.le_refl _) _).alloc (by simp) _
  try simp only [World.size_alloc]
  rw [hw0]
  clear hw0
  refine wpIn_range_ln rfl (by decide) (gf := 38) (lb := #[.pointer (some ⟨w.heap.size + 1, 0, none⟩)]) rfl trivial (enters_of Try.func38 (by kernel_rfl) rfl)
    (Bs := w.heap.size + 1) (B := w.heap.size) (n0 := w.heap.size) (N := xs.length) (enc := fun k => .slice (some ⟨tb, to + k, none⟩) (lnE (xs.drop k)) (lnE (xs.drop k))) (nxt := fun k => k + lnE (xs.drop k))
    ?seq rfl (by omega) (by omega) (by omega) (Nat.le_refl _) (by omega) (fun k W => LiI w W xs k) ?inv ?start
    (fun k => { tmps := #[.slice a xs.length c, undef, .slice none 0 0, .pointer (some ⟨w.heap.size, 0, none⟩), .slice (some ⟨tb, to + k, none⟩) (lnE (xs.drop k)) (lnE (xs.drop k)), .slice a xs.length c, .func (.func 38) #[] #[.pointer (some ⟨w.heap.size + 1, 0, none⟩)], .slice (some ⟨tb, to + k, none⟩) (lnE (xs.drop k)) (lnE (xs.drop k)), undef, undef, undef, undef, undef, undef], defers := [] }) ?assign ?body ?done
  case seq =>
    intro l J W hW hJ hY h0
    refine lines1_any l (w.heap.size + 1) tb to c w.heap.size xs KX.out hxc hcm Ktb.out (by omega) J W hJ hY ⟨Nat.zero_le _, fun h0 => ?_, fun h0 => ?_⟩ (fun i hi => ?_) h0
    · have hb := (hW.block _ bN.lt).trans bN
      rw [hae (by omega)] at hb
      exact hb
    · refine ⟨a, c, ?_⟩
      have hb := (hW.block _ bN.lt).trans bN
      rw [← h0] at hb
      exact hb
    · rw [(hB0.trans (hW.mono hB0.size)).cell (p := ⟨tb, to + i, none⟩) (Ktb.out (by omega))]
      exact KC.out i hi
  case inv =>
    intro k W W' hk hx
    refine hk.fx (hx.weak fun i _ h => ?_)
    rw [hs0] at h
    exact h
  case start =>
    intro W hW hz
    refine ⟨⟨_, [], (hW.block _ bO.lt).trans bO, World.ownsRow_nil _ _ _ _, rfl⟩, Nat.zero_le _, hB0.trans (hW.mono hB0.size)⟩
  case assign =>
    intro l k W K hK
    gi_wp2
    exact hK
  case body =>
    intro l k W hk hz hI
    obtain ⟨⟨v, M, hv, ho, hM⟩, hkl, hbel⟩ := hI
    have hlt : 0 < xs.length := by omega
    have hel := lnE_le (xs.drop k)
    rw [List.length_drop] at hel
    have hcv := run_convert_bytes_arg (P := Try.prog) W 22 5 Try.underlying22 Try.underlying5 tb (to + k) (lnE (xs.drop k)) (lnE (xs.drop k)) ((xs.drop k).take (lnE (xs.drop k))) (by rw [List.length_take, List.length_drop]; omega) (fun i hi => by
      rw [hbel.cell (p := ⟨tb, to + k + i, none⟩) (Ktb.out hlt), Nat.add_assoc, KC.out (k + i) (by omega)]
      congr 2
      simp only [List.getD, List.getElem?_take, List.getElem?_drop]
      rw [if_pos hi]) 9 Try.underlying9
    have KMs := Kept.mk (lnS_step hk hM)
    have hMl : M.length < 8796093022208 := by
      have h1 := lnS_len xs
      have h2 := congrArg List.length (lnS_step hk hM)
      simp only [List.length_append, List.length_singleton] at h2
      omega
    obtain ⟨s, hs⟩ : ∃ s, strOfNums ((xs.drop k).take (lnE (xs.drop k))) = s := ⟨_, rfl⟩
    rw [hs] at hcv KMs
    obtain ⟨e, he⟩ : ∃ e, lnE (xs.drop k) = e := ⟨_, rfl⟩
    rw [he] at hcv hel KMs
    simp only [he]
    have hc := hv.cell
    have Kv := Kept.mk hv
    have Ko := Kept.mk ho
    have Kb := Kept.mk hbel
    have Koa : Kept ((W.alloc (.cells #[.string s] 9)).ownsRow (w.heap.size + 4) 9 1 v M.length (M.map Value.string)) := ⟨World.ownsRow.alloc ho _⟩
    have KMl := Kept.mk hMl
    have Kar : Kept (w.heap.size + 4 ≤ W.heap.size ∧ k + e ≤ xs.length) := ⟨by omega⟩
    have KF : Kept (∀ w1, (W.alloc (.cells #[.string s] 9)).grownBy w1 v.ownBlock → Boxed w1 w.heap.size 33 v) := ⟨fun w1 hg => (hv.alloc _).kept hg (fun e => by have := (ho.lt _ e.symm).1; omega)⟩
    clear hv ho hbel hM hs he hlt hel hkl hk hMl hz
    gi_wp2_with (gi_at_builtin; refine wpListIn_append_own _ rfl _ _ 33 rfl (w.heap.size + 4) 9 i0 z0 1 16 Try.underlying33 hi hz hsz hbt hzc (by decide) _ _ _ rfl Koa.out ⟨W.heap.size, 0, none⟩ 1 1 [.string s] rfl rfl (cell_one_new _ _ _) (by simp [Value.oneCell']) (by have := KMl.out; unfold maxLen; omega) (by have := KMl.out; omega) (by have := Kar.out.1; simp; omega) ?_; intro v' w1 hown' hgrow _; obtain ⟨g', cap', rfl⟩ := ownsRow_succ hown'; have Kown := Kept.mk hown'; have Kgr := Kept.mk hgrow; have Kb1 := Kept.mk (KF.out w1 hgrow); have hc1 := (KF.out w1 hgrow).cell; have hf1 := (KF.out w1 hgrow).frozen; clear hown' hgrow)
    have hxa : Fx (fun b => b = w.heap.size ∨ w0.heap.size + 2 ≤ b) W (w1.setCell ⟨w.heap.size, 0, none⟩ (.slice (some ⟨g', 0, none⟩) (M.length + 1) cap')) := by
      have f1 := Fx.alloc (fun b => b = w.heap.size ∨ w0.heap.size + 2 ≤ b) W (.cells #[.string s] 9)
      have f2 := Fx.grown Kgr.out
      have f3 := fx_set w1 w.heap.size (.slice (some ⟨g', 0, none⟩) (M.length + 1) cap')
      refine (f1.trans f2 (fun i _ hi => .inr ?_)).trans f3 (fun i _ hi => .inl hi)
      have := (Ko.out.lt i hi).1
      omega
    refine ⟨hxa, ⟨⟨_, M ++ [s], Kb1.out.set _, ?_, KMs.out⟩, Kar.out.2, Kb.out.trans (hxa.below Kb.out.size (fun i hi => by omega))⟩⟩
    have hlt' := World.ownsRow.lt Kown.out g' rfl
    have h := OwnT.far (w' := w1.setCell ⟨w.heap.size, 0, none⟩ (.slice (some ⟨g', 0, none⟩) (M.length + 1) cap')) (L := M ++ [s]) (w := w1) (base := w.heap.size + 4) (v := .slice (some ⟨g', 0, none⟩) (M.length + 1) cap') (by
      have h := Kown.out
      unfold OwnT
      rw [List.length_append, List.length_singleton, List.map_append]
      exact h) (fun g hg => by
        have e1 : g' = g := by simpa [Value.ownBlock] using hg
        rw [← e1]
        exact Below.heap_setCell _ _ _ _ (by intro e; have e : g' = w.heap.size := e; omega))
    exact h
  case done =>
    intro W hI hK
    obtain ⟨⟨v, M, hv, ho, hM⟩, hkl, hbel⟩ := hI
    have hc := hv.cell
    rw [List.drop_length, lnS_nil, List.append_nil] at hM
    gi_wp2
    refine ⟨by simp, .inl ⟨_, _, rfl, run_takeDeferred hK, ?_⟩⟩
    have hx := fx_putObj W w0.heap.size (.deferred none)
    refine ⟨_, results_tmp rfl _ _ _, v, rfl, ?_, hbel.trans (hx.below hbel.size (fun i hi => by omega))⟩
    rw [hM]
    exact (ho.far (fun g hg => hx.block g (ho.lt g hg).2 (by have := (ho.lt g hg).1; omega))).mono (by omega)


theorem lnE_hit : ∀ {xs : List Int} {k : Nat}, (∀ j, j < k → xs[j]? ≠ some 10) → xs[k]? = some 10 → lnE xs = k + 1
  | [], k, _, h => by simp at h
  | x :: r, 0, _, h => by
    have : x = 10 := by simpa using h
    rw [lnE, if_pos this]
  | x :: r, k + 1, hn, h => by
    have h1 : ¬ x = 10 := fun e => hn 0 (by omega) (by rw [e]; rfl)
    rw [lnE, if_neg h1, lnE_hit (xs := r) (k := k) (fun j hj => by have := hn (j + 1) (by omega); simpa using this) (by simpa using h)]
theorem lnE_miss {xs : List Int} (h : ∀ j, j < xs.length → xs[j]? ≠ some 10) : lnE xs = xs.length := lnE_none (fun hm => by
  obtain ⟨j, hj, e⟩ := List.mem_iff_getElem.1 hm
  exact h j hj (by rw [List.getElem?_eq_getElem hj, e]))
/-- Where the document's Lines stands. -/
structure DlI (w wr : World) (xs : List Int) (lv : Value) (a i : Nat) : Prop where
  ai : a ≤ i
  il : i ≤ xs.length
  no : ∀ j, a ≤ j → j < i → xs[j]? ≠ some 10
  st : ∃ M, OwnT wr w.heap.size lv M ∧ lnS xs = M ++ lnS (xs.drop a)
  bel : Below w.heap.size w wr
set_option maxHeartbeats 2000000 in
set_option maxRecDepth 100000 in
theorem docLines_any {S : Nat → Prop} (v : Value) (xs : List Int) (w : World) (h : Rd .u8 S w v xs) (hl : xs.length ≤ 8796093022207) :
    Calls Try.prog 35 #[v] w fun e w' => ∃ v', e = .returned v' ∧ OwnT w' w.heap.size v' (lnS xs) ∧ Below w.heap.size w w' := by
  obtain ⟨i0, z0, hi, hz, hsz, hbt, hzc⟩ := info_str
  obtain ⟨a, c, rfl, -, hxc, hcm⟩ := h.form
  have KR := Kept.mk h
  have K0 : Kept (DlI w w xs (.slice none 0 0) 0 0) := ⟨⟨Nat.le_refl _, Nat.zero_le _, fun j _ hj => by omega, ⟨[], World.ownsRow_nil w w.heap.size 9 1, rfl⟩, Below.refl _ _⟩⟩
  unfold maxLen at hcm
  clear h
  go_enter Try.func35, Try.ntmps35
  go_upto_region 4 with fail
  go_loopw [3, 4, 9] (fun lv av iv wr => ∃ q i : Nat, av = .int .i64 q ∧ iv = .int .i64 i ∧ DlI w wr xs lv q i) (fun _ _ iv _ => xs.length - (intOf iv).toNat)
  case atStart => exact ⟨0, 0, rfl, rfl, K0.out⟩
  case round =>
    obtain ⟨q, i, rfl, rfl, hst⟩ := hrel
    have hqi := hst.ai
    have hil := hst.il
    have hbel := hst.bel
    have KSt := Kept.mk hst
    obtain ⟨M, ho, hM⟩ := hst.st
    have KO := Kept.mk ho
    have KM := Kept.mk hM
    have hMl : M.length + (lnS (xs.drop q)).length ≤ xs.length := by
      have h3 := lnS_len xs
      rw [hM, List.length_append] at h3
      exact h3
    obtain ⟨lp, lc, hlv⟩ := ho.form
    subst hlv
    clear K0 hst hM ho
    by_cases hlt : i < xs.length
    · obtain ⟨b, off, c', hv, hb, -, -, -, hcs⟩ := KR.out.open (by omega)
      injection hv with e1 e2 e3
      subst e1 e3
      obtain ⟨x, hx⟩ : ∃ x, xs[i]? = some x := ⟨_, List.getElem?_eq_getElem hlt⟩
      have hxi : wr.cell? ⟨b, off + i, none⟩ = some (.int .u8 x) := by
        rw [hbel.cell (p := ⟨b, off + i, none⟩) hb, hcs i hlt]
        simp [List.getD, hx]
      have hii : (i : Int) < (xs.length : Int) := by omega
      have m0 : (0 : Int) ≤ (i : Int) := by omega
      have m1 : IntKind.i64.wrap ((i : Int) + 1) = (i : Int) + 1 := wr64 (by omega) (by omega)
      by_cases hx10 : x = 10
      · subst hx10
        have hE : lnE (xs.drop q) = i + 1 - q := by
          have h := lnE_hit (xs := xs.drop q) (k := i - q) (fun j hj => by rw [List.getElem?_drop]; exact KSt.out.no (q + j) (by omega) (by omega)) (by rw [List.getElem?_drop, show q + (i - q) = i by omega]; exact hx)
          rw [h]; omega
        have hstep := lnS_step (off := q) (by omega) KM.out
        rw [hE, show q + (i + 1 - q) = i + 1 by omega] at hstep
        have hcv := run_convert_bytes_arg (P := Try.prog) wr 22 5 Try.underlying22 Try.underlying5 b (off + q) (i + 1 - q) (c - q) ((xs.drop q).take (i + 1 - q)) (by rw [List.length_take, List.length_drop]; omega) (fun j hj => by
          rw [hbel.cell (p := ⟨b, off + q + j, none⟩) hb, Nat.add_assoc, hcs (q + j) (by omega)]
          congr 2
          simp only [List.getD, List.getElem?_take, List.getElem?_drop]
          rw [if_pos hj]) 9 Try.underlying9
        generalize strOfNums ((xs.drop q).take (i + 1 - q)) = s at hcv hstep
        have KS := Kept.mk hstep
        have KOa : Kept ((wr.alloc (.cells #[.string s] 9)).ownsRow w.heap.size 9 1 (.slice lp M.length lc) M.length (M.map Value.string)) := ⟨World.ownsRow.alloc KO.out _⟩
        have KBa := Kept.mk (hbel.alloc hbel.size (.cells #[.string s] 9))
        have KMl : Kept (M.length + 1 ≤ 8796093022208) := ⟨by omega⟩
        have q0 : (0 : Int) ≤ (q : Int) := by omega
        have q1 : (0 : Int) ≤ (i : Int) + 1 := by omega
        have q2 : (q : Int) ≤ (i : Int) + 1 := by omega
        have q3 : (i : Int) + 1 ≤ (c : Int) := by omega
        have q4 : ¬ c = q := by omega
        have q5 : ((i : Int) + 1).toNat = i + 1 := by omega
        clear hstep hE hcs hbel hx KM hMl hqi hil
        go_wp2_with (at_builtin; refine wpList_append_own_at _ rfl _ _ 33 rfl w.heap.size 9 i0 z0 1 16 Try.underlying33 hi hz hsz hbt hzc (by decide) (.slice lp M.length lc) M.length (M.map Value.string) rfl KOa.out ⟨wr.heap.size, 0, none⟩ 1 1 [.string s] rfl rfl (cell_one_new _ _ _) (by simp [Value.oneCell']) (by have := KMl.out; unfold maxLen; omega) (by have := KMl.out; omega) KBa.out.size ?_; intro v5 w5 hown5 hgrow5 _ hat5; have KB5 := Kept.mk (KBa.out.grown hgrow5 KBa.out.size (fun k hk => (KO.out.lt k hk).1)); have KO5 := Kept.mk hown5; clear hown5 hgrow5 hat5)
        go_roundw
        case rel => exact ⟨i + 1, i + 1, by go_num, by go_num, Nat.le_refl _, hlt, fun j h1 h2 => by omega, ⟨M ++ [s], by
          have h := KO5.out
          unfold OwnT
          rw [List.length_append, List.length_singleton, List.map_append]
          exact h, KS.out⟩, KB5.out⟩
        case measure => simp [intOf]; omega
      · have hne : (x == (10 : Int)) = false := beq_eq_false_iff_ne.2 hx10
        have KE : Kept (DlI w wr xs (.slice lp M.length lc) q (i + 1)) := ⟨⟨by omega, hlt, fun j h1 h2 => by
          by_cases e : j = i
          · subst e; rw [hx]; intro e2; injection e2 with e2; exact hx10 e2
          · exact KSt.out.no j h1 (by omega), KSt.out.st, KSt.out.bel⟩⟩
        clear hcs hbel hx KM hMl hqi hil KSt
        go_wp2
        go_roundw
        case rel => exact ⟨q, i + 1, rfl, by go_num, KE.out⟩
        case measure => simp [intOf]; omega
    · obtain rfl : i = xs.length := by omega
      have hii : ¬ (xs.length : Int) < (xs.length : Int) := by omega
      by_cases hq : q < xs.length
      · obtain ⟨b, off, c', hv, hb, -, -, -, hcs⟩ := KR.out.open (by omega)
        injection hv with e1 e2 e3
        subst e1 e3
        have hE : lnE (xs.drop q) = xs.length - q := by
          have h := lnE_miss (xs := xs.drop q) (fun j hj => by rw [List.length_drop] at hj; rw [List.getElem?_drop]; exact KSt.out.no (q + j) (by omega) (by omega))
          rw [h, List.length_drop]
        have hstep := lnS_step (off := q) (by omega) KM.out
        rw [hE, show q + (xs.length - q) = xs.length by omega, List.drop_length, lnS_nil, List.append_nil, List.take_of_length_le (by rw [List.length_drop]; exact Nat.le_refl _)] at hstep
        have hcv := run_convert_bytes_arg (P := Try.prog) wr 22 5 Try.underlying22 Try.underlying5 b (off + q) (xs.length - q) (c - q) (xs.drop q) (by rw [List.length_drop]) (fun j hj => by
          rw [hbel.cell (p := ⟨b, off + q + j, none⟩) hb, Nat.add_assoc, hcs (q + j) (by omega)]
          congr 2
          simp only [List.getD, List.getElem?_drop]) 9 Try.underlying9
        generalize strOfNums (xs.drop q) = s at hcv hstep
        have KS := Kept.mk hstep
        have KOa : Kept ((wr.alloc (.cells #[.string s] 9)).ownsRow w.heap.size 9 1 (.slice lp M.length lc) M.length (M.map Value.string)) := ⟨World.ownsRow.alloc KO.out _⟩
        have KBa := Kept.mk (hbel.alloc hbel.size (.cells #[.string s] 9))
        have KMl : Kept (M.length + 1 ≤ 8796093022208) := ⟨by omega⟩
        have q0 : (0 : Int) ≤ (q : Int) := by omega
        have q2 : (q : Int) ≤ (xs.length : Int) := by omega
        have q3 : (q : Int) < (xs.length : Int) := by omega
        have q4 : ¬ c = q := by omega
        clear hstep hE hcs hbel KM hMl hqi hil KSt
        go_wp2_with (at_builtin; refine wpList_append_own_at _ rfl _ _ 33 rfl w.heap.size 9 i0 z0 1 16 Try.underlying33 hi hz hsz hbt hzc (by decide) (.slice lp M.length lc) M.length (M.map Value.string) rfl KOa.out ⟨wr.heap.size, 0, none⟩ 1 1 [.string s] rfl rfl (cell_one_new _ _ _) (by simp [Value.oneCell']) (by have := KMl.out; unfold maxLen; omega) (by have := KMl.out; omega) KBa.out.size ?_; intro v5 w5 hown5 hgrow5 _ hat5; have KB5 := Kept.mk (KBa.out.grown hgrow5 KBa.out.size (fun k hk => (KO.out.lt k hk).1)); have KO5 := Kept.mk hown5; clear hown5 hgrow5 hat5)
        go_ret
        refine ⟨_, rfl, ?_, KB5.out⟩
        rw [KS.out]
        have h := KO5.out
        unfold OwnT
        rw [List.length_append, List.length_singleton, List.map_append]
        exact h
      · obtain rfl : q = xs.length := by omega
        have KE : Kept (OwnT wr w.heap.size (.slice lp M.length lc) (lnS xs)) := ⟨by
          have h := KM.out
          rw [List.drop_length, lnS_nil, List.append_nil] at h
          rw [h]
          exact KO.out⟩
        have KB := Kept.mk hbel
        clear hbel KM KO hMl KSt
        go_wp2
        go_ret
        exact ⟨_, rfl, KE.out, KB.out⟩
end Go.Proofs.Ytidpdhnbnecddaa
