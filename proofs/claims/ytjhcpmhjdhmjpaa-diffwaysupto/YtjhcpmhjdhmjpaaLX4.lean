/-
  Walks: Lines.
-/
import Derived.Test.YtjhcpmhjdhmjpaaLX3
import Derived.Test.YtjhcpmhjdhmjpaaVA
namespace Go.Proofs.Ytjhcpmhjdhmjpaa
open Go.RowKit Go.Shelf
attribute [local go_sem] Oper.semAt_some

/-- Behind k bytes. -/
structure LiI (w W : World) (xs : List Int) (k : Nat) : Prop where
  st : ∃ v M, Boxed W w.heap.size 22 v ∧ OwnT W (w.heap.size + 4) v M ∧ lnS xs = M ++ lnS (xs.drop k)
  le : k ≤ xs.length
  bel : Below w.heap.size w W
theorem LiI.fx {w W W' : World} {xs : List Int} {k : Nat} (h : LiI w W xs k) (hx : Fx (fun b => b = w.heap.size + 1 ∨ b = w.heap.size + 2 ∨ b = w.heap.size + 2 + 1) W W') : LiI w W' xs k := by
  obtain ⟨⟨v, M, h1, h2, h3⟩, h4, h5⟩ := h
  refine ⟨⟨v, M, ?_, h2.far (fun g hg => hx.block g (h2.lt g hg).2 (by have := (h2.lt g hg).1; omega)), h3⟩, h4, h5.trans (hx.below h5.size (fun i hi => by omega))⟩
  exact (hx.block _ h1.lt (by omega)).trans h1
set_option maxRecDepth 100000 in
set_option maxHeartbeats 4000000 in
theorem lines_any {S : Nat → Prop} (v : Value) (xs : List Int) (w : World) (h : Rd .u8 S w v xs) (hx : AllB xs) (hl : xs.length ≤ 8796093022208) :
    Calls Try.prog 21 #[v] w fun e w' => ∃ v', e = .returned v' ∧ OwnT w' w.heap.size v' (lnS xs) ∧ Below w.heap.size w w' := by
  obtain ⟨i0, z0, hi, hz, hsz, hbt, hzc⟩ := info_str
  obtain ⟨a, c, rfl, h3, hxc, hcm⟩ := h.form
  obtain ⟨tb, to, htb, hae, hcell⟩ : ∃ tb to, (0 < xs.length → tb < w.heap.size) ∧ (0 < xs.length → a = some ⟨tb, to, none⟩) ∧ (∀ i, i < xs.length → w.cell? ⟨tb, to + i, none⟩ = some (.int .u8 (xs.getD i 0))) := by
    by_cases h0 : 0 < xs.length
    · obtain ⟨b, off, c', hv, hb, -, -, -, hcs⟩ := h.open h0
      injection hv with h1 h2 h3
      exact ⟨b, off, fun _ => hb, fun _ => h1, hcs⟩
    · exact ⟨0, 0, fun h => absurd h h0, fun h => absurd h h0, fun i hi => by omega⟩
  have KX := Kept.mk hx
  have KC := Kept.mk hcell
  have Ktb := Kept.mk htb
  clear h hx hcell htb
  refine (callsIn_wide (n := 4)).1 ?_
  refine callsIn_of_wp_marks Try.func21 rfl trivial ?_ rfl
  simp only [Try.ntmps21, List.size_toArray, List.length_cons, List.length_nil, Nat.reduceAdd, Nat.reduceSub, Array.replicate_succ, Array.replicate_zero, List.push_toArray, List.append_toArray, List.nil_append, List.cons_append]
  gi_wp2_with (refine ⟨trivial, ?_⟩; gi_at_call 39; refine (bytesLines_any _ _ _ _).mono ?_; rintro e w' ⟨rfl, rfl⟩)
  obtain ⟨w0, hw0⟩ : ∃ w0, (w.alloc (.cells #[.slice none 0 0] 22)).alloc (.cells #[.slice a xs.length c] 42) = w0 := ⟨_, rfl⟩
  have hs0 : w0.heap.size = w.heap.size + 2 := by rw [← hw0]; simp
  have bO : Boxed w0 w.heap.size 22 (.slice none 0 0) := by rw [← hw0]; exact (Boxed.new w 22 _).alloc _
  have bN : Boxed w0 (w.heap.size + 1) 42 (.slice a xs.length c) := by
    rw [← hw0]
    have h := Boxed.new (w.alloc (.cells #[.slice none 0 0] 22)) 42 (.slice a xs.length c)
    rw [World.size_alloc] at h
    exact h
  have hB0 : Below w.heap.size w w0 := by rw [← hw0]; exact ((Below.refl _ w).alloc (Nat.le_refl _) _).alloc (by simp) _
  try simp only [World.size_alloc]
  rw [hw0]
  clear hw0
  refine wpIn_range_ln rfl (by decide) (gf := 48) (lb := #[.pointer (some ⟨w.heap.size + 1, 0, none⟩)]) rfl trivial (enters_of Try.func48 (by kernel_rfl) rfl)
    (Bs := w.heap.size + 1) (B := w.heap.size) (n0 := w.heap.size) (N := xs.length) (enc := fun k => .slice (some ⟨tb, to + k, none⟩) (lnE (xs.drop k)) (lnE (xs.drop k))) (nxt := fun k => k + lnE (xs.drop k))
    ?seq rfl (by omega) (by omega) (by omega) (Nat.le_refl _) (by omega) (fun k W => LiI w W xs k) ?inv ?start
    (fun k => { tmps := #[.slice a xs.length c, undef, .slice none 0 0, .pointer (some ⟨w.heap.size, 0, none⟩), .slice (some ⟨tb, to + k, none⟩) (lnE (xs.drop k)) (lnE (xs.drop k)), .slice a xs.length c, .func (.func 48) #[] #[.pointer (some ⟨w.heap.size + 1, 0, none⟩)], .slice (some ⟨tb, to + k, none⟩) (lnE (xs.drop k)) (lnE (xs.drop k)), undef, undef, undef, undef, undef, undef], defers := [] }) ?assign ?body ?done
  case seq =>
    intro l J W hW hJ hY h0
    refine lines1_any l (w.heap.size + 1) tb to c w.heap.size xs KX.out hxc hcm Ktb.out (by omega) J W hJ hY ⟨Nat.zero_le _, fun h0 => ?_, fun h0 => ?_⟩ (fun i hi => ?_) h0
    · have hb := (hW.block _ bN.lt).trans bN
      rw [hae (by omega)] at hb
      exact hb
    · refine ⟨a, c, ?_⟩
      have hb := (hW.block _ bN.lt).trans bN
      rw [← h0] at hb
      exact hb
    · rw [(hB0.trans (hW.mono hB0.size)).cell (p := ⟨tb, to + i, none⟩) (Ktb.out (by omega))]
      exact KC.out i hi
  case inv =>
    intro k W W' hk hx
    refine hk.fx (hx.weak fun i _ h => ?_)
    rw [hs0] at h
    exact h
  case start =>
    intro W hW hz
    refine ⟨⟨_, [], (hW.block _ bO.lt).trans bO, World.ownsRow_nil _ _ _ _, rfl⟩, Nat.zero_le _, hB0.trans (hW.mono hB0.size)⟩
  case assign =>
    intro l k W K hK
    gi_wp2
    exact hK
  case body =>
    intro l k W hk hz hI
    obtain ⟨⟨v, M, hv, ho, hM⟩, hkl, hbel⟩ := hI
    have hlt : 0 < xs.length := by omega
    have hel := lnE_le (xs.drop k)
    rw [List.length_drop] at hel
    have hcv := run_convert_bytes_arg (P := Try.prog) W 42 5 Try.underlying42 Try.underlying5 tb (to + k) (lnE (xs.drop k)) (lnE (xs.drop k)) ((xs.drop k).take (lnE (xs.drop k))) (by rw [List.length_take, List.length_drop]; omega) (fun i hi => by
      rw [hbel.cell (p := ⟨tb, to + k + i, none⟩) (Ktb.out hlt), Nat.add_assoc, KC.out (k + i) (by omega)]
      congr 2
      simp only [List.getD, List.getElem?_take, List.getElem?_drop]
      rw [if_pos hi]) 9 Try.underlying9
    have KMs := Kept.mk (lnS_step hk hM)
    have hMl : M.length < 8796093022208 := by
      have h1 := lnS_len xs
      have h2 := congrArg List.length (lnS_step hk hM)
      simp only [List.length_append, List.length_singleton] at h2
      omega
    obtain ⟨s, hs⟩ : ∃ s, strOfNums ((xs.drop k).take (lnE (xs.drop k))) = s := ⟨_, rfl⟩
    rw [hs] at hcv KMs
    obtain ⟨e, he⟩ : ∃ e, lnE (xs.drop k) = e := ⟨_, rfl⟩
    rw [he] at hcv hel KMs
    simp only [he]
    have hc := hv.cell
    have Kv := Kept.mk hv
    have Ko := Kept.mk ho
    have Kb := Kept.mk hbel
    have Koa : Kept ((W.alloc (.cells #[.string s] 9)).ownsRow (w.heap.size + 4) 9 1 v M.length (M.map Value.string)) := ⟨World.ownsRow.alloc ho _⟩
    have KMl := Kept.mk hMl
    have Kar : Kept (w.heap.size + 4 ≤ W.heap.size ∧ k + e ≤ xs.length) := ⟨by omega⟩
    have KF : Kept (∀ w1, (W.alloc (.cells #[.string s] 9)).grownBy w1 v.ownBlock → Boxed w1 w.heap.size 22 v) := ⟨fun w1 hg => (hv.alloc _).kept hg (fun e => by have := (ho.lt _ e.symm).1; omega)⟩
    clear hv ho hbel hM hs he hlt hel hkl hk hMl hz
    gi_wp2_with (gi_at_builtin; refine wpListIn_append_own _ rfl _ _ 22 rfl (w.heap.size + 4) 9 i0 z0 1 16 Try.underlying22 hi hz hsz hbt hzc (by decide) _ _ _ rfl Koa.out ⟨W.heap.size, 0, none⟩ 1 1 [.string s] rfl rfl (cell_one_new _ _ _) (by simp [Value.oneCell']) (by have := KMl.out; unfold maxLen; omega) (by have := KMl.out; omega) (by have := Kar.out.1; simp; omega) ?_; intro v' w1 hown' hgrow _; obtain ⟨g', cap', rfl⟩ := ownsRow_succ hown'; have Kown := Kept.mk hown'; have Kgr := Kept.mk hgrow; have Kb1 := Kept.mk (KF.out w1 hgrow); have hc1 := (KF.out w1 hgrow).cell; have hf1 := (KF.out w1 hgrow).frozen; clear hown' hgrow)
    have hxa : Fx (fun b => b = w.heap.size ∨ w0.heap.size + 2 ≤ b) W (w1.setCell ⟨w.heap.size, 0, none⟩ (.slice (some ⟨g', 0, none⟩) (M.length + 1) cap')) := by
      have f1 := Fx.alloc (fun b => b = w.heap.size ∨ w0.heap.size + 2 ≤ b) W (.cells #[.string s] 9)
      have f2 := Fx.grown Kgr.out
      have f3 := fx_set w1 w.heap.size (.slice (some ⟨g', 0, none⟩) (M.length + 1) cap')
      refine (f1.trans f2 (fun i _ hi => .inr ?_)).trans f3 (fun i _ hi => .inl hi)
      have := (Ko.out.lt i hi).1
      omega
    refine ⟨hxa, ⟨⟨_, M ++ [s], Kb1.out.set _, ?_, KMs.out⟩, Kar.out.2, Kb.out.trans (hxa.below Kb.out.size (fun i hi => by omega))⟩⟩
    have hlt' := World.ownsRow.lt Kown.out g' rfl
    have h := OwnT.far (w' := w1.setCell ⟨w.heap.size, 0, none⟩ (.slice (some ⟨g', 0, none⟩) (M.length + 1) cap')) (L := M ++ [s]) (w := w1) (base := w.heap.size + 4) (v := .slice (some ⟨g', 0, none⟩) (M.length + 1) cap') (by
      have h := Kown.out
      unfold OwnT
      rw [List.length_append, List.length_singleton, List.map_append]
      exact h) (fun g hg => by
        have e1 : g' = g := by simpa [Value.ownBlock] using hg
        rw [← e1]
        exact Below.heap_setCell _ _ _ _ (by intro e; have e : g' = w.heap.size := e; omega))
    exact h
  case done =>
    intro W hI hK
    obtain ⟨⟨v, M, hv, ho, hM⟩, hkl, hbel⟩ := hI
    have hc := hv.cell
    rw [List.drop_length, lnS_nil, List.append_nil] at hM
    gi_wp2
    refine ⟨by simp, .inl ⟨_, _, rfl, run_takeDeferred hK, ?_⟩⟩
    have hx := fx_putObj W w0.heap.size (.deferred none)
    refine ⟨_, results_tmp rfl _ _ _, v, rfl, ?_, hbel.trans (hx.below hbel.size (fun i hi => by omega))⟩
    rw [hM]
    exact (ho.far (fun g hg => hx.block g (ho.lt g hg).2 (by have := (ho.lt g hg).1; omega))).mono (by omega)
end Go.Proofs.Ytjhcpmhjdhmjpaa
