/-
  Walks: numbered's closure, numbered.
-/
import Derived.Test.YtjhcpmhjdhmjpaaV2
import Derived.OwnWalk
namespace Go.Proofs.Ytjhcpmhjdhmjpaa
open Go.RowKit Go.WideMaps

/-- Numbers as values. -/
def intV (N : List Nat) : List Value := N.map (fun n : Nat => Value.int .i64 (n : Int))
theorem intV_len (N : List Nat) : (intV N).length = N.length := by unfold intV; simp
theorem intV_get {N : List Nat} {j n : Nat} (h : N[j]? = some n) : (intV N)[j]? = some (.int .i64 (n : Int)) := by unfold intV; rw [List.getElem?_map, h]; rfl
theorem intV_set (N : List Nat) (j n : Nat) : (intV N).set j (.int .i64 (n : Int)) = intV (N.set j n) := by unfold intV; rw [List.map_set]
theorem info_int : ∃ i, Try.prog.info? 3 = some i ∧ i.zero = some (.int .i64 0) ∧ i.size = 1 ∧ i.bytes = 8 := by
  have h : (Try.prog.info? 3).map (fun i => (i.zero, i.size, i.bytes)) = some (some (.int .i64 0), 1, 8) := by kernel_rfl
  cases h' : Try.prog.info? 3 with
  | none => rw [h'] at h; cases h
  | some i =>
    rw [h'] at h
    simp only [Option.map_some, Option.some.injEq, Prod.mk.injEq] at h
    exact ⟨i, rfl, h.1, h.2.1, h.2.2⟩
theorem made_cells (z : Value) (n : Nat) (hz : z.cells = #[z]) : (madeCells z.cells (n * 1)).toList = List.replicate n z := by
  rw [hz, Nat.mul_one]
  unfold madeCells
  rw [Array.toList_map, Array.toList_range]
  apply List.ext_getElem
  · simp
  · intro j h1 h2
    simp [Nat.mod_one]
/-- A row that was made, as a block. -/
theorem bk_made {w : World} {base g n : Nat} {T : TypeId} {cs : List Value} (h : w.ownsRow base T 1 (.slice (some ⟨g, 0, none⟩) n n) n cs) : Bk w g T cs := by
  rcases h.2 with ⟨h1, -⟩ | ⟨g', cap, cur, hv, -, hh, -, -, hs, ht⟩
  · cases h1
  · injection hv with h1 h2 h3
    injection h1 with h1
    injection h1 with h1
    subst h1 h3
    unfold Bk
    rw [hh]
    congr 2
    rw [← ht, Nat.mul_one, List.take_of_length_le (by rw [Array.length_toList, hs, Nat.mul_one]; exact Nat.le_refl _)]
theorem zeroI (w : World) : (zeroValue 3).run Try.prog w = .ok (.int .i64 0) w := by kernel_rfl
theorem key_str {s : ByteArray} (hs : s.size ≤ maxLen) : keyOf Try.prog 9 (.string s) = some (kl s) := WideMaps.keyOf_string_mk Try.underlying9 hs
theorem wf_nat {n : Nat} (h : n ≤ 1000000) : (Lit.int .i64 (n : Int)).wf = true := by
  have e1 : IntKind.i64.min = -9223372036854775808 := rfl
  have e2 : IntKind.i64.max = 9223372036854775807 := rfl
  simp only [Lit.wf, e1, e2, Bool.and_eq_true, decide_eq_true_eq]
  omega
/-- Where the closure stands behind k lines. -/
structure NmSt (w wr : World) (mb n0 : Nat) (ks0 : List ByteArray) (L : List ByteArray) (k : Nat) : Prop where
  st : ∃ (n : Nat) (D : DataW Unit) (ks : List ByteArray) (N : List Nat), wr.ownsMap Try.prog 9 (plainElem Try.prog 3) mb n D ∧ NumOk D ks ∧ n ≤ n0 + k ∧ ks.length ≤ n0 + k ∧ (∃ r, ks = ks0 ++ r) ∧ N.length = L.length ∧ Bk wr w.heap.size 3 (intV N) ∧ (∀ j s, j < k → L[j]? = some s → s ∈ ks ∧ N[j]? = some (nix s ks))
  fx : Fx (fun i => i = mb) w wr
  le : k ≤ L.length
set_option maxHeartbeats 2000000 in
set_option maxRecDepth 100000 in
theorem numbers_any (v : Value) (L : List ByteArray) (mc mb n n0 : Nat) (D : DataW Unit) (ks : List ByteArray) (w : World) (hrd : ∀ W, Fx (fun i => i = mb) w W → RdS W v L) (hs : ∀ s ∈ L, s.size ≤ maxLen) (hl : L.length ≤ 1000) (hn : n0 ≤ 1000) (hn0 : n ≤ n0) (hkn : ks.length ≤ n0)
    (hc : ∀ W, Fx (fun i => i = mb) w W → W.cell? ⟨mc, 0, none⟩ = some (.map (some mb))) (hM : w.ownsMap Try.prog 9 (plainElem Try.prog 3) mb n D) (hk : NumOk D ks) :
    Calls Try.prog 52 #[v, .pointer (some ⟨mc, 0, none⟩)] w fun e w' => e = .returned (.slice (some ⟨w.heap.size, 0, none⟩) L.length L.length) ∧ NmSt w w' mb n0 ks L L.length := by
  obtain ⟨i0, hi, hz, hsz, hb⟩ := info_int
  obtain ⟨pa, pc, rfl⟩ := (hrd w (Fx.refl _ _)).form
  have hb1 : i0.bytes * L.length ≤ 281474976710656 := by rw [hb]; omega
  have hb2 : L.length ≤ maxLen := by unfold maxLen; omega
  have KRd := Kept.mk hrd
  have KC := Kept.mk hc
  have Ks := Kept.mk hs
  have KM := Kept.mk hM
  have KN := Kept.mk hk
  have hmlt : mb < w.heap.size := hM.lt
  clear hrd hc hs hM hk
  go_enter Try.func52, Try.ntmps52
  go_upto_region 3 with (at_make; refine wpList_make_full _ rfl _ _ 58 rfl w.heap.size 3 i0 (.int .i64 0) 1 Try.underlying58 hi hz hsz .i64 .i64 (L.length : Int) (L.length : Int) L.length rfl rfl rfl rfl hb1 hb2 (Nat.le_refl _) ?_; intro w2 hown hgrow; have KO := Kept.mk hown; have KG := Kept.mk hgrow; clear hown hgrow)
  have KS0 : Kept (NmSt w w2 mb n0 ks L 0) := ⟨⟨⟨n, D, ks, List.replicate L.length 0, ownsMap_far KM.out (KG.out.block mb hmlt (by simp)), KN.out, by omega, by omega, ⟨[], by simp⟩, by simp, (by
      have h1 := bk_made KO.out
      rw [made_cells _ _ rfl] at h1
      unfold intV
      rw [List.map_replicate]
      exact h1), fun j s hj _ => by omega⟩, (Fx.grown KG.out).weak (fun i _ h => by cases h), Nat.zero_le _⟩⟩
  clear KO KG KM KN hi hz hsz hb hb1 hb2 i0
  go_loopw [14] (fun iv wr => ∃ k : Nat, iv = .int .i64 k ∧ NmSt w wr mb n0 ks L k) (fun iv _ => L.length - (intOf iv).toNat)
  case atStart => exact ⟨0, rfl, KS0.out⟩
  case round =>
    obtain ⟨k, rfl, hst⟩ := hrel
    have KSt := Kept.mk hst
    clear KS0
    have hkl := hst.le
    by_cases hlt : k < L.length
    · have hki : (k : Int) < (L.length : Int) := by omega
      have e1 : IntKind.i64.wrap ((k : Int) + 1) = (k : Int) + 1 := by rw [IntKind.wrap_i64]; omega
      obtain ⟨⟨n', D', ks', N, h1, h2, h3, h4, h5, h6, h7, h8⟩, hfx, -⟩ := hst
      obtain ⟨pa', pc', hpe, -, hpr⟩ := KRd.out wr hfx
      rw [List.length_map] at hpe hpr
      obtain ⟨b, off, hpb, hblt, hrg⟩ := hpr (by omega)
      have hpae : pa = some ⟨b, off, none⟩ := by injection hpe with h1 h2 h3; rw [h1, hpb]
      subst hpae
      obtain ⟨s, hsk⟩ : ∃ s, L[k]? = some s := ⟨_, List.getElem?_eq_getElem hlt⟩
      have hcs : wr.cell? ⟨b, off + k, none⟩ = some (.string s) := hrg k _ (by rw [List.getElem?_map, hsk]; rfl)
      have hcm := KC.out wr hfx
      have hsm := Ks.out s (List.mem_of_getElem? hsk)
      have KK := Kept.mk (key_str hsm)
      have hglt := h7.lt
      have hgm : w.heap.size ≠ mb := by omega
      obtain ⟨u0, hu0⟩ : ∃ u0, N[k]? = some u0 := ⟨_, List.getElem?_eq_getElem (by omega)⟩
      have Ksm := Kept.mk hsm
      have Ksk := Kept.mk hsk
      have KM := Kept.mk h1
      have KN := Kept.mk h2
      have KBk := Kept.mk h7
      have Kall := Kept.mk h8
      have Kpre := Kept.mk h5
      have KNl := Kept.mk h6
      have Kn' := Kept.mk h3
      have Kk' := Kept.mk h4
      have Kfx := Kept.mk hfx
      have Kgm := Kept.mk hgm
      have Knn : Kept (n0 ≤ 1000 ∧ L.length ≤ 1000 ∧ k < L.length) := ⟨⟨hn, hl, hlt⟩⟩
      clear hpr hrg hpe hsm hsk h8 h5 hblt
      by_cases hin : s ∈ ks'
      · have hh := (h2.has s).2 hin
        have hnum := h2.num s hin
        have KH := Kept.mk hh
        have KA := Kept.mk hnum
        have hcg := h7.cell k _ (intV_get hu0)
        have hfz := h7.frozen k
        have KE : Kept (NmSt w (wr.setCell ⟨w.heap.size, k, none⟩ (.int .i64 (nix s ks' : Nat))) mb n0 ks L (k + 1)) := ⟨⟨⟨n', D', ks', N.set k (nix s ks'), ownsMap_far h1 (Below.heap_setCell _ _ _ _ (fun e => hgm e.symm)), h2, by omega, by omega, Kpre.out, by simp [h6], (by
            have := h7.set k (.int .i64 (nix s ks' : Nat))
            rw [intV_set] at this
            exact this), fun j t hj ht => by
              by_cases e : j = k
              · subst e
                have : t = s := by rw [Ksk.out] at ht; injection ht with ht; exact ht.symm
                subst this
                exact ⟨hin, by rw [List.getElem?_set_self (by omega)]⟩
              · rw [List.getElem?_set_ne (fun h => e h.symm)]
                exact Kall.out j t (by omega) ht⟩, hfx.trans (Fx.setCell _ _ _ _) (fun i hi e => by omega), hlt⟩⟩
        clear hh hnum h1 h2 h3 h4 h6 h7 hu0 hfx hin hglt hgm
        go_wp2_with (first | (at_lookup; refine wpList_lookup_own_ok_int _ rfl _ _ 96 rfl 9 3 .i64 (Maps.string_keyed Try.underlying9) Try.underlying96 Try.underlying3 (zeroI _) mb n' D' rfl KM.out _ _ rfl KK.out ?_; intro c hat hwc; rw [KH.out]; obtain rfl : c = (nix s ks' : Nat) := (by have := KA.out; rw [this] at hat; injection hat with hat; injection hat with _ hat; exact hat.symm); clear hat hwc))
        go_roundw
        case rel => exact ⟨k + 1, by go_num, KE.out⟩
        case measure => simp [intOf]; omega
      · have hh : Maps.has D' (kl s) = false := Bool.eq_false_iff.2 fun e => hin ((h2.has s).1 e)
        have hlen := h1.len Try.underlying96 3
        rw [h2.size] at hlen
        have KH := Kept.mk hh
        have Kin := Kept.mk hin
        have KP := Kept.mk (plainElem_int (H := Unit) (P := Try.prog) Try.underlying3 (wf_nat (n := ks'.length) (by omega)))
        have hnm : n' < maxLen := by unfold maxLen; omega
        have hmne : mb ≠ w.heap.size := by omega
        have KE : Kept (∀ w3, w3.ownsMap Try.prog 9 (plainElem Try.prog 3) mb (n' + 1) (D'.put (kl s) (.lit (.int .i64 (ks'.length : Nat)))) → wr.grownBy w3 (some mb) → w3.cell? ⟨w.heap.size, k, none⟩ = some (.int .i64 (u0 : Int)) ∧ w3.frozen? ⟨w.heap.size, k, none⟩ = false ∧ NmSt w (w3.setCell ⟨w.heap.size, k, none⟩ (.int .i64 (ks'.length : Nat))) mb n0 ks L (k + 1)) := ⟨fun w3 hM3 hg3 => by
          have hB3 : Bk w3 w.heap.size 3 (intV N) := KBk.out.far (hg3.block _ hglt (fun e => hmne (by injection e with e; exact e.symm)))
          refine ⟨hB3.cell k _ (intV_get hu0), hB3.frozen k, ⟨n' + 1, _, ks' ++ [s], N.set k ks'.length, ownsMap_far hM3 (Below.heap_setCell _ _ _ _ hmne), KN.out.add Try.underlying9 Ksm.out Kin.out, by omega, by rw [List.length_append, List.length_singleton]; omega, ?_, by simp [h6], ?_, fun j t hj ht => ?_⟩, ?_, hlt⟩
          · obtain ⟨r, hr⟩ := Kpre.out
            exact ⟨r ++ [s], by rw [hr, List.append_assoc]⟩
          · have := hB3.set k (.int .i64 (ks'.length : Nat))
            rw [intV_set] at this
            exact this
          · by_cases e : j = k
            · subst e
              have : t = s := by rw [Ksk.out] at ht; injection ht with ht; exact ht.symm
              subst this
              exact ⟨by simp, by rw [List.getElem?_set_self (by omega), nix_new Kin.out]⟩
            · rw [List.getElem?_set_ne (fun h => e h.symm)]
              obtain ⟨g1, g2⟩ := Kall.out j t (by omega) ht
              exact ⟨List.mem_append_left _ g1, by rw [nix_left g1]; exact g2⟩
          · exact (Kfx.out.trans (Fx.grown hg3) (fun i _ e => by injection e with e; exact e.symm)).trans (Fx.setCell _ _ _ _) (fun i hi e => by omega)⟩
        clear hh h1 h2 h3 h4 h6 h7 hu0 hfx hin hglt hgm hmne
        go_upto_region 9 with (first | (at_lookup; refine wpList_lookup_own_ok_int _ rfl _ _ 96 rfl 9 3 .i64 (Maps.string_keyed Try.underlying9) Try.underlying96 Try.underlying3 (zeroI _) mb n' D' rfl KM.out _ _ rfl KK.out ?_; intro c hat hwc; rw [KH.out]; clear hat hwc) | (at_mapUpdate; refine wpList_mapUpdate_own _ rfl _ _ _ 96 rfl 9 3 (Maps.string_keyed Try.underlying9) Try.underlying96 (plainElem Try.prog 3) mb n' D' rfl KM.out hnm _ _ _ rfl rfl KK.out _ _ KP.out ?_; intro w3 hown2 hgrow2; obtain ⟨hcg, hfz, hE⟩ := KE.out w3 hown2 hgrow2; have KE2 := Kept.mk hE; clear hown2 hgrow2 hE))
        clear KE hlen hcs hcm
        go_wp2
        go_roundw
        case rel => exact ⟨k + 1, by go_num, KE2.out⟩
        case measure => simp [intOf]; omega
    · have hki : ¬ (k : Int) < (L.length : Int) := by omega
      obtain rfl : k = L.length := by omega
      clear hst
      go_wp2
      go_ret
      exact ⟨rfl, KSt.out⟩
end Go.Proofs.Ytjhcpmhjdhmjpaa
