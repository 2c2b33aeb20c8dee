/-
  Walks of the document: Parts.
-/
import Derived.Test.YtbagkmhhgngbcaaDoorN30
import Derived.Maps.AppendAt
namespace Go.Proofs.YtbagkmhhgngbcaaDoor
open Go.RowKit

/-- A slice of texts in memory of the call's own. -/
def OwnS (w : World) (base : Nat) (v : Value) (L : List ByteArray) : Prop := w.ownsRow base 9 1 v L.length (L.map Value.string)
set_option maxRecDepth 100000 in
theorem infoS : ∃ i z, Tryd.prog.info? 9 = some i ∧ i.zero = some z ∧ i.size = 1 ∧ i.bytes = 16 ∧ z.cells.size = 1 := by
  refine ⟨_, _, rfl, rfl, rfl, rfl, rfl⟩
theorem OwnS.lt {w : World} {base : Nat} {v : Value} {L : List ByteArray} (h : OwnS w base v L) : ∀ g, v.ownBlock = some g → base ≤ g ∧ g < w.heap.size := by
  intro g hg
  rcases h.2 with ⟨rfl, hn⟩ | ⟨g', cap, cur, rfl, hbg, hg', hnc, hcm, hcs, htake⟩
  · cases hg
  · have : g' = g := by simpa [Value.ownBlock] using hg
    subst this
    exact ⟨hbg, (Array.getElem?_eq_some_iff.1 hg').1⟩
theorem cut_end {S : List UInt8} {a : Nat} (h : ∀ j, a ≤ j → j < S.length → S[j]? ≠ some 47) : cutL (S.drop a) = [S.drop a] := by
  refine cutL_none _ fun c hc hc47 => ?_
  subst hc47
  obtain ⟨j, hj, e⟩ := List.getElem_of_mem hc
  rw [List.getElem_drop] at e
  rw [List.length_drop] at hj
  exact h (a + j) (by omega) (by omega) (by rw [List.getElem?_eq_getElem (by omega), e])
theorem cut_next {S : List UInt8} {a k : Nat} (ha : a ≤ k) (hk : S[k]? = some 47) (h : ∀ j, a ≤ j → j < k → S[j]? ≠ some 47) : cutL (S.drop a) = (S.drop a).take (k - a) :: cutL (S.drop (k + 1)) := by
  have e : (S.drop a)[k - a]? = some 47 := by rw [List.getElem?_drop, show a + (k - a) = k by omega]; exact hk
  have := split_at e
  conv => lhs; rw [this]
  rw [List.drop_drop, show a + (k - a + 1) = k + 1 by omega, cutL_at]
  intro c hc hc47
  subst hc47
  obtain ⟨j, hj, e2⟩ := List.getElem_of_mem hc
  rw [List.length_take, List.length_drop] at hj
  rw [List.getElem_take, List.getElem_drop] at e2
  exact h (a + j) (by omega) (by omega) (by rw [List.getElem?_eq_getElem (by omega), e2])
theorem cut_list (s : ByteArray) (L : List ByteArray) (h : cutL s.data.toList = L.map (·.data.toList)) : partsB s = L := by
  rw [parts_of, h, List.map_map]
  conv => rhs; rw [← List.map_id L]
  refine List.map_congr_left fun x _ => ?_
  exact Lib.mk_data x
set_option maxHeartbeats 1000000 in
set_option maxRecDepth 100000 in
theorem parts_any (s : ByteArray) (w : World) (hs : s.size < 4294967281) : Calls Tryd.prog 27 #[.string s] w fun e w' => ∃ v, e = .returned v ∧ OwnS w' w.heap.size v (partsB s) ∧ Below w.heap.size w w' := by
  obtain ⟨i0, z0, hi, hz, hsz, hb, hc⟩ := infoS
  go_enter Tryd.func27, Tryd.ntmps27
  go_wp2
  go_loopw [3, 4, 5] (fun lv av iv wr => ∃ (k a : Nat) (L : List ByteArray), iv = .int .i64 k ∧ av = .int .i64 a ∧ OwnS wr w.heap.size lv L ∧ Below w.heap.size w wr ∧ L.length ≤ k ∧ ((k ≤ s.size ∧ a ≤ k ∧ cutL s.data.toList = L.map (·.data.toList) ++ cutL (s.data.toList.drop a) ∧ ∀ j, a ≤ j → j < k → s.data.toList[j]? ≠ some 47) ∨ (k = s.size + 1 ∧ partsB s = L))) (fun _ _ iv _ => s.size + 1 - (intOf iv).toNat)
  case atStart => exact ⟨0, 0, [], rfl, rfl, World.ownsRow_nil w w.heap.size 9 1, Below.refl _ _, Nat.le_refl _, Or.inl ⟨by omega, by omega, by simp, fun j _ h => by omega⟩⟩
  case round =>
    obtain ⟨k, a, L, rfl, rfl, hown, hbel, hLk, hor⟩ := hrel
    have KO := Kept.mk hown
    have KB := Kept.mk hbel
    rcases hor with ⟨hk, hak, hcut, hno⟩ | ⟨rfl, hL⟩
    · have KN := Kept.mk hno
      have KC := Kept.mk hcut
      obtain ⟨X, hX⟩ : ∃ X, s.extract a k = X := ⟨_, rfl⟩
      have KX : Kept (X.data.toList = (s.data.toList.drop a).take (k - a)) := ⟨by rw [← hX, Lib.extract_data]⟩
      have KOa := Kept.mk (World.ownsRow.alloc hown (.cells #[.string X] 9))
      have KBa := Kept.mk (hbel.alloc hbel.size (.cells #[.string X] 9))
      have i0' : (0 : Int) ≤ (a : Int) := by omega
      have i1 : (a : Int) ≤ (k : Int) := by omega
      have i2 : (k : Int) ≤ (s.size : Int) := by omega
      have hLs : L.length ≤ s.size := by omega
      clear hown hcut hno
      by_cases hlt : k < s.size
      · have hne : ((k : Int) == (s.size : Int)) = false := by simp; omega
        have hidx := run_index_text wr s .i64 k hlt
        have h47 := sN_eq s 47 hlt
        by_cases hx : sN s k = 47
        · have KH : Kept (s.data.toList[k]? = some 47) := ⟨h47.1 hx⟩
          rw [hx] at hidx
          clear h47 hx hbel
          go_wp2_with (at_builtin; refine wpList_append_own_at _ rfl _ _ 42 rfl w.heap.size 9 i0 z0 1 16 Tryd.underlying42 hi hz hsz hb hc (by decide) u3 L.length (L.map Value.string) rfl KOa.out ⟨wr.heap.size, 0, none⟩ 1 1 [.string X] (by first | rfl | (rw [← hX]; rfl)) rfl (by first | exact cell_one_new _ _ _ | (rw [← hX]; exact cell_one_new _ _ _)) (by simp [Value.oneCell']) (by unfold maxLen; omega) (by omega) (by have := KB.out.size; simp; omega) ?_; intro v2 w2 hown2 hgrow _ hat; have KB2 := Kept.mk (KBa.out.grown hgrow (by have := KB.out.size; simp; omega) (fun k hk => (KO.out.lt k hk).1)); have KO2 := Kept.mk hown2; clear hown2 hgrow hat)
          go_roundw
          case rel =>
            refine ⟨k + 1, k + 1, L ++ [X], by simp, by simp, ?_, KB2.out, by simp; omega, Or.inl ⟨by omega, Nat.le_refl _, ?_, fun j h1 h2 => by omega⟩⟩
            · unfold OwnS
              rw [List.length_append, List.map_append]
              exact KO2.out
            · rw [KC.out, cut_next hak KH.out KN.out, List.map_append, ← KX.out]
              simp
          case measure => simp [intOf]; omega
        · have KH : Kept (¬ s.data.toList[k]? = some 47) := ⟨fun h => hx (h47.2 h)⟩
          have hxb : (sN s k == 47) = false := by simpa using hx
          generalize sN s k = x at *
          clear h47 hx hbel
          go_wp2
          go_roundw
          case rel =>
            refine ⟨k + 1, a, L, by simp, rfl, KO.out, KB.out, by omega, Or.inl ⟨by omega, by omega, KC.out, fun j h1 h2 => ?_⟩⟩
            rcases Nat.lt_or_ge j k with h' | h'
            · exact KN.out j h1 h'
            · rw [show j = k by omega]
              exact KH.out
          case measure => simp [intOf]; omega
      · have hke : k = s.size := by omega
        have KN2 : Kept (∀ j, a ≤ j → j < s.data.toList.length → s.data.toList[j]? ≠ some 47) := ⟨by rw [← Lib.size_eq, ← hke]; exact KN.out⟩
        have KX2 : Kept (X.data.toList = s.data.toList.drop a) := ⟨by rw [KX.out, hke, Lib.size_eq]; exact List.take_of_length_le (by rw [List.length_drop]; omega)⟩
        subst hke
        clear hlt hbel
        go_wp2_with (at_builtin; refine wpList_append_own_at _ rfl _ _ 42 rfl w.heap.size 9 i0 z0 1 16 Tryd.underlying42 hi hz hsz hb hc (by decide) u3 L.length (L.map Value.string) rfl KOa.out ⟨wr.heap.size, 0, none⟩ 1 1 [.string X] (by first | rfl | (rw [← hX]; rfl)) rfl (by first | exact cell_one_new _ _ _ | (rw [← hX]; exact cell_one_new _ _ _)) (by simp [Value.oneCell']) (by unfold maxLen; omega) (by omega) (by have := KB.out.size; simp; omega) ?_; intro v2 w2 hown2 hgrow _ hat; have KB2 := Kept.mk (KBa.out.grown hgrow (by have := KB.out.size; simp; omega) (fun k hk => (KO.out.lt k hk).1)); have KO2 := Kept.mk hown2; clear hown2 hgrow hat)
        go_roundw
        case rel =>
          refine ⟨s.size + 1, s.size + 1, L ++ [X], by simp, by simp, ?_, KB2.out, by simp; omega, Or.inr ⟨rfl, ?_⟩⟩
          · unfold OwnS
            rw [List.length_append, List.map_append]
            exact KO2.out
          · refine cut_list s _ ?_
            rw [KC.out, cut_end KN2.out, List.map_append, ← KX2.out]
            rfl
        case measure => simp [intOf]
    · have hgt : ¬ ((s.size : Int) + 1 ≤ (s.size : Int)) := by omega
      have KL := Kept.mk hL
      clear hown hbel hL
      go_wp2
      go_ret
      refine ⟨_, rfl, ?_, KB.out⟩
      rw [KL.out]
      exact KO.out
end Go.Proofs.YtbagkmhhgngbcaaDoor
