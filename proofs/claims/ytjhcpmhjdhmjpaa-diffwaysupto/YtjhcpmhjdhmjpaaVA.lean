/-
  Walks: appendOwn; math.Trunc at whole numbers, isWhole, inPlane.
-/
import Derived.Test.YtjhcpmhjdhmjpaaVH
import Derived.Test.YtjhcpmhjdhmjpaaShelf
namespace Go.Proofs.Ytjhcpmhjdhmjpaa
open Go.RowKit

/-- Texts in memory of the call's own. -/
def OwnT (w : World) (base : Nat) (v : Value) (L : List ByteArray) : Prop := w.ownsRow base 9 1 v L.length (L.map Value.string)
theorem OwnT.lt {w : World} {base : Nat} {v : Value} {L : List ByteArray} (h : OwnT w base v L) : ∀ g, v.ownBlock = some g → base ≤ g ∧ g < w.heap.size := by
  intro g hg
  rcases h.2 with ⟨rfl, hn⟩ | ⟨g', cap, cur, rfl, hbg, hg', hnc, hcm, hcs, htake⟩
  · cases hg
  · have : g' = g := by simpa [Value.ownBlock] using hg
    subst this
    exact ⟨hbg, (Array.getElem?_eq_some_iff.1 hg').1⟩
theorem OwnT.far {w w' : World} {base : Nat} {v : Value} {L : List ByteArray} (h : OwnT w base v L) (hb : ∀ g, v.ownBlock = some g → w'.heap[g]? = w.heap[g]?) : OwnT w' base v L := by
  refine ⟨h.1, ?_⟩
  rcases h.2 with h2 | ⟨g, cap, cur, rfl, hg, hh, r⟩
  · exact Or.inl h2
  · exact Or.inr ⟨g, cap, cur, rfl, hg, by rw [hb g rfl]; exact hh, r⟩
theorem OwnT.later {B : Nat} {w w' : World} {base : Nat} {v : Value} {L : List ByteArray} (h : OwnT w base v L) (hb : Below B w w') (hB : w.heap.size ≤ B) : OwnT w' base v L :=
  h.far fun g hg => hb.block g (Nat.lt_of_lt_of_le (h.lt g hg).2 hB)
theorem OwnT.mono {base' : Nat} {w : World} {base : Nat} {v : Value} {L : List ByteArray} (h : OwnT w base v L) (hb : base' ≤ base) : OwnT w base' v L := by
  refine ⟨h.1, ?_⟩
  rcases h.2 with h2 | ⟨g, cap, cur, hv, hg, r⟩
  · exact Or.inl h2
  · exact Or.inr ⟨g, cap, cur, hv, Nat.le_trans hb hg, r⟩
theorem OwnT.rd {w : World} {base : Nat} {v : Value} {L : List ByteArray} (h : OwnT w base v L) : RdS w v L := ownsRow_rd (base := base) (T := 9) (by rw [List.length_map]; exact h)
theorem OwnT.form {w : World} {base : Nat} {v : Value} {L : List ByteArray} (h : OwnT w base v L) : ∃ a c, v = .slice a L.length c := by
  rcases h.2 with ⟨rfl, hn⟩ | ⟨g, cap, cur, rfl, -⟩
  · exact ⟨none, 0, by rw [hn]⟩
  · exact ⟨_, _, rfl⟩
set_option maxRecDepth 100000 in
theorem info_str : ∃ i z, Try.prog.info? 9 = some i ∧ i.zero = some z ∧ i.size = 1 ∧ i.bytes = 16 ∧ z.cells.size = 1 := by
  refine ⟨_, _, rfl, rfl, rfl, rfl, rfl⟩
set_option maxHeartbeats 400000 in
set_option maxRecDepth 100000 in
theorem clone_any (s : ByteArray) (w : World) (hs : s.size ≤ 281474976710656) : Calls Try.prog 51 #[.string s] w fun e w' => e = .returned (.string s) ∧ Below w.heap.size w w' := by
  have K := Kept.mk (Try.stringslite_Clone s w hs)
  go_enter Try.func51, Try.ntmps51
  go_wp2_with fail
  refine Calls.mono K.out (fun e w1 hp => ?_)
  obtain ⟨rfl, hb⟩ := hp
  have KB := Kept.mk hb
  clear hb K
  go_wp2
  go_ret
  exact ⟨rfl, KB.out⟩
set_option maxHeartbeats 1000000 in
set_option maxRecDepth 100000 in
theorem appendOwn_any (v u : Value) (M L : List ByteArray) (base : Nat) (w : World) (hv : OwnT w base v M) (hb : base ≤ w.heap.size) (hu : RdS w u L) (hfar : ∀ W, Below base w W → RdS W u L) (hs : ∀ s ∈ L, s.size ≤ 281474976710656) (hM : M.length ≤ 100000) (hL : L.length ≤ 100000) :
    Calls Try.prog 43 #[v, u] w fun e w' => ∃ v', e = .returned v' ∧ OwnT w' base v' (M ++ L) ∧ Below base w w' := by
  obtain ⟨i0, z0, hi, hz, hsz, hbt, hzc⟩ := info_str
  obtain ⟨pa, pc, rfl⟩ := hu.form
  obtain ⟨va, vc, rfl⟩ := hv.form
  have KF := Kept.mk hfar
  have Ks := Kept.mk hs
  have K0 : Kept (OwnT w base (.slice va M.length vc) (M ++ L.take 0)) := ⟨by simpa using hv⟩
  clear hu hfar hs hv
  go_enter Try.func43, Try.ntmps43
  go_upto_region 2 with fail
  go_loopw [0, 9] (fun mv iv wr => ∃ k : Nat, k ≤ L.length ∧ iv = .int .i64 k ∧ OwnT wr base mv (M ++ L.take k) ∧ Below base w wr) (fun _ iv _ => L.length - (intOf iv).toNat)
  case atStart => exact ⟨0, Nat.zero_le _, rfl, K0.out, Below.refl _ _⟩
  case round =>
    obtain ⟨k, hk, rfl, hO, hbr⟩ := hrel
    have KO := Kept.mk hO
    have KBr := Kept.mk hbr
    obtain ⟨ma, mc, hfm⟩ := hO.form
    rw [hfm]
    rw [hfm] at KO
    clear K0
    have hbw := hbr.size
    by_cases hlt : k < L.length
    · have hki : (k : Int) < (L.length : Int) := by omega
      have n0 : (0 : Int) ≤ (k : Int) := by omega
      have e1 : IntKind.i64.wrap ((k : Int) + 1) = (k : Int) + 1 := wr64 (by omega) (by omega)
      obtain ⟨s, hsk⟩ : ∃ s, L[k]? = some s := ⟨_, List.getElem?_eq_getElem hlt⟩
      obtain ⟨p', c', he, -, hr⟩ := KF.out wr hbr
      rw [List.length_map] at he hr
      obtain ⟨b1, o1, hp1, -, hr1⟩ := hr (by omega)
      have hpa : pa = some ⟨b1, o1, none⟩ := by injection he with h1 h2 h3; rw [h1, hp1]
      subst hpa
      have cs : wr.cell? ⟨b1, o1 + k, none⟩ = some (.string s) := hr1 k _ (by rw [List.getElem?_map, hsk]; rfl)
      have K1 := Kept.mk (clone_any s wr (Ks.out s (List.mem_of_getElem? hsk)))
      have Ktk : Kept (M ++ L.take (k + 1) = (M ++ L.take k) ++ [s]) := ⟨by rw [List.take_add_one, hsk]; simp⟩
      have hln : (M ++ L.take k).length = M.length + k := by rw [List.length_append, List.length_take]; omega
      have Kln := Kept.mk hln
      rw [hln]
      have hOn : wr.ownsRow base 9 1 (.slice ma (M.length + k) mc) (M.length + k) ((M ++ L.take k).map Value.string) := by
        have h1 := KO.out
        unfold OwnT at h1
        rw [hln] at h1
        exact h1
      have KOn := Kept.mk hOn
      rw [hln] at KO
      clear hO hbr he hr hr1 hp1 hsk hfm hln hOn
      go_wp2_with fail
      refine Calls.mono K1.out (fun e w2 hp => ?_)
      obtain ⟨rfl, hb2⟩ := hp
      have hBw : Below base wr w2 := hb2.mono (by omega)
      have KB2 := KBr.out.trans hBw
      have KOa := Kept.mk (World.ownsRow.alloc (show w2.ownsRow base 9 1 (.slice ma (M.length + k) mc) (M.length + k) ((M ++ L.take k).map Value.string) from by have h1 := KO.out.later hb2 (Nat.le_refl _); unfold OwnT at h1; rw [Kln.out] at h1; exact h1) (.cells #[.string s] 9))
      have KBa := Kept.mk (KB2.alloc (by have := KB2.size; omega) (.cells #[.string s] 9))
      have Kbs : Kept (base ≤ (w2.alloc (.cells #[.string s] 9)).heap.size) := ⟨by have := KBa.out.size; omega⟩
      clear hb2 hBw KB2 K1 cs
      go_wp2_with (at_builtin; refine wpList_append_own_at _ rfl _ _ 22 rfl base 9 i0 z0 1 16 Try.underlying22 hi hz hsz hbt hzc (by decide) (.slice ma (M.length + k) mc) (M.length + k) ((M ++ L.take k).map Value.string) rfl KOa.out ⟨w2.heap.size, 0, none⟩ 1 1 [.string s] rfl rfl (cell_one_new _ _ _) (by simp [Value.oneCell']) (by have := Kln.out; unfold maxLen; omega) (by have := Kln.out; omega) Kbs.out ?_; intro v5 w5 hown5 hgrow5 _ hat5; have KB5 := Kept.mk (KBa.out.grown hgrow5 Kbs.out (fun k hk => (KO.out.lt k hk).1)); have KO5 := Kept.mk hown5; clear hown5 hgrow5 hat5)
      go_roundw
      case rel =>
        refine ⟨k + 1, hlt, by go_num, ?_, KB5.out⟩
        have h := KO5.out
        rw [Ktk.out]
        unfold OwnT
        rw [List.length_append, List.length_singleton, List.map_append, Kln.out]
        exact h
      case measure => simp [intOf]; omega
    · have hki : ¬ (k : Int) < (L.length : Int) := by omega
      obtain rfl : k = L.length := by omega
      have KE := Kept.mk KO.out
      have hln : (M ++ L.take L.length).length = M.length + L.length := by rw [List.take_length, List.length_append]
      rw [hln] at KE
      rw [hln]
      rw [List.take_length] at KE
      clear hO hbr hfm KO hln
      go_wp2
      go_ret
      exact ⟨_, rfl, KE.out, KBr.out⟩
end Go.Proofs.Ytjhcpmhjdhmjpaa
