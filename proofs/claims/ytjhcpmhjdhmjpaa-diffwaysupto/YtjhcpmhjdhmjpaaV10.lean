/-
  Walks of the document: SameLines, SameWay.
-/
import Derived.Test.YtjhcpmhjdhmjpaaV9
namespace Go.Proofs.Ytjhcpmhjdhmjpaa
open Go.RowKit

theorem take_grow {α : Type} {a b : List α} {k : Nat} {x y : α} (h : a.take k = b.take k) (hx : a[k]? = some x) (hy : b[k]? = some y) (e : x = y) : a.take (k + 1) = b.take (k + 1) := by
  rw [List.take_add_one, List.take_add_one, h, hx, hy, e]
set_option maxHeartbeats 1000000 in
set_option maxRecDepth 100000 in
theorem sameLines_any (v u : Value) (a b : List ByteArray) (w : World) (hv : RdS w v a) (hu : RdS w u b) (hl : a.length ≤ 4000000) :
    Calls Try.prog 22 #[v, u] w fun e w' => e = .returned (.bool (decide (a = b))) ∧ Below w.heap.size w w' := by
  have KV := Kept.mk hv
  have KU := Kept.mk hu
  obtain ⟨pa, pc, rfl⟩ := hv.form
  obtain ⟨qa, qc, rfl⟩ := hu.form
  clear hv hu
  by_cases hlen : a.length = b.length
  · have hb0 : ((a.length : Int) != (b.length : Int)) = false := by simp [hlen]
    have Kl := Kept.mk hlen
    clear hlen
    go_enter Try.func22, Try.ntmps22
    go_upto_region 4 with fail
    clear hb0
    go_loopw [13] (fun iv wr => ∃ k : Nat, k ≤ a.length ∧ iv = .int .i64 k ∧ a.take k = b.take k ∧ Below w.heap.size w wr) (fun iv _ => a.length - (intOf iv).toNat)
    case atStart => exact ⟨0, Nat.zero_le _, rfl, rfl, Below.refl _ _⟩
    case round =>
      obtain ⟨k, hk, rfl, htk, hbel⟩ := hrel
      have KB := Kept.mk hbel
      have Kt := Kept.mk htk
      by_cases hlt : k < a.length
      · have hki : (k : Int) < (a.length : Int) := by omega
        have hkb : k < b.length := by rw [← Kl.out]; exact hlt
        have hki2 : (k : Int) < (b.length : Int) := by omega
        have i0 : (0 : Int) ≤ (k : Int) := by omega
        have e1 : IntKind.i64.wrap ((k : Int) + 1) = (k : Int) + 1 := wr64 (by omega) (by omega)
        obtain ⟨a', c', he, -, hr⟩ := KV.out.later hbel (Nat.le_refl _)
        rw [List.length_map] at he hr
        obtain ⟨b1, o1, hp1, hb1, hr1⟩ := hr (by omega)
        have hpae : pa = some ⟨b1, o1, none⟩ := by injection he with h1 h2 h3; rw [h1, hp1]
        subst hpae
        obtain ⟨a2, c2, he2, -, hr⟩ := KU.out.later hbel (Nat.le_refl _)
        rw [List.length_map] at he2 hr
        obtain ⟨b2, o2, hp2, hb2, hr2⟩ := hr (by omega)
        have hqae : qa = some ⟨b2, o2, none⟩ := by injection he2 with h1 h2 h3; rw [h1, hp2]
        subst hqae
        obtain ⟨s, hs⟩ : ∃ s, a[k]? = some s := ⟨_, List.getElem?_eq_getElem hlt⟩
        obtain ⟨t, ht⟩ : ∃ t, b[k]? = some t := ⟨_, List.getElem?_eq_getElem hkb⟩
        have cs : wr.cell? ⟨b1, o1 + k, none⟩ = some (.string s) := hr1 k _ (by rw [List.getElem?_map, hs]; rfl)
        have ct : wr.cell? ⟨b2, o2 + k, none⟩ = some (.string t) := hr2 k _ (by rw [List.getElem?_map, ht]; rfl)
        have Ks := Kept.mk hs
        have Kh := Kept.mk ht
        clear hr hr1 hr2 he he2 hp1 hp2 hs ht htk hbel KV KU
        by_cases hst : s = t
        · subst hst
          have KT := Kept.mk (take_grow Kt.out Ks.out Kh.out rfl)
          go_upto_region 6 with fail
          go_quiet (fail)
          generalize hw3 : World.drewN wr _ = w3
          have KB3 : Kept (Below w.heap.size w w3) := ⟨by rw [← hw3]; exact below_drewN KB.out _⟩
          clear hw3 cs ct
          go_wp2
          go_roundw
          case rel => exact ⟨k + 1, by omega, by go_num, KT.out, KB3.out⟩
          case measure => simp [intOf]; omega
        · have hsn : (s.toList == t.toList) = false := by
            rw [beq_eq_false_iff_ne]
            intro h
            apply hst
            rw [Lib.toList_data, Lib.toList_data] at h
            apply ByteArray.ext
            exact Array.ext' h
          have KD : Kept (decide (a = b) = false) := ⟨decide_eq_false fun e => hst (by
            have h1 := Ks.out
            rw [e, Kh.out] at h1
            injection h1 with h1
            exact h1.symm)⟩
          go_upto_region 6 with fail
          go_quiet (fail)
          generalize hw3 : World.drewN wr _ = w3
          have KB3 : Kept (Below w.heap.size w w3) := ⟨by rw [← hw3]; exact below_drewN KB.out _⟩
          clear hw3 cs ct
          go_wp2
          go_ret
          exact ⟨by rw [KD.out]; rfl, KB3.out⟩
      · have hki : ¬ (k : Int) < (a.length : Int) := by omega
        have KD : Kept (decide (a = b) = true) := ⟨decide_eq_true (by
          have h := Kt.out
          rw [List.take_of_length_le (by omega), List.take_of_length_le (by have := Kl.out; omega)] at h
          exact h)⟩
        clear htk hbel
        go_wp2
        go_ret
        exact ⟨by rw [KD.out]; rfl, KB.out⟩
  · have hb0 : ((a.length : Int) != (b.length : Int)) = true := by simp; omega
    have KD : Kept (decide (a = b) = false) := ⟨decide_eq_false fun e => hlen (by rw [e])⟩
    have KB : Kept (Below w.heap.size w w) := ⟨Below.refl _ _⟩
    clear hlen
    go_enter Try.func22, Try.ntmps22
    go_wp2
    go_ret
    exact ⟨by rw [KD.out]; rfl, KB.out⟩
set_option maxHeartbeats 1000000 in
set_option maxRecDepth 100000 in
theorem sameWay_any (v u : Value) (a b : List (Nat × Nat)) (w : World) (hv : RdV w v (ptsV a)) (hu : RdV w u (ptsV b)) (hl : a.length ≤ 1000000) (hA : ∀ q ∈ a, q.1 < 1100 ∧ q.2 < 1100) (hB : ∀ q ∈ b, q.1 < 1100 ∧ q.2 < 1100) :
    Calls Try.prog 12 #[v, u] w fun e w' => e = .returned (.bool (decide (a = b))) ∧ Below w.heap.size w w' := by
  have KV := Kept.mk hv
  have KU := Kept.mk hu
  obtain ⟨pa, pc, rfl, -⟩ := hv
  obtain ⟨qa, qc, rfl, -⟩ := hu
  rw [ptsV_len] at KV
  rw [ptsV_len] at KU
  rw [ptsV_len, ptsV_len]
  have KA := Kept.mk hA
  have KC := Kept.mk hB
  clear hA hB
  by_cases hlen : a.length = b.length
  · have hb0 : ((a.length : Int) != (b.length : Int)) = false := by simp [hlen]
    have Kl := Kept.mk hlen
    clear hlen
    go_enter Try.func12, Try.ntmps12
    go_upto_region 4 with fail
    clear hb0
    go_loopw [13] (fun iv wr => ∃ k : Nat, k ≤ a.length ∧ iv = .int .i64 k ∧ a.take k = b.take k ∧ Below w.heap.size w wr) (fun iv _ => a.length - (intOf iv).toNat)
    case atStart => exact ⟨0, Nat.zero_le _, rfl, rfl, Below.refl _ _⟩
    case round =>
      obtain ⟨k, hk, rfl, htk, hbel⟩ := hrel
      have KB := Kept.mk hbel
      have Kt := Kept.mk htk
      by_cases hlt : k < a.length
      · have hki : (k : Int) < (a.length : Int) := by omega
        have hkb : k < b.length := by rw [← Kl.out]; exact hlt
        have hki2 : (k : Int) < (b.length : Int) := by omega
        have i0 : (0 : Int) ≤ (k : Int) := by omega
        have e1 : IntKind.i64.wrap ((k : Int) + 1) = (k : Int) + 1 := wr64 (by omega) (by omega)
        obtain ⟨a', c', he, -, hr⟩ := KV.out.later hbel (Nat.le_refl _)
        rw [ptsV_len] at he hr
        obtain ⟨b1, o1, hp1, hb1, hr1⟩ := hr (by omega)
        have hpae : pa = some ⟨b1, o1, none⟩ := by injection he with h1 h2 h3; rw [h1, hp1]
        subst hpae
        obtain ⟨a2, c2, he2, -, hr⟩ := KU.out.later hbel (Nat.le_refl _)
        rw [ptsV_len] at he2 hr
        obtain ⟨b2, o2, hp2, hb2, hr2⟩ := hr (by omega)
        have hqae : qa = some ⟨b2, o2, none⟩ := by injection he2 with h1 h2 h3; rw [h1, hp2]
        subst hqae
        obtain ⟨s, hs⟩ : ∃ s, a[k]? = some s := ⟨_, List.getElem?_eq_getElem hlt⟩
        obtain ⟨t, ht⟩ : ∃ t, b[k]? = some t := ⟨_, List.getElem?_eq_getElem hkb⟩
        have cs : wr.cell? ⟨b1, o1 + k, none⟩ = some (.complex .f64 (fl s.1) (fl s.2)) := hr1 k _ (by unfold ptsV; rw [List.getElem?_map, hs]; rfl)
        have ct : wr.cell? ⟨b2, o2 + k, none⟩ = some (.complex .f64 (fl t.1) (fl t.2)) := hr2 k _ (by unfold ptsV; rw [List.getElem?_map, ht]; rfl)
        obtain ⟨m1, m2⟩ := KA.out s (List.mem_of_getElem? hs)
        obtain ⟨m3, m4⟩ := KC.out t (List.mem_of_getElem? ht)
        have ho1 := fl_order m1 m3
        have ho2 := fl_order m2 m4
        have Ks := Kept.mk hs
        have Kh := Kept.mk ht
        clear hr hr1 hr2 he he2 hp1 hp2 hs ht htk hbel KV KU
        by_cases hst : s = t
        · subst hst
          simp only [decide_true] at ho1 ho2
          generalize fl s.1 = x1 at *
          generalize fl s.2 = y1 at *
          have KT := Kept.mk (take_grow Kt.out Ks.out Kh.out rfl)
          go_upto_region 6 with fail
          go_quiet (fail)
          generalize hw3 : World.drewN wr _ = w3
          have KB3 : Kept (Below w.heap.size w w3) := ⟨by rw [← hw3]; exact below_drewN KB.out _⟩
          clear hw3 cs ct
          go_wp2
          go_roundw
          case rel => exact ⟨k + 1, by omega, by go_num, KT.out, KB3.out⟩
          case measure => simp [intOf]; omega
        · obtain ⟨q1, hq1⟩ : ∃ q1, decide (s.1 = t.1) = q1 := ⟨_, rfl⟩
          obtain ⟨q2, hq2⟩ : ∃ q2, decide (s.2 = t.2) = q2 := ⟨_, rfl⟩
          have hq : (q1 && q2) = false := by
            rw [← hq1, ← hq2]
            simp
            exact fun e1 e2 => hst (Prod.ext e1 e2)
          rw [hq1] at ho1
          rw [hq2] at ho2
          clear hq1 hq2
          generalize fl s.1 = x1 at *
          generalize fl s.2 = y1 at *
          generalize fl t.1 = x2 at *
          generalize fl t.2 = y2 at *
          have KD : Kept (decide (a = b) = false) := ⟨decide_eq_false fun e => hst (by
            have h1 := Ks.out
            rw [e, Kh.out] at h1
            injection h1 with h1
            exact h1.symm)⟩
          go_upto_region 6 with fail
          go_quiet (fail)
          generalize hw3 : World.drewN wr _ = w3
          have KB3 : Kept (Below w.heap.size w w3) := ⟨by rw [← hw3]; exact below_drewN KB.out _⟩
          clear hw3 cs ct
          go_wp2
          go_ret
          exact ⟨by rw [KD.out]; rfl, KB3.out⟩
      · have hki : ¬ (k : Int) < (a.length : Int) := by omega
        have KD : Kept (decide (a = b) = true) := ⟨decide_eq_true (by
          have h := Kt.out
          rw [List.take_of_length_le (by omega), List.take_of_length_le (by have := Kl.out; omega)] at h
          exact h)⟩
        clear htk hbel
        go_wp2
        go_ret
        exact ⟨by rw [KD.out]; rfl, KB.out⟩
  · have hb0 : ((a.length : Int) != (b.length : Int)) = true := by simp; omega
    have KD : Kept (decide (a = b) = false) := ⟨decide_eq_false fun e => hlen (by rw [e])⟩
    have KB : Kept (Below w.heap.size w w) := ⟨Below.refl _ _⟩
    clear hlen
    go_enter Try.func12, Try.ntmps12
    go_wp2
    go_ret
    exact ⟨by rw [KD.out]; rfl, KB.out⟩
end Go.Proofs.Ytjhcpmhjdhmjpaa
