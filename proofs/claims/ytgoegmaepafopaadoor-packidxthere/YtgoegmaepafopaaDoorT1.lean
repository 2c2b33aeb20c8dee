/-
  Plain mathematics: what is built in is found, and no other.
-/
import Derived.Test.YtgoegmaepafopaaDoorRF
namespace Go.Proofs.YtgoegmaepafopaaDoor
open Go.RowKit Go.Sort

theorem bldE_rev (rs : List RowC) : bldE rs.reverse = bldE rs := by
  have h := sort_same (rs := rs) (l := sortF rs.reverse) ((sortF_perm _).trans (List.reverse_perm rs)) (sortF_sorted _)
  unfold bldE
  rw [List.length_reverse, h.1]
theorem bldE_rise {rs : List RowC} (h : bldE rs = 0) : riseB (sortF rs) = true ∧ rs.length ≤ 4096 := by
  unfold bldE at h
  by_cases h1 : 4096 < rs.length
  · rw [if_pos h1] at h; omega
  · rw [if_neg h1] at h
    by_cases h2 : riseB (sortF rs) = true
    · exact ⟨h2, by omega⟩
    · rw [if_neg h2] at h; omega
theorem bldL_rev (rs : List RowC) (pk : List Int) : bldL rs.reverse pk = bldL rs pk := by
  unfold bldL
  rw [bldE_rev]
  by_cases h : bldE rs = 0
  · rw [if_pos h, if_pos h]
    have h1 := sort_same (rs := rs) (l := sortF rs.reverse) ((sortF_perm _).trans (List.reverse_perm rs)) (sortF_sorted _)
    rw [h1.2 (by rw [h1.1]; exact (bldE_rise h).1)]
  · rw [if_neg h, if_neg h]
theorem rise_one {l : List RowC} (h : Rise l) {a b : RowC} (ha : a ∈ l) (hb : b ∈ l) (he : a.ids = b.ids) : a = b := by
  have hp := rise_pair h
  obtain ⟨i, hi, rfl⟩ := List.getElem_of_mem ha
  obtain ⟨j, hj, rfl⟩ := List.getElem_of_mem hb
  rw [List.pairwise_iff_getElem] at hp
  rcases Nat.lt_trichotomy i j with h1 | h1 | h1
  · have := hp i j hi hj h1
    rw [he, cmpZ_self] at this
    omega
  · subst h1; rfl
  · have := hp j i hj hi h1
    rw [he, cmpZ_self] at this
    omega
theorem fnd_there {rs : List RowC} {pk : List Int} (hok : ∀ r ∈ rs, r.ok) (hp : pk.length = 32) (h : bldE rs = 0) {x : RowC} (hx : x ∈ rs) : fndE (bldL rs pk) x.ids = 0 ∧ ∀ r, r ∈ prsL (bldL rs pk) → r.ids = x.ids → r = x := by
  obtain ⟨q1, q2, -⟩ := parseBA hok hp h
  have hxs : x ∈ sortF rs := (sortF_perm rs).mem_iff.2 hx
  constructor
  · unfold fndE
    rw [q1, if_neg (by decide), q2, if_pos (List.any_eq_true.2 ⟨x, hxs, decide_eq_true rfl⟩)]
  · intro r hr he
    rw [q2] at hr
    exact rise_one ((riseB_iff _).1 (bldE_rise h).1) hr hxs he
theorem fnd_other {rs : List RowC} {pk : List Int} (hok : ∀ r ∈ rs, r.ok) (hp : pk.length = 32) (h : bldE rs = 0) (o : List Int) : fndE (bldL rs pk) o = if rs.any (fun r => decide (r.ids = o)) = true then 0 else 7 := by
  obtain ⟨q1, q2, -⟩ := parseBA hok hp h
  have he : (sortF rs).any (fun r => decide (r.ids = o)) = rs.any (fun r => decide (r.ids = o)) := by
    rw [Bool.eq_iff_iff, List.any_eq_true, List.any_eq_true]
    constructor
    · rintro ⟨r, hr, hd⟩
      exact ⟨r, (sortF_perm rs).mem_iff.1 hr, hd⟩
    · rintro ⟨r, hr, hd⟩
      exact ⟨r, (sortF_perm rs).mem_iff.2 hr, hd⟩
  unfold fndE
  rw [q1, if_neg (by decide), q2, he]
theorem rev_take {rs : List RowC} {k : Nat} (hk : k < rs.length) : rs.reverse.take k ++ [rowI rs (rs.length - 1 - k)] = rs.reverse.take (k + 1) := by
  rw [List.take_add_one, List.getElem?_reverse hk, rowI_get (by omega), List.getElem?_eq_getElem (by omega)]
  rfl
end Go.Proofs.YtgoegmaepafopaaDoor
