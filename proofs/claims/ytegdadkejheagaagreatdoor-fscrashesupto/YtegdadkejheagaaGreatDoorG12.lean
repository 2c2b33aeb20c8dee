/-
  For the document's made.
-/
import Derived.Test.YtegdadkejheagaaGreatDoorG10
namespace Go.Proofs.YtegdadkejheagaaGreatDoor
open Go.RowKit Go.WideMaps Go.Maps

theorem flat_set {k : Nat} : ∀ {rows : List (List Value)}, (∀ r ∈ rows, r.length = k) → ∀ i (hi : i < rows.length) j, j < k → ∀ u, (rows.set i ((rows[i]'hi).set j u)).flatten = rows.flatten.set (i * k + j) u
  | [], _, _, hi, _, _, _ => absurd hi (by simp)
  | r :: rows, h, 0, _, j, hj, u => by
    rw [List.set_cons_zero, List.flatten_cons, List.flatten_cons, Nat.zero_mul, Nat.zero_add, List.set_append_left _ _ (by rw [h r (by simp)]; exact hj)]
    rfl
  | r :: rows, h, i + 1, hi, j, hj, u => by
    have hr := h r (by simp)
    have ih := flat_set (rows := rows) (fun x hx => h x (List.mem_cons_of_mem _ hx)) i (by simpa using hi) j hj u
    rw [List.set_cons_succ, List.flatten_cons, List.flatten_cons, List.set_append_right _ _ (by rw [hr, Nat.succ_mul]; omega), hr, show (i + 1) * k + j - k = i * k + j from by rw [Nat.succ_mul]; omega, ← ih]
    rfl
/-- A cell of the call's own rows turned. -/
theorem OwK.put {w : World} {base : Nat} {t : TypeId} {k : Nat} {v : Value} {rows : List (List Value)} (h : OwK w base t k v rows) {g : Nat} (hg : v.ownBlock = some g) {i j : Nat} (hi : i < rows.length) (hj : j < k) (u : Value) : OwK (w.setCell ⟨g, i * k + j, none⟩ u) base t k v (rows.set i ((rows[i]'hi).set j u)) := by
  refine ⟨⟨?_, ?_⟩, fun r hr => ?_⟩
  · rw [flat_set h.2 i hi j hj, List.length_set, List.length_set]
    exact h.1.1
  · rw [flat_set h.2 i hi j hj, List.length_set]
    rcases h.1.2 with ⟨rfl, hn⟩ | ⟨g', cap, cur, rfl, hbg, hgb, hnc, hcm, hcs, htake⟩
    · cases hg
    · injection hg with hg
      simp only at hg
      subst hg
      refine .inr ⟨g', cap, _, rfl, hbg, heap_setCell_same w g' (i * k + j) cur t u hgb, hnc, hcm, ?_, ?_⟩
      · simpa using hcs
      · rw [← htake]
        simp [List.take_set]
  · rcases List.mem_or_eq_of_mem_set hr with hr | hr
    · exact h.2 r hr
    · rw [hr, List.length_set]
      exact h.2 _ (List.getElem_mem hi)
theorem OwK.cell {w : World} {base : Nat} {t : TypeId} {k : Nat} {v : Value} {rows : List (List Value)} (h : OwK w base t k v rows) {i j : Nat} (hi : i < rows.length) {u : Value} (hu : (rows[i]'hi)[j]? = some u) : ∃ g c, v = .slice (some ⟨g, 0, none⟩) rows.length c ∧ rows.length ≤ c ∧ v.ownBlock = some g ∧ w.cell? ⟨g, i * k + j, none⟩ = some u ∧ w.frozen? ⟨g, i * k + j, none⟩ = false := by
  have hj : j < k := by
    have h1 := h.2 _ (List.getElem_mem hi)
    rcases Nat.lt_or_ge j k with h2 | h2
    · exact h2
    · rw [List.getElem?_eq_none (by omega)] at hu; cases hu
  rcases h.1.2 with ⟨rfl, hn⟩ | ⟨g, cap, cur, rfl, hbg, hgb, hnc, hcm, hcs, htake⟩
  · omega
  · refine ⟨g, cap, rfl, hnc, rfl, ?_, by simp [World.frozen?, hgb]⟩
    have := World.ownsRow.cells h.1 (g := g) rfl (i * k + j) u (by rw [flat_get h.2 i hi j hj]; exact hu)
    rw [add_plain] at this
    rw [← this]
    congr 2
    omega
theorem dm_ones {G : Nat → Prop} {w : World} {D : DD} {V : DVs} (h : DM G w D V) (q o c : Int) (b : Bool) : (#[V.n, V.l, V.p, V.f, .int .i64 q, .slice none 0 0, .int .i64 o, .int .i64 c, .bool b] : Array Value).all (·.oneCell') = true := by
  obtain ⟨a1, c1, e1, -⟩ := h.n
  obtain ⟨a2, c2, e2, -⟩ := h.l
  obtain ⟨a3, c3, e3, -⟩ := h.p
  obtain ⟨ms, -, ⟨a4, c4, e4, -⟩, -⟩ := h.f
  rw [e1, e2, e3, e4, List.all_toArray]
  rfl
theorem DM.form {G : Nat → Prop} {w : World} {D : DD} {V : DVs} (h : DM G w D V) : (∃ a c, V.n = .slice a D.names.length c) ∧ (∃ a c, V.l = .slice a D.lasting.length c) ∧ (∃ a c, V.p = .slice a D.pend.length c) ∧ ∃ a c, V.f = .slice a D.files.length c := by
  obtain ⟨a1, c1, e1, -⟩ := h.n
  obtain ⟨a2, c2, e2, -⟩ := h.l
  obtain ⟨a3, c3, e3, -⟩ := h.p
  obtain ⟨ms, hm, ⟨a4, c4, e4, -⟩, -⟩ := h.f
  rw [List.length_map] at e1 e2 e3 e4
  exact ⟨⟨_, _, e1⟩, ⟨_, _, e2⟩, ⟨_, _, e3⟩, ⟨_, _, by rw [← hm, List.length_map]; exact e4⟩⟩
end Go.Proofs.YtegdadkejheagaaGreatDoor
