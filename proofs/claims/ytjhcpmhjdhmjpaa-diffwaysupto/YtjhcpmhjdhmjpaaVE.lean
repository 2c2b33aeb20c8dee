/-
  The hunks of a way are in form, and lead from the one list to the other. (Pure.)
-/
import Derived.Test.YtjhcpmhjdhmjpaaVJ
namespace Go.Proofs.Ytjhcpmhjdhmjpaa

def Cnd (a b : List ByteArray) (acc : List (Pt × Pt)) (l : Pt) (h : Pt × Pt) : Prop :=
  l.1 ≤ h.1.1 ∧ l.2 ≤ h.1.2 ∧ h.1.1 - l.1 = h.1.2 - l.2 ∧ (acc ≠ [] → 1 ≤ h.1.1 - l.1) ∧ h.1.1 ≤ h.2.1 ∧ h.1.2 ≤ h.2.2 ∧ h.1 ≠ h.2 ∧ h.2.1 ≤ a.length ∧ h.2.2 ≤ b.length
/-- Hunks one behind the other, where the last one ends, and what they make. -/
inductive Ch (a b : List ByteArray) : List (Pt × Pt) → Pt → List ByteArray → Prop
  | nil : Ch a b [] (0, 0) []
  | snoc {acc : List (Pt × Pt)} {l : Pt} {M : List ByteArray} {h : Pt × Pt} (c : Ch a b acc l M) (hc : Cnd a b acc l h) : Ch a b (acc ++ [h]) h.2 (M ++ (a.drop l.1).take (h.1.1 - l.1) ++ (b.drop h.1.2).take (h.2.2 - h.1.2))
theorem Ch.inv {a b : List ByteArray} {acc : List (Pt × Pt)} {h : Pt × Pt} {l : Pt} {M : List ByteArray} (c : Ch a b (acc ++ [h]) l M) : ∃ l0 M0, Ch a b acc l0 M0 ∧ Cnd a b acc l0 h ∧ l = h.2 ∧ M = M0 ++ (a.drop l0.1).take (h.1.1 - l0.1) ++ (b.drop h.1.2).take (h.2.2 - h.1.2) := by
  generalize hx : acc ++ [h] = X at c
  cases c with
  | nil => simp at hx
  | snoc c hc =>
    obtain ⟨h1, h2⟩ := List.append_inj' hx rfl
    injection h2 with h2 _
    subst h1 h2
    exact ⟨_, _, c, hc, rfl, rfl⟩
theorem Ch.whole {a b : List ByteArray} {acc : List (Pt × Pt)} {l : Pt} {M : List ByteArray} (c : Ch a b acc l M) : ∀ rest, (inF a.length b.length l (decide (acc = [])) rest → inF a.length b.length (0, 0) true (acc ++ rest)) ∧ apP a b 0 (acc ++ rest) = M ++ apP a b l.1 rest := by
  induction c with
  | nil => intro rest; exact ⟨fun h => h, rfl⟩
  | @snoc acc l M h c hc ih =>
    intro rest
    obtain ⟨i1, i2⟩ := ih (h :: rest)
    rw [List.append_assoc]
    refine ⟨fun hr => i1 ?_, ?_⟩
    · rw [decide_eq_false (by simp)] at hr
      obtain ⟨c1, c2, c3, c4, c5, c6, c7, c8, c9⟩ := hc
      exact ⟨c1, c2, c3, fun hf => c4 (of_decide_eq_false hf), c5, c6, c7, c8, c9, hr⟩
    · rw [show [h] ++ rest = h :: rest from rfl, i2, apP]
      simp only [List.append_assoc]
structure HInv (a b : List ByteArray) (acc : List (Pt × Pt)) (p : Pt) (l : Pt) (M : List ByteArray) : Prop where
  ch : Ch a b acc l M
  h1 : l.1 ≤ p.1
  h2 : l.2 ≤ p.2
  dg : p.1 - l.1 = p.2 - l.2
  made : M ++ (a.drop l.1).take (p.1 - l.1) = b.take p.2
theorem take_more {b : List ByteArray} {c d : Nat} (h : c ≤ d) : b.take c ++ (b.drop c).take (d - c) = b.take d := by
  have : d = c + (d - c) := by omega
  rw [this, List.take_add]
  congr 2
  omega
theorem HInv.step {a b : List ByteArray} {acc : List (Pt × Pt)} {p q l : Pt} {M : List ByteArray} (h : HInv a b acc p l M) (hs : StOk a b p q) (hp : p.1 ≤ a.length ∧ p.2 ≤ b.length) (hq : q.1 ≤ a.length ∧ q.2 ≤ b.length) : ∃ l' M', HInv a b (hstep acc p q) q l' M' := by
  obtain ⟨hc, h1, h2, h3, h4⟩ := h
  by_cases hd : q = (p.1 + 1, p.2 + 1)
  · have hE : hstep acc p q = acc := by unfold hstep; rw [if_pos hd]
    rw [hE]
    rcases hs with ⟨-, s, ha, hb⟩ | hs | hs
    · subst hd
      refine ⟨l, M, hc, by simp only; omega, by simp only; omega, by simp only; omega, ?_⟩
      have e1 : p.1 + 1 - l.1 = (p.1 - l.1) + 1 := by omega
      simp only
      rw [e1, List.take_add_one, ← List.append_assoc, h4, List.take_add_one, hb, List.getElem?_drop, show l.1 + (p.1 - l.1) = p.1 by omega, ha]
    · rw [hs] at hd; injection hd with _ hd; omega
    · rw [hs] at hd; injection hd with hd _; omega
  · have hpq : p.1 ≤ q.1 ∧ p.2 ≤ q.2 ∧ p ≠ q := by
      rcases hs with ⟨hs, -⟩ | hs | hs
      · exact absurd hs hd
      · subst hs; exact ⟨by simp, by simp, fun h => by have := congrArg Prod.fst h; simp at this⟩
      · subst hs; exact ⟨by simp, by simp, fun h => by have := congrArg Prod.snd h; simp at this⟩
    have hnew : (acc ≠ [] → 1 ≤ p.1 - l.1) → ∃ l' M', HInv a b (acc ++ [(p, q)]) q l' M' := by
      intro hne
      refine ⟨q, _, Ch.snoc (h := (p, q)) hc ⟨h1, h2, h3, hne, hpq.1, hpq.2.1, hpq.2.2, hq.1, hq.2⟩, Nat.le_refl _, Nat.le_refl _, by omega, ?_⟩
      simp only
      rw [h4, Nat.sub_self, List.take_zero, List.append_nil, take_more hpq.2.1]
    unfold hstep
    rw [if_neg hd]
    rcases List.eq_nil_or_concat acc with rfl | ⟨acc0, h, rfl⟩
    · exact hnew (fun h => absurd rfl h)
    · rw [List.concat_eq_append] at *
      rw [List.getLast?_concat]
      simp only
      obtain ⟨l0, M0, c0, ⟨c1, c2, c3, c4, c5, c6, c7, c8, c9⟩, rfl, rfl⟩ := hc.inv
      by_cases hT : h.2 = p
      · rw [if_pos hT, List.dropLast_concat]
        subst hT
        refine ⟨q, _, Ch.snoc (h := (h.1, q)) c0 ⟨c1, c2, c3, c4, by simp only; omega, by simp only; omega, fun he => ?_, hq.1, hq.2⟩, Nat.le_refl _, Nat.le_refl _, by omega, ?_⟩
        · simp only at he
          rw [← he] at hpq
          exact c7 (by apply Prod.ext <;> omega)
        · simp only
          rw [Nat.sub_self, List.take_zero, List.append_nil] at h4 ⊢
          rw [← take_more c6] at h4
          rw [List.append_cancel_right h4, take_more (by omega)]
      · rw [if_neg hT]
        refine hnew (fun _ => ?_)
        apply Nat.le_of_not_lt
        intro hlt
        exact hT (by apply Prod.ext <;> omega)
theorem hks_inv {a b : List ByteArray} : ∀ (r : List Pt) (acc : List (Pt × Pt)) (p l : Pt) (M : List ByteArray), (∀ i x y, (p :: r)[i]? = some x → (p :: r)[i + 1]? = some y → StOk a b x y) → (∀ x ∈ p :: r, x.1 ≤ a.length ∧ x.2 ≤ b.length) → HInv a b acc p l M → ∀ e, (p :: r).getLast? = some e → ∃ l' M', HInv a b (hksF acc (p :: r)) e l' M' := by
  intro r
  induction r with
  | nil =>
    intro acc p l M _ _ hI e he
    rw [hksF_one]
    have : p = e := by simpa using he
    subst this
    exact ⟨l, M, hI⟩
  | cons q r ih =>
    intro acc p l M hs hm hI e he
    rw [hksF_two]
    obtain ⟨l', M', hI'⟩ := hI.step (hs 0 p q rfl rfl) (hm p (by simp)) (hm q (by simp))
    exact ih _ q l' M' (fun i x y hx hy => hs (i + 1) x y (by simpa using hx) (by simpa using hy)) (fun x hx => hm x (List.mem_cons_of_mem _ hx)) hI' e (by rw [List.getLast?_cons_cons] at he; exact he)
theorem hunks_whole (a b : List ByteArray) : inF a.length b.length (0, 0) true (hksF [] (wayP a b 0 0)) ∧ apP a b 0 (hksF [] (wayP a b 0 0)) = b := by
  obtain ⟨hok, -, hlen⟩ := way_all a b _ a b 0 0 (Nat.le_refl _) rfl rfl (Nat.zero_le _) (Nat.zero_le _)
  obtain ⟨r0, hr0⟩ := wayP_head a b 0 0
  have h1 := hok.steps
  have h2 := hok.small
  have h3 := hok.last
  rw [hr0] at h1 h2 h3 ⊢
  obtain ⟨l, M, hI⟩ := hks_inv (a := a) (b := b) r0 [] (0, 0) (0, 0) [] h1 h2 ⟨Ch.nil, Nat.le_refl _, Nat.le_refl _, rfl, by simp⟩ _ h3
  generalize hksF [] ((0, 0) :: r0) = acc at *
  obtain ⟨hc, g1, g2, g3, g4⟩ := hI
  simp only at g1 g2 g3 g4
  obtain ⟨w1, w2⟩ := hc.whole []
  rw [List.append_nil] at w1 w2
  refine ⟨w1 ⟨g1, g2, g3⟩, ?_⟩
  rw [w2, apP]
  rw [List.take_of_length_le (by rw [List.length_drop]; omega), List.take_length] at g4
  exact g4
theorem hks_len (a b : List ByteArray) : (hksF [] (wayP a b 0 0)).length ≤ a.length + b.length := by
  obtain ⟨-, -, hlen⟩ := way_all a b _ a b 0 0 (Nat.le_refl _) rfl rfl (Nat.zero_le _) (Nat.zero_le _)
  have : ∀ (W : List Pt) (acc : List (Pt × Pt)), (hksF acc W).length ≤ acc.length + (W.length - 1) := by
    intro W
    induction W with
    | nil => intro acc; rw [hksF] <;> simp
    | cons p r ih =>
      intro acc
      cases r with
      | nil => rw [hksF_one]; simp
      | cons q r =>
        rw [hksF_two]
        have h1 := ih (hstep acc p q)
        have h2 := hstep_len acc p q
        simp only [List.length_cons] at h1 ⊢
        omega
  have := this (wayP a b 0 0) []
  simp only [List.length_nil] at this
  omega
end Go.Proofs.Ytjhcpmhjdhmjpaa
