/-
  A law: a region that draws its order, whose first operations are quiet in a class of worlds, and whose later ones wait for them.
-/
import Derived.Test.YthkaohkondkhgaaDoorQ2
namespace Go.Proofs.YthkaohkondkhgaaDoor
open Go

section
variable {P : Program} {ops : Array Oper} {md : Region.Mode} {C : World → Prop} {n : Nat} {LN : Array Bool}

/-- Every operation ahead of n is waited for by a later one, up to n; each one behind n waits for n or for one between. -/
def coverP (md : Region.Mode) (ops : Array Oper) (n : Nat) : Bool :=
  ((List.range n).all fun i => (List.range (n + 1)).any fun j => decide (i < j) && match ops[j]? with
    | some oj => oj.after.any fun e => Region.binds md e && (e.on == i)
    | none => false) &&
  (List.range ops.size).all fun j => decide (j ≤ n) || match ops[j]? with
    | some oj => oj.after.any fun e => Region.binds md e && (decide (n ≤ e.on) && decide (e.on < j))
    | none => false

theorem coverP_all (hc : coverP md ops n = true) {listed : Array Bool} (hs : Shut md ops listed) (hr : Due md ops listed n) : ∀ (d i : Nat), i + d = n → 0 < d → listed.getD i false = true := by
  intro d
  induction d using Nat.strongRecOn with
  | ind d ih =>
    intro i hi hd
    simp only [coverP, Bool.and_eq_true, List.all_eq_true, List.mem_range] at hc
    have hci := hc.1 i (by omega)
    simp only [decide_eq_true_eq, List.any_eq_true, Bool.and_eq_true, List.mem_range] at hci
    obtain ⟨j, hj, hlt, hm⟩ := hci
    cases hoj : ops[j]? with
    | none => rw [hoj] at hm; cases hm
    | some oj =>
      rw [hoj] at hm
      simp only [Array.any_eq_true', Bool.and_eq_true, beq_iff_eq] at hm
      obtain ⟨e, he, hb, hon⟩ := hm
      by_cases hjn : j = n
      · subst hjn
        have := hr oj hoj e he hb
        rwa [hon] at this
      · have hl := ih (n - j) (by omega) j (by omega) (by omega)
        have := hs j oj hoj hl e he hb
        rwa [hon] at this

theorem coverP_down (hc : coverP md ops n = true) {listed : Array Bool} (hs : Shut md ops listed) (j : Nat) (hn : n < j) (hlt : j < ops.size) (h : Due md ops listed j) : listed.getD n false = true := by
  induction j using Nat.strongRecOn with
  | ind j ih =>
    have hc' := hc
    simp only [coverP, Bool.and_eq_true, List.all_eq_true, List.mem_range] at hc'
    have hm := hc'.2 j hlt
    rw [Bool.or_eq_true] at hm
    rcases hm with hm | hm
    · simp at hm
      omega
    · cases hoj : ops[j]? with
      | none => rw [hoj] at hm; cases hm
      | some oj =>
        rw [hoj] at hm
        simp only [Array.any_eq_true', Bool.and_eq_true, decide_eq_true_eq] at hm
        obtain ⟨e, he, hb, h1, h2⟩ := hm
        have hl := h oj hoj e he hb
        by_cases hen : e.on = n
        · rwa [hen] at hl
        · exact ih e.on h2 (by omega) (by omega) (fun o' ho' e' he' hb' => hs e.on o' ho' hl e' he' hb')

theorem part_waits (hc : coverP md ops n = true) {listed : Array Bool} (hs : Shut md ops listed) {i : Nat} (hi : i ∈ Region.ready md ops listed) (hne : i ≤ n) (j : Nat) (hj : j ∈ Region.ready md ops listed) : j ≤ n := by
  rcases Nat.lt_or_ge n j with h | h
  · exfalso
    obtain ⟨_, oj, hoj, _⟩ := mem_ready.1 hj
    have hlt : j < ops.size := (Array.getElem?_eq_some_iff.1 hoj).1
    have hln := coverP_down hc hs j h hlt (due_of_ready hj)
    have hd : Due md ops listed n := fun o' ho' e' he' hb' => hs n o' ho' hln e' he' hb'
    have h1 : listed.getD i false = true := by
      by_cases hin : i = n
      · rw [hin]; exact hln
      · exact coverP_all hc hs hd (n - i) i (by omega) (by omega)
    have h0 := (mem_ready.1 hi).1
    rcases Nat.lt_or_ge i listed.size with h' | h'
    · simp [h'] at h0 h1; rw [h0] at h1; cases h1
    · simp [Array.getElem?_eq_none h'] at h1
  · exact h

def wpAnyP (P : Program) (md : Region.Mode) (ops : Array Oper) (C : World → Prop) (n : Nat) (LN : Array Bool) (Q : Act → Prop) : Nat → Array Bool → Act → Prop
  | 0, listed, a => listed = LN ∧ Q a
  | fuel + 1, listed, a =>
    Region.ready md ops listed ≠ [] ∧ ∀ i ∈ Region.ready md ops listed, i ≤ n ∧ qOp P ops C i (wpAnyP P md ops C n LN Q fuel (listed.setIfInBounds i true)) a

theorem wpAny_of_P {t : Nat} {Q : Act → Prop} {Q' : Exit → Act → World → Prop} (hQ : ∀ a w, C w → Q a → wpAny P md ops Q' t LN a w) : ∀ (fuel : Nat) (listed : Array Bool) (a : Act) (w : World), C w →
    wpAnyP P md ops C n LN Q fuel listed a → wpAny P md ops Q' (fuel + t) listed a w
  | 0, listed, a, w, hw, h => by
    rw [Nat.zero_add, h.1]
    exact hQ a w hw h.2
  | fuel + 1, listed, a, w, hw, h => by
    rw [show fuel + 1 + t = (fuel + t) + 1 from by omega]
    exact ⟨fun h0 => absurd h0 h.1, fun i hi => wpOp_of_qOp hw (fun a' w' hw' => wpAny_of_P hQ fuel _ a' w' hw') (h.2 i hi).2⟩

theorem wpAnyP_first {Q : Act → Prop} {i : Nat} {oi : Oper} {v : Value} (hLN : ∀ j, j ≤ n → LN.getD j true = true) (hc : coverP md ops n = true) (hin : i ≤ n) (hi : ops[i]? = some oi) (hsel : ∀ (j : Nat) (o : Oper) cs b, ops[j]? = some o → o.op ≠ .select cs b) :
    ∀ (fuel : Nat) (listed : Array Bool) (a : Act), Shut md ops listed →
      (∀ j oj, ops[j]? = some oj → j ≠ i → listed.getD j true = false → (∀ e ∈ oj.after, Region.binds md e = true → e.on ≠ i) → oi.apart ops oj = true) →
      i ∈ Region.ready md ops listed → YieldsIn P ops C oi v a →
      wpAnyP P md ops C n LN Q fuel (listed.setIfInBounds i true) (a.put oi.dst v) → wpAnyP P md ops C n LN Q (fuel + 1) listed a := by
  intro fuel
  induction fuel with
  | zero =>
    intro listed a hs _ hr hy H
    refine ⟨fun h => (by rw [h] at hr; cases hr), fun j hj => ?_⟩
    have hjn : j ≤ n := part_waits hc hs hr hin j hj
    refine ⟨hjn, ?_⟩
    by_cases hji : j = i
    · subst hji; exact hy.qOp hi H
    · have := ready_mono hj hji
      rw [H.1] at this
      have h0 := (mem_ready.1 this).1
      rw [hLN j hjn] at h0
      cases h0
  | succ fuel ih =>
    intro listed a hs hfree hr hy H
    refine ⟨fun h => (by rw [h] at hr; cases hr), fun j hj => ?_⟩
    have hjn : j ≤ n := part_waits hc hs hr hin j hj
    refine ⟨hjn, ?_⟩
    by_cases hji : j = i
    · subst hji; exact hy.qOp hi H
    · have h1 := (H.2 j (ready_mono hj hji)).2
      obtain ⟨hjun, oj, hoj, hall⟩ := mem_ready.1 hj
      have hnot : ∀ e ∈ oj.after, Region.binds md e = true → e.on ≠ i := fun e he hb heq => by
        have h1 := hall e he hb
        have h0 := (mem_ready.1 hr).1
        rw [heq] at h1
        rcases Nat.lt_or_ge i listed.size with h' | h'
        · simp [h'] at h0 h1; rw [h0] at h1; cases h1
        · simp [Array.getElem?_eq_none h'] at h1
      have h2 := qOp_put hoj (hfree j oj hoj hji hjun hnot) (fun cs b => hsel i oi cs b hi) (fun cs b => hsel j oj cs b hoj) hy h1
      have hfree' : ∀ k ok, ops[k]? = some ok → k ≠ i → (listed.setIfInBounds j true).getD k true = false →
          (∀ e ∈ ok.after, Region.binds md e = true → e.on ≠ i) → oi.apart ops ok = true := fun k ok hk hki hun hno => by
        refine hfree k ok hk hki ?_ hno
        by_cases hjk : j = k
        · subst hjk; exact hjun
        · rw [getD_set_ne true hjk] at hun; exact hun
      refine qOp_mono (fun a' h3 => ih (listed.setIfInBounds j true) a' (hs.step hj) hfree' (ready_mono hr (Ne.symm hji)) h3.1 ?_) h2
      rw [Array.setIfInBounds_comm _ _ hji]
      exact h3.2

def preP (md : Region.Mode) (ops : Array Oper) (n : Nat) (LN : Array Bool) : Nat → Nat → Array Bool → Bool
  | 0, _, listed => decide (listed = LN)
  | fuel + 1, k, listed => (Region.ready md ops listed).contains k && Region.free md ops listed k && decide (k ≤ n) && preP md ops n LN fuel (k + 1) (listed.setIfInBounds k true)

theorem wpAnyP_lex {Q : Act → Prop} (hLN : ∀ j, j ≤ n → LN.getD j true = true) (hc : coverP md ops n = true) (hsl : Region.noSelect ops = true) : ∀ (l : List Oper) (k : Nat) (listed : Array Bool) (a : Act), Shut md ops listed → (∀ j, j < l.length → l[j]? = ops[k + j]?) →
    preP md ops n LN l.length k listed = true → wpQuiet P ops C Q l a → wpAnyP P md ops C n LN Q l.length listed a
  | [], _, _, _, _, _, hB, h => ⟨of_decide_eq_true hB, h⟩
  | o :: l, k, listed, a, hs, hl, hB, h => by
    have h0 : ops[k]? = some o := by simpa using (hl 0 (by simp)).symm
    simp only [List.length_cons, preP, Bool.and_eq_true, decide_eq_true_eq] at hB
    obtain ⟨⟨⟨hr, hf⟩, hne⟩, hB'⟩ := hB
    have hst : qOp P ops C k (wpQuiet P ops C Q l) a := by unfold qOp; simp only [h0]; exact h
    obtain ⟨v, hy, hK⟩ := yieldsIn_of_qOp h0 hst
    have hr' : k ∈ Region.ready md ops listed := by simpa using hr
    exact wpAnyP_first hLN hc hne h0 (Region.noSelect_spec hsl) l.length listed a hs (Region.free_spec h0 hf) hr' hy
      (wpAnyP_lex hLN hc hsl l (k + 1) _ _ (hs.step hr') (fun j hj => by have := hl (j + 1) (by simpa using hj); simpa [Nat.add_assoc, Nat.add_comm 1 j] using this) hB' hK)

def partB (ops : Array Oper) (n t : Nat) (LN : Array Bool) : Bool := (ops.size == n + 1 + t) && Region.noSelect ops && coverP .any ops n && preP .any ops n LN (n + 1) 0 (Array.replicate ops.size false) && (List.range (n + 1)).all fun j => LN.getD j true

/-- **The law.** The operations up to n are quiet in C; t more follow: they are asked in every world of C, with what has come up (LN) written out. -/
theorem wp_region_part {id : Nat} {Q : Exit → Act → World → Prop} {a : Act} {w : World} {l : List Oper} (n t : Nat) (LN : Array Bool) (hm : P.follows .mixedOrders = true) (hB : partB l.toArray n t LN = true) (hC : C { w with drawn := w.drawn + 1 })
    (h : wpQuiet P l.toArray C (fun a' => ∀ w', C w' → wpAny P .any l.toArray (NoPanic Q) t LN a' w') (l.take (n + 1)) a) : (Code.region id l.toArray true).wp P Q a w := by
  simp only [partB, Bool.and_eq_true, beq_iff_eq, List.all_eq_true, List.mem_range] at hB
  obtain ⟨⟨⟨⟨hz, h1⟩, h2⟩, h3⟩, h4⟩ := hB
  have hz' : l.length = n + 1 + t := by simpa using hz
  have hlen : (l.take (n + 1)).length = n + 1 := by simp; omega
  refine wp_region_noPanic (wp_region_any hm ?_)
  have hT := wpAnyP_lex (C := C) (md := .any) (P := P) (n := n) (LN := LN) (fun j hj => h4 j (by omega)) h2 h1 (l.take (n + 1)) 0 (Array.replicate l.toArray.size false) a
    (by
      intro j oj _ hl
      rw [Array.getD_eq_getD_getElem?, Array.getElem?_replicate] at hl
      split at hl <;> simp at hl)
    (by
      intro j hj
      rw [hlen] at hj
      simp [hj])
    (by rw [hlen]; exact h3) h
  rw [hlen] at hT
  have := wpAny_of_P (Q' := NoPanic Q) (C := C) (md := .any) (P := P) (ops := l.toArray) (n := n) (LN := LN) (t := t) (fun a' w' hw' hq => hq w' hw') (n + 1) (Array.replicate l.toArray.size false) a { w with drawn := w.drawn + 1 } hC hT
  rwa [← hz] at this
end
end Go.Proofs.YthkaohkondkhgaaDoor
