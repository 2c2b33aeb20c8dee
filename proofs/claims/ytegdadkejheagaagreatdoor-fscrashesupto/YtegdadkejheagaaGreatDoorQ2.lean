/-
  A law: a region that draws its order, whose operations only read but for the last one, which waits for all others: one walk of the order of the text serves every order.
-/
import Derived.BigQuiet
import Derived.Deep.DrawnRows
import Derived.Deep.RegionHeld3
namespace Go.Proofs.YtegdadkejheagaaGreatDoor
open Go

section
variable {P : Program} {ops : Array Oper} {md : Region.Mode} {C : World → Prop} {n : Nat}

/-- What has come up is closed under what it waits for. -/
def Shut (md : Region.Mode) (ops : Array Oper) (listed : Array Bool) : Prop :=
  ∀ (j : Nat) (oj : Oper), ops[j]? = some oj → listed.getD j false = true → ∀ e ∈ oj.after, Region.binds md e = true → listed.getD e.on false = true

/-- Every operation but the last is waited for, by a later one. -/
def coverB (md : Region.Mode) (ops : Array Oper) (n : Nat) : Bool :=
  (ops.size == n + 1) && (List.range n).all fun i => (List.range (n + 1)).any fun j => decide (i < j) && match ops[j]? with
    | some oj => oj.after.any fun e => Region.binds md e && (e.on == i)
    | none => false

def preB (md : Region.Mode) (ops : Array Oper) (n : Nat) : Nat → Nat → Array Bool → Bool
  | 0, _, listed => (Region.ready md ops listed == [n]) && (Region.ready md ops (listed.setIfInBounds n true)).isEmpty
  | fuel + 1, k, listed => (Region.ready md ops listed).contains k && Region.free md ops listed k && (k != n) && preB md ops n fuel (k + 1) (listed.setIfInBounds k true)

theorem cover_all (hc : coverB md ops n = true) {listed : Array Bool} (hs : Shut md ops listed) (hr : n ∈ Region.ready md ops listed) : ∀ (d i : Nat), i + d = n → 0 < d → listed.getD i false = true := by
  intro d
  induction d using Nat.strongRecOn with
  | ind d ih =>
    intro i hi hd
    simp only [coverB, Bool.and_eq_true, List.all_eq_true, List.mem_range, List.any_eq_true, decide_eq_true_eq] at hc
    obtain ⟨j, hj, hlt, hm⟩ := hc.2 i (by omega)
    cases hoj : ops[j]? with
    | none => rw [hoj] at hm; cases hm
    | some oj =>
      rw [hoj] at hm
      simp only [Array.any_eq_true', Bool.and_eq_true, beq_iff_eq] at hm
      obtain ⟨e, he, hb, hon⟩ := hm
      by_cases hjn : j = n
      · subst hjn
        obtain ⟨_, o', ho', hall⟩ := mem_ready.1 hr
        rw [hoj] at ho'
        cases ho'
        have := hall e he hb
        rwa [hon] at this
      · have hl := ih (n - j) (by omega) j (by omega) (by omega)
        have := hs j oj hoj hl e he hb
        rwa [hon] at this

theorem Shut.step {listed : Array Bool} (hs : Shut md ops listed) {i : Nat} (hr : i ∈ Region.ready md ops listed) : Shut md ops (listed.setIfInBounds i true) := by
  intro j oj hoj hl e he hb
  refine getD_set_true ?_
  by_cases hij : i = j
  · subst hij
    obtain ⟨_, o', ho', hall⟩ := mem_ready.1 hr
    rw [hoj] at ho'
    cases ho'
    exact hall e he hb
  · rw [getD_set_ne false hij] at hl
    exact hs j oj hoj hl e he hb

theorem last_waits (hc : coverB md ops n = true) {listed : Array Bool} (hs : Shut md ops listed) {i : Nat} (hi : i ∈ Region.ready md ops listed) (hne : i ≠ n) : n ∉ Region.ready md ops listed := by
  intro hn
  obtain ⟨h0, o, ho, _⟩ := mem_ready.1 hi
  have hlt : i < ops.size := (Array.getElem?_eq_some_iff.1 ho).1
  have hz : ops.size = n + 1 := by
    simp only [coverB, Bool.and_eq_true, beq_iff_eq] at hc
    exact hc.1
  have h1 := cover_all hc hs hn (n - i) i (by omega) (by omega)
  rcases Nat.lt_or_ge i listed.size with h' | h'
  · simp [h'] at h0 h1; rw [h0] at h1; cases h1
  · simp [Array.getElem?_eq_none h'] at h1

/-- Whatever order is picked, up to the last operation. -/
def wpAnyT (P : Program) (md : Region.Mode) (ops : Array Oper) (C : World → Prop) (n : Nat) (Q : Act → Prop) : Nat → Array Bool → Act → Prop
  | 0, listed, a => Region.ready md ops listed = [n] ∧ Region.ready md ops (listed.setIfInBounds n true) = [] ∧ Q a
  | fuel + 1, listed, a =>
    Region.ready md ops listed ≠ [] ∧ ∀ i ∈ Region.ready md ops listed, i ≠ n ∧ qOp P ops C i (wpAnyT P md ops C n Q fuel (listed.setIfInBounds i true)) a

theorem wpAny_of_T {Q : Act → Prop} {Q' : Exit → Act → World → Prop} (hQ : ∀ a w, C w → Q a → wpOp P ops Q' n (fun a' w' => Q' .normal a' w') a w) : ∀ (fuel : Nat) (listed : Array Bool) (a : Act) (w : World), C w →
    wpAnyT P md ops C n Q fuel listed a → wpAny P md ops Q' (fuel + 1) listed a w
  | 0, listed, a, w, hw, h => by
    obtain ⟨h1, h2, h3⟩ := h
    refine ⟨fun h0 => (by rw [h1] at h0; cases h0), fun i hi => ?_⟩
    rw [h1] at hi
    obtain rfl : i = n := by simpa using hi
    refine wpOp_mono (fun a' w' hq => ?_) (hQ a w hw h3)
    exact ⟨h2, hq⟩
  | fuel + 1, listed, a, w, hw, h => ⟨fun h0 => absurd h0 h.1, fun i hi => wpOp_of_qOp hw (fun a' w' hw' => wpAny_of_T hQ fuel _ a' w' hw') (h.2 i hi).2⟩

theorem wpAnyT_first {Q : Act → Prop} {i : Nat} {oi : Oper} {v : Value} (hc : coverB md ops n = true) (hin : i ≠ n) (hi : ops[i]? = some oi) (hsel : ∀ (j : Nat) (o : Oper) cs b, ops[j]? = some o → o.op ≠ .select cs b) :
    ∀ (fuel : Nat) (listed : Array Bool) (a : Act), Shut md ops listed →
      (∀ j oj, ops[j]? = some oj → j ≠ i → listed.getD j true = false → (∀ e ∈ oj.after, Region.binds md e = true → e.on ≠ i) → oi.apart ops oj = true) →
      i ∈ Region.ready md ops listed → YieldsIn P ops C oi v a →
      wpAnyT P md ops C n Q fuel (listed.setIfInBounds i true) (a.put oi.dst v) → wpAnyT P md ops C n Q (fuel + 1) listed a := by
  intro fuel
  induction fuel with
  | zero =>
    intro listed a hs _ hr hy H
    refine ⟨fun h => (by rw [h] at hr; cases hr), fun j hj => ?_⟩
    have hjn : j ≠ n := fun h => last_waits hc hs hr hin (h ▸ hj)
    refine ⟨hjn, ?_⟩
    by_cases hji : j = i
    · subst hji; exact hy.qOp hi H
    · have := ready_mono hj hji
      rw [H.1] at this
      exact absurd (by simpa using this) hjn
  | succ fuel ih =>
    intro listed a hs hfree hr hy H
    refine ⟨fun h => (by rw [h] at hr; cases hr), fun j hj => ?_⟩
    have hjn : j ≠ n := fun h => last_waits hc hs hr hin (h ▸ hj)
    refine ⟨hjn, ?_⟩
    by_cases hji : j = i
    · subst hji; exact hy.qOp hi H
    · have h1 := (H.2 j (ready_mono hj hji)).2
      obtain ⟨hjun, oj, hoj, hall⟩ := mem_ready.1 hj
      have hnot : ∀ e ∈ oj.after, Region.binds md e = true → e.on ≠ i := fun e he hb heq => by
        have h1 := hall e he hb
        have h0 := (mem_ready.1 hr).1
        rw [heq] at h1
        rcases Nat.lt_or_ge i listed.size with h' | h'
        · simp [h'] at h0 h1; rw [h0] at h1; cases h1
        · simp [Array.getElem?_eq_none h'] at h1
      have h2 := qOp_put hoj (hfree j oj hoj hji hjun hnot) (fun cs b => hsel i oi cs b hi) (fun cs b => hsel j oj cs b hoj) hy h1
      have hfree' : ∀ k ok, ops[k]? = some ok → k ≠ i → (listed.setIfInBounds j true).getD k true = false →
          (∀ e ∈ ok.after, Region.binds md e = true → e.on ≠ i) → oi.apart ops ok = true := fun k ok hk hki hun hno => by
        refine hfree k ok hk hki ?_ hno
        by_cases hjk : j = k
        · subst hjk; exact hjun
        · rw [getD_set_ne true hjk] at hun; exact hun
      refine qOp_mono (fun a' h3 => ih (listed.setIfInBounds j true) a' (hs.step hj) hfree' (ready_mono hr (Ne.symm hji)) h3.1 ?_) h2
      rw [Array.setIfInBounds_comm _ _ hji]
      exact h3.2

theorem wpAnyT_lex {Q : Act → Prop} (hc : coverB md ops n = true) (hsl : Region.noSelect ops = true) : ∀ (l : List Oper) (k : Nat) (listed : Array Bool) (a : Act), Shut md ops listed → (∀ j, j < l.length → l[j]? = ops[k + j]?) →
    preB md ops n l.length k listed = true → wpQuiet P ops C Q l a → wpAnyT P md ops C n Q l.length listed a
  | [], _, _, _, _, _, hB, h => by
    simp only [List.length_nil, preB, Bool.and_eq_true, beq_iff_eq, List.isEmpty_iff] at hB
    exact ⟨hB.1, hB.2, h⟩
  | o :: l, k, listed, a, hs, hl, hB, h => by
    have h0 : ops[k]? = some o := by simpa using (hl 0 (by simp)).symm
    simp only [List.length_cons, preB, Bool.and_eq_true, bne_iff_ne] at hB
    obtain ⟨⟨⟨hr, hf⟩, hne⟩, hB'⟩ := hB
    have hst : qOp P ops C k (wpQuiet P ops C Q l) a := by unfold qOp; simp only [h0]; exact h
    obtain ⟨v, hy, hK⟩ := yieldsIn_of_qOp h0 hst
    have hr' : k ∈ Region.ready md ops listed := by simpa using hr
    exact wpAnyT_first hc hne h0 (Region.noSelect_spec hsl) l.length listed a hs (Region.free_spec h0 hf) hr' hy
      (wpAnyT_lex hc hsl l (k + 1) _ _ (hs.step hr') (fun j hj => by have := hl (j + 1) (by simpa using hj); simpa [Nat.add_assoc, Nat.add_comm 1 j] using this) hB' hK)

/-- Is the region such: its last operation waits for all others, and the order of the text is one of its orders? -/
def lastB (ops : Array Oper) (n : Nat) : Bool := Region.noSelect ops && coverB .any ops n && preB .any ops n n 0 (Array.replicate ops.size false)

/-- **The law.** l: the operations but the last, o. -/
theorem wp_region_last {id : Nat} {Q : Exit → Act → World → Prop} {a : Act} {w : World} {l : List Oper} (o : Oper) (n : Nat) (hm : P.follows .mixedOrders = true) (hB : lastB l.toArray n = true) (ho : l[n]? = some o) (hg : o.guard = none)
    (h : wpQuiet P l.toArray (fun w' => ∃ m, w' = w.drewN m) (fun a' => ∀ m, Oper.wp P o a' (w.drewN m) (fun a'' w'' => Q .normal a'' w'') Q) (l.take n) a) : (Code.region id l.toArray true).wp P Q a w := by
  simp only [lastB, Bool.and_eq_true] at hB
  obtain ⟨⟨h1, h2⟩, h3⟩ := hB
  have hz : l.length = n + 1 := by
    simp only [coverB, Bool.and_eq_true, beq_iff_eq] at h2
    simpa using h2.1
  have hlen : (l.take n).length = n := by simp; omega
  refine wp_region_any hm ?_
  have hT := wpAnyT_lex (C := fun w' => ∃ m, w' = w.drewN m) (md := .any) (P := P) h2 h1 (l.take n) 0 (Array.replicate l.toArray.size false) a
    (by
      intro j oj _ hl
      rw [Array.getD_eq_getD_getElem?, Array.getElem?_replicate] at hl
      split at hl <;> simp at hl)
    (by
      intro j hj
      rw [hlen] at hj
      simp [hj])
    (by rw [hlen]; exact h3) h
  rw [hlen] at hT
  have := wpAny_of_T (Q' := Q) (C := fun w' => ∃ m, w' = w.drewN m) (md := .any) (P := P) (ops := l.toArray) (n := n) (fun a' w' hw' hq => by
    obtain ⟨m, rfl⟩ := hw'
    unfold wpOp
    simp only [List.getElem?_toArray, ho]
    rw [if_pos (by simp [Region.wanted, hg])]
    exact .inl (hq m)) n (Array.replicate l.toArray.size false) a { w with drawn := w.drawn + 1 } ⟨1, rfl⟩ hT
  simpa [hz] using this
end

open Go

section
variable {P : Program} {ops : Array Oper} {md : Region.Mode} {C : World → Prop} {p n : Nat}

/-- Every operation from p on, ahead of n, is waited for by a later one, up to n; from n on each waits for the one ahead of it. -/
def coverT (md : Region.Mode) (ops : Array Oper) (p n : Nat) : Bool :=
  ((List.range n).all fun i => decide (i < p) || (List.range (n + 1)).any fun j => decide (i < j) && match ops[j]? with
    | some oj => oj.after.any fun e => Region.binds md e && (e.on == i)
    | none => false) &&
  (List.range ops.size).all fun j => decide (j ≤ n) || match ops[j]? with
    | some oj => oj.after.any fun e => Region.binds md e && (e.on + 1 == j)
    | none => false

/-- All that operation j waits for has come up. -/
def Due (md : Region.Mode) (ops : Array Oper) (listed : Array Bool) (j : Nat) : Prop := ∀ (oj : Oper), ops[j]? = some oj → ∀ e ∈ oj.after, Region.binds md e = true → listed.getD e.on false = true

theorem due_of_ready {listed : Array Bool} {j : Nat} (h : j ∈ Region.ready md ops listed) : Due md ops listed j := by
  intro oj hoj e he hb
  obtain ⟨_, o', ho', hall⟩ := mem_ready.1 h
  rw [hoj] at ho'
  cases ho'
  exact hall e he hb

theorem coverT_all (hc : coverT md ops p n = true) {listed : Array Bool} (hs : Shut md ops listed) (hr : Due md ops listed n) : ∀ (d i : Nat), i + d = n → 0 < d → p ≤ i → listed.getD i false = true := by
  intro d
  induction d using Nat.strongRecOn with
  | ind d ih =>
    intro i hi hd hpi
    simp only [coverT, Bool.and_eq_true, List.all_eq_true, List.mem_range] at hc
    have hci := hc.1 i (by omega)
    simp only [Bool.or_eq_true, decide_eq_true_eq, List.any_eq_true, Bool.and_eq_true, List.mem_range] at hci
    obtain ⟨j, hj, hlt, hm⟩ := hci.resolve_left (by omega)
    cases hoj : ops[j]? with
    | none => rw [hoj] at hm; cases hm
    | some oj =>
      rw [hoj] at hm
      simp only [Array.any_eq_true', Bool.and_eq_true, beq_iff_eq] at hm
      obtain ⟨e, he, hb, hon⟩ := hm
      by_cases hjn : j = n
      · subst hjn
        have := hr oj hoj e he hb
        rwa [hon] at this
      · have hl := ih (n - j) (by omega) j (by omega) (by omega) (by omega)
        have := hs j oj hoj hl e he hb
        rwa [hon] at this

theorem coverT_down (hc : coverT md ops p n = true) {listed : Array Bool} (hs : Shut md ops listed) : ∀ (d j : Nat), j = n + d → j < ops.size → Due md ops listed j → Due md ops listed n
  | 0, j, hj, _, h => by
    have : j = n := by omega
    subst this
    exact h
  | d + 1, j, hj, hlt, h => by
    have hc' := hc
    simp only [coverT, Bool.and_eq_true, List.all_eq_true, List.mem_range] at hc'
    have hm := hc'.2 j hlt
    rw [Bool.or_eq_true] at hm
    rcases hm with hm | hm
    · simp at hm
      omega
    · cases hoj : ops[j]? with
      | none => rw [hoj] at hm; cases hm
      | some oj =>
        rw [hoj] at hm
        simp only [Array.any_eq_true', Bool.and_eq_true, beq_iff_eq] at hm
        obtain ⟨e, he, hb, hon⟩ := hm
        have hl := h oj hoj e he hb
        refine coverT_down hc hs d e.on (by omega) (by omega) ?_
        intro o' ho' e' he' hb'
        exact hs e.on o' ho' hl e' he' hb'

theorem tail_waits (hc : coverT md ops p n = true) {listed : Array Bool} (hs : Shut md ops listed) {i : Nat} (hi : i ∈ Region.ready md ops listed) (hpi : p ≤ i) (hne : i < n) (j : Nat) (hj : j ∈ Region.ready md ops listed) : j < n := by
  rcases Nat.lt_or_ge j n with h | h
  · exact h
  · exfalso
    obtain ⟨_, oj, hoj, _⟩ := mem_ready.1 hj
    have hlt : j < ops.size := (Array.getElem?_eq_some_iff.1 hoj).1
    have hd := coverT_down hc hs (j - n) j (by omega) hlt (due_of_ready hj)
    have h1 := coverT_all hc hs hd (n - i) i (by omega) (by omega) hpi
    have h0 := (mem_ready.1 hi).1
    rcases Nat.lt_or_ge i listed.size with h' | h'
    · simp [h'] at h0 h1; rw [h0] at h1; cases h1
    · simp [Array.getElem?_eq_none h'] at h1

def tailB (md : Region.Mode) (ops : Array Oper) : Nat → Nat → Array Bool → Bool
  | 0, _, listed => (Region.ready md ops listed).isEmpty
  | fuel + 1, k, listed => (Region.ready md ops listed == [k]) && tailB md ops fuel (k + 1) (listed.setIfInBounds k true)

/-- The last operations, one behind the other. -/
def wpTail (P : Program) (Q : Exit → Act → World → Prop) : List Oper → Act → World → Prop
  | [], a, w => Q .normal a w
  | o :: rest, a, w => Oper.wp P o a w (fun a' w' => wpTail P Q rest a' w') Q

theorem wpAny_tail {Q : Exit → Act → World → Prop} : ∀ (l : List Oper) (k : Nat) (listed : Array Bool) (a : Act) (w : World), (∀ j, j < l.length → l[j]? = ops[k + j]?) → (∀ o ∈ l, o.guard = none) →
    tailB md ops l.length k listed = true → wpTail P Q l a w → wpAny P md ops Q l.length listed a w
  | [], _, _, _, _, _, _, hB, h => by
    simp only [List.length_nil, tailB, List.isEmpty_iff] at hB
    exact ⟨hB, h⟩
  | o :: l, k, listed, a, w, hl, hg, hB, h => by
    simp only [List.length_cons, tailB, Bool.and_eq_true, beq_iff_eq] at hB
    obtain ⟨h1, h2⟩ := hB
    have h0 : ops[k]? = some o := by simpa using (hl 0 (by simp)).symm
    refine ⟨fun e => (by rw [h1] at e; cases e), fun i hi => ?_⟩
    rw [h1] at hi
    obtain rfl : i = k := by simpa using hi
    have hop : wpOp P ops Q i (fun a' w' => wpTail P Q l a' w') a w := by
      unfold wpOp
      simp only [h0]
      rw [if_pos (by simp [Region.wanted, hg o (by simp)])]
      exact .inl h
    refine wpOp_mono (fun a' w' hq => ?_) hop
    exact wpAny_tail l (i + 1) _ a' w' (fun j hj => by have := hl (j + 1) (by simpa using hj); simpa [Nat.add_assoc, Nat.add_comm 1 j] using this) (fun o' ho' => hg o' (by simp [ho'])) h2 hq

/-- Whatever order is picked, up to the last operations. -/
def wpAnyL (P : Program) (md : Region.Mode) (ops : Array Oper) (C : World → Prop) (n t : Nat) (Q : Act → Prop) : Nat → Array Bool → Act → Prop
  | 0, listed, a => tailB md ops (t + 1) n listed = true ∧ Q a
  | fuel + 1, listed, a =>
    Region.ready md ops listed ≠ [] ∧ ∀ i ∈ Region.ready md ops listed, i < n ∧ qOp P ops C i (wpAnyL P md ops C n t Q fuel (listed.setIfInBounds i true)) a

theorem wpAny_of_L {t : Nat} {Q : Act → Prop} {Q' : Exit → Act → World → Prop} (hQ : ∀ (listed : Array Bool) a w, C w → tailB md ops (t + 1) n listed = true → Q a → wpAny P md ops Q' (t + 1) listed a w) : ∀ (fuel : Nat) (listed : Array Bool) (a : Act) (w : World), C w →
    wpAnyL P md ops C n t Q fuel listed a → wpAny P md ops Q' (fuel + (t + 1)) listed a w
  | 0, listed, a, w, hw, h => by
    rw [Nat.zero_add]
    exact hQ listed a w hw h.1 h.2
  | fuel + 1, listed, a, w, hw, h => by
    rw [show fuel + 1 + (t + 1) = (fuel + (t + 1)) + 1 from by omega]
    exact ⟨fun h0 => absurd h0 h.1, fun i hi => wpOp_of_qOp hw (fun a' w' hw' => wpAny_of_L hQ fuel _ a' w' hw') (h.2 i hi).2⟩

theorem wpAnyL_first {t : Nat} {Q : Act → Prop} {i : Nat} {oi : Oper} {v : Value} (hc : coverT md ops p n = true) (hpi : p ≤ i) (hin : i < n) (hi : ops[i]? = some oi) (hsel : ∀ (j : Nat) (o : Oper) cs b, ops[j]? = some o → o.op ≠ .select cs b) :
    ∀ (fuel : Nat) (listed : Array Bool) (a : Act), Shut md ops listed →
      (∀ j oj, ops[j]? = some oj → j ≠ i → listed.getD j true = false → (∀ e ∈ oj.after, Region.binds md e = true → e.on ≠ i) → oi.apart ops oj = true) →
      i ∈ Region.ready md ops listed → YieldsIn P ops C oi v a →
      wpAnyL P md ops C n t Q fuel (listed.setIfInBounds i true) (a.put oi.dst v) → wpAnyL P md ops C n t Q (fuel + 1) listed a := by
  intro fuel
  induction fuel with
  | zero =>
    intro listed a hs _ hr hy H
    refine ⟨fun h => (by rw [h] at hr; cases hr), fun j hj => ?_⟩
    have hjn : j < n := tail_waits hc hs hr hpi hin j hj
    refine ⟨hjn, ?_⟩
    by_cases hji : j = i
    · subst hji; exact hy.qOp hi H
    · have := ready_mono hj hji
      have h1 := H.1
      simp only [tailB, Bool.and_eq_true, beq_iff_eq] at h1
      rw [h1.1] at this
      exact absurd (by simpa using this) (show j ≠ n by omega)
  | succ fuel ih =>
    intro listed a hs hfree hr hy H
    refine ⟨fun h => (by rw [h] at hr; cases hr), fun j hj => ?_⟩
    have hjn : j < n := tail_waits hc hs hr hpi hin j hj
    refine ⟨hjn, ?_⟩
    by_cases hji : j = i
    · subst hji; exact hy.qOp hi H
    · have h1 := (H.2 j (ready_mono hj hji)).2
      obtain ⟨hjun, oj, hoj, hall⟩ := mem_ready.1 hj
      have hnot : ∀ e ∈ oj.after, Region.binds md e = true → e.on ≠ i := fun e he hb heq => by
        have h1 := hall e he hb
        have h0 := (mem_ready.1 hr).1
        rw [heq] at h1
        rcases Nat.lt_or_ge i listed.size with h' | h'
        · simp [h'] at h0 h1; rw [h0] at h1; cases h1
        · simp [Array.getElem?_eq_none h'] at h1
      have h2 := qOp_put hoj (hfree j oj hoj hji hjun hnot) (fun cs b => hsel i oi cs b hi) (fun cs b => hsel j oj cs b hoj) hy h1
      have hfree' : ∀ k ok, ops[k]? = some ok → k ≠ i → (listed.setIfInBounds j true).getD k true = false →
          (∀ e ∈ ok.after, Region.binds md e = true → e.on ≠ i) → oi.apart ops ok = true := fun k ok hk hki hun hno => by
        refine hfree k ok hk hki ?_ hno
        by_cases hjk : j = k
        · subst hjk; exact hjun
        · rw [getD_set_ne true hjk] at hun; exact hun
      refine qOp_mono (fun a' h3 => ih (listed.setIfInBounds j true) a' (hs.step hj) hfree' (ready_mono hr (Ne.symm hji)) h3.1 ?_) h2
      rw [Array.setIfInBounds_comm _ _ hji]
      exact h3.2

def preT (md : Region.Mode) (ops : Array Oper) (p n t : Nat) : Nat → Nat → Array Bool → Bool
  | 0, _, listed => tailB md ops (t + 1) n listed
  | fuel + 1, k, listed => (Region.ready md ops listed).contains k && Region.free md ops listed k && decide (k < n) && decide (p ≤ k) && preT md ops p n t fuel (k + 1) (listed.setIfInBounds k true)

theorem wpAnyL_lex {t : Nat} {Q : Act → Prop} (hc : coverT md ops p n = true) (hsl : Region.noSelect ops = true) : ∀ (l : List Oper) (k : Nat) (listed : Array Bool) (a : Act), Shut md ops listed → (∀ j, j < l.length → l[j]? = ops[k + j]?) →
    preT md ops p n t l.length k listed = true → wpQuiet P ops C Q l a → wpAnyL P md ops C n t Q l.length listed a
  | [], _, _, _, _, _, hB, h => ⟨hB, h⟩
  | o :: l, k, listed, a, hs, hl, hB, h => by
    have h0 : ops[k]? = some o := by simpa using (hl 0 (by simp)).symm
    simp only [List.length_cons, preT, Bool.and_eq_true, decide_eq_true_eq] at hB
    obtain ⟨⟨⟨⟨hr, hf⟩, hne⟩, hpk⟩, hB'⟩ := hB
    have hst : qOp P ops C k (wpQuiet P ops C Q l) a := by unfold qOp; simp only [h0]; exact h
    obtain ⟨v, hy, hK⟩ := yieldsIn_of_qOp h0 hst
    have hr' : k ∈ Region.ready md ops listed := by simpa using hr
    exact wpAnyL_first hc hpk hne h0 (Region.noSelect_spec hsl) l.length listed a hs (Region.free_spec h0 hf) hr' hy
      (wpAnyL_lex hc hsl l (k + 1) _ _ (hs.step hr') (fun j hj => by have := hl (j + 1) (by simpa using hj); simpa [Nat.add_assoc, Nat.add_comm 1 j] using this) hB' hK)

/-- Is it a plain move? -/
def moveB (o : Oper) : Bool := o.guard.isNone && match o.op with
  | .move _ => true
  | _ => false
def moved (a : Act) (o : Oper) : Act := match o.op with
  | .move x => a.put o.dst (a.eval x)
  | _ => a
def preM (md : Region.Mode) (ops : Array Oper) (p n t : Nat) : Nat → Nat → Array Bool → Bool
  | 0, _, listed => preT md ops p n t (n - p) p listed
  | fuel + 1, k, listed => (Region.ready md ops listed).contains k && Region.free md ops listed k && (match ops[k]? with
      | some o => moveB o
      | none => false) && preM md ops p n t fuel (k + 1) (listed.setIfInBounds k true)

theorem wpAny_moves {t : Nat} {Q : Exit → Act → World → Prop} (hsl : Region.noSelect ops = true) (hQ : ∀ c a d v w, Q (.panic c) (Act.put a d v) w → Q (.panic c) a w) : ∀ (l : List Oper) (k : Nat) (listed : Array Bool) (a : Act) (w : World) (f : Nat), Shut md ops listed → (∀ j, j < l.length → l[j]? = ops[k + j]?) →
    preM md ops p n t l.length k listed = true → (∀ listed', Shut md ops listed' → preT md ops p n t (n - p) p listed' = true → wpAny P md ops Q f listed' (l.foldl moved a) w) → wpAny P md ops Q (f + l.length) listed a w
  | [], _, listed, _, _, _, hs, _, hB, h => h listed hs hB
  | o :: l, k, listed, a, w, f, hs, hl, hB, h => by
    have h0 : ops[k]? = some o := by simpa using (hl 0 (by simp)).symm
    simp only [List.length_cons, preM, Bool.and_eq_true, h0] at hB
    obtain ⟨⟨⟨hr, hf⟩, hm⟩, hB'⟩ := hB
    have hr' : k ∈ Region.ready md ops listed := by simpa using hr
    simp only [moveB, Bool.and_eq_true] at hm
    obtain ⟨hg, hx⟩ := hm
    cases ho : o.op with
    | move x =>
      have hy : Yields P ops o (a.eval x) a := .inl ⟨by
        have : o.guard = none := by simpa using hg
        simp [Region.wanted, this], fun w => BigFrame.run_move x ho w⟩
      have hmv : moved a o = a.put o.dst (a.eval x) := by simp [moved, ho]
      refine wpAny_first h0 (Region.noSelect_spec hsl) (fun c a w hq => hQ c a _ _ w hq) (f + l.length) listed a w (Region.free_spec h0 hf) hr' hy ?_
      refine wpAny_moves hsl hQ l (k + 1) _ _ w f (hs.step hr') (fun j hj => by have := hl (j + 1) (by simpa using hj); simpa [Nat.add_assoc, Nat.add_comm 1 j] using this) hB' (fun listed' hs' hp' => ?_)
      have := h listed' hs' hp'
      rwa [List.foldl_cons, hmv] at this
    | _ => rw [ho] at hx; cases hx

/-- Is the region such: p plain moves; from operation n on each waits for the one ahead of it and for all others but the moves; and the order of the text is one of its orders? -/
def lastsB (ops : Array Oper) (p n t : Nat) : Bool := (ops.size == n + (t + 1)) && decide (p ≤ n) && Region.noSelect ops && coverT .any ops p n && ((ops.toList.drop n).all fun o => o.guard.isNone) && preM .any ops p n t p 0 (Array.replicate ops.size false)

/-- **The law.** p: how many plain moves stand first; n: how many operations, with them, only read; t + 1 more follow. -/
theorem wp_region_tail {id : Nat} {Q : Exit → Act → World → Prop} {a : Act} {w : World} {l : List Oper} (p n t : Nat) (hm : P.follows .mixedOrders = true) (hB : lastsB l.toArray p n t = true)
    (h : wpQuiet P l.toArray (fun w' => ∃ m, w' = w.drewN m) (fun a' => ∀ m, wpTail P (NoPanic Q) (l.drop n) a' (w.drewN m)) ((l.take n).drop p) ((l.take p).foldl moved a)) : (Code.region id l.toArray true).wp P Q a w := by
  simp only [lastsB, Bool.and_eq_true, beq_iff_eq, decide_eq_true_eq] at hB
  obtain ⟨⟨⟨⟨⟨hz, hpn⟩, h1⟩, h2⟩, hg⟩, h3⟩ := hB
  have hz' : l.length = n + (t + 1) := by simpa using hz
  have hlen : ((l.take n).drop p).length = n - p := by simp; omega
  have hlenp : (l.take p).length = p := by simp; omega
  have hlen2 : (l.drop n).length = t + 1 := by simp; omega
  refine wp_region_noPanic ?_
  refine wp_region_any hm ?_
  have h4 := wpAny_moves (P := P) (md := .any) (ops := l.toArray) (p := p) (n := n) (t := t) (Q := NoPanic Q) h1 (fun _ _ _ _ _ h => h) (l.take p) 0 (Array.replicate l.toArray.size false) a { w with drawn := w.drawn + 1 } (n - p + (t + 1))
    (by
      intro j oj _ hl
      rw [Array.getD_eq_getD_getElem?, Array.getElem?_replicate] at hl
      split at hl <;> simp at hl)
    (by
      intro j hj
      rw [hlenp] at hj
      simp [hj])
    (by rw [hlenp]; exact h3)
    (fun listed' hs' hp' => by
      have hT := wpAnyL_lex (C := fun w' => ∃ m, w' = w.drewN m) (md := .any) (P := P) (t := t) h2 h1 ((l.take n).drop p) p listed' ((l.take p).foldl moved a) hs'
        (by
          intro j hj
          rw [hlen] at hj
          have e : p + j < n := by omega
          simp [e])
        (by rw [hlen]; exact hp') h
      rw [hlen] at hT
      exact wpAny_of_L (Q' := NoPanic Q) (C := fun w' => ∃ m, w' = w.drewN m) (md := .any) (P := P) (ops := l.toArray) (n := n) (t := t) (fun listed a' w' hw' hb hq => by
        obtain ⟨m, rfl⟩ := hw'
        have := wpAny_tail (md := .any) (P := P) (ops := l.toArray) (Q := NoPanic Q) (l.drop n) n listed a' (w.drewN m) (fun j _ => by simp) (fun o ho => by
          have := List.all_eq_true.1 hg o (by simpa using ho)
          simpa using this) (by rw [hlen2]; exact hb) (hq m)
        rwa [hlen2] at this) (n - p) listed' ((l.take p).foldl moved a) { w with drawn := w.drawn + 1 } ⟨1, rfl⟩ hT)
  rw [hlenp] at h4
  have e : n - p + (t + 1) + p = l.toArray.size := by
    rw [hz]
    omega
  rwa [e] at h4

theorem wpTail_nil {Q : Exit → Act → World → Prop} {a : Act} {w : World} (h : Q .normal a w) : wpTail P Q [] a w := h
theorem wpTail_cons {Q : Exit → Act → World → Prop} {o : Oper} {rest : List Oper} {a : Act} {w : World} (h : Oper.wp P o a w (fun a' w' => wpTail P Q rest a' w') Q) : wpTail P Q (o :: rest) a w := h
/-- One operation, what follows behind a letter. -/
theorem wpTail_step {Q : Exit → Act → World → Prop} {o : Oper} {rest : List Oper} {a : Act} {w : World} (h : ∀ K : Act → World → Prop, (∀ a' w', wpTail P Q rest a' w' → K a' w') → Oper.wp P o a w K Q) : wpTail P Q (o :: rest) a w := h _ (fun _ _ h => h)
end
end Go.Proofs.YtegdadkejheagaaGreatDoor
