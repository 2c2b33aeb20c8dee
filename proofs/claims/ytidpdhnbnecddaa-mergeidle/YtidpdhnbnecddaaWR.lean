/-
  Walks: Apply at hunks that are in form.
-/
import Derived.Test.YtidpdhnbnecddaaVI
namespace Go.Proofs.Ytidpdhnbnecddaa
open Go.RowKit

/-- What Apply makes, from a line of the first list on. -/
def apP (a b : List ByteArray) : Nat → List (Pt × Pt) → List ByteArray
  | nx, [] => a.drop nx
  | nx, h :: r => (a.drop nx).take (h.1.1 - nx) ++ ((b.drop h.1.2).take (h.2.2 - h.1.2) ++ apP a b h.2.1 r)
theorem rd_sub {W : World} {pa : Option Addr} {pc : Nat} {L : List ByteArray} (h : RdS W (.slice pa L.length pc) L) {lo hi : Nat} (h1 : lo ≤ hi) (h2 : hi ≤ L.length) :
    (pc - lo = 0 → RdS W (.slice pa (hi - lo) 0) ((L.drop lo).take (hi - lo))) ∧ (¬ pc - lo = 0 → RdS W (.slice (Option.map (fun x => x.add lo) pa) (hi - lo) (pc - lo)) ((L.drop lo).take (hi - lo))) := by
  obtain ⟨p', c', he, hle, hr⟩ := h
  rw [List.length_map] at he hle hr
  injection he with e1 e2 e3
  subst e1 e3
  have hlen : (((L.drop lo).take (hi - lo)).map Value.string).length = hi - lo := by rw [List.length_map, List.length_take, List.length_drop]; omega
  refine ⟨fun hz => ⟨pa, 0, by rw [hlen], by rw [hlen]; omega, fun h0 => ?_⟩, fun hz => ⟨_, pc - lo, by rw [hlen], by rw [hlen]; omega, fun h0 => ?_⟩⟩
  · rw [hlen] at h0; omega
  · rw [hlen] at h0
    obtain ⟨b, off, rfl, hlt, hrow⟩ := hr (by omega)
    refine ⟨b, off + lo, by rw [Option.map_some, add_plain], hlt, fun j u hu => ?_⟩
    rw [Nat.add_assoc]
    refine hrow (lo + j) u ?_
    rw [List.getElem?_map] at hu ⊢
    rw [List.getElem?_take] at hu
    split at hu
    · rw [List.getElem?_drop] at hu
      exact hu
    · cases hu
def Cnd (a b : List ByteArray) (acc : List (Pt × Pt)) (l : Pt) (h : Pt × Pt) : Prop :=
  l.1 ≤ h.1.1 ∧ l.2 ≤ h.1.2 ∧ h.1.1 - l.1 = h.1.2 - l.2 ∧ (acc ≠ [] → 1 ≤ h.1.1 - l.1) ∧ h.1.1 ≤ h.2.1 ∧ h.1.2 ≤ h.2.2 ∧ h.1 ≠ h.2 ∧ h.2.1 ≤ a.length ∧ h.2.2 ≤ b.length
/-- Hunks one behind the other, where the last one ends, and what they make. -/
inductive Ch (a b : List ByteArray) : List (Pt × Pt) → Pt → List ByteArray → Prop
  | nil : Ch a b [] (0, 0) []
  | snoc {acc : List (Pt × Pt)} {l : Pt} {M : List ByteArray} {h : Pt × Pt} (c : Ch a b acc l M) (hc : Cnd a b acc l h) : Ch a b (acc ++ [h]) h.2 (M ++ (a.drop l.1).take (h.1.1 - l.1) ++ (b.drop h.1.2).take (h.2.2 - h.1.2))
theorem Ch.inv {a b : List ByteArray} {acc : List (Pt × Pt)} {h : Pt × Pt} {l : Pt} {M : List ByteArray} (c : Ch a b (acc ++ [h]) l M) : ∃ l0 M0, Ch a b acc l0 M0 ∧ Cnd a b acc l0 h ∧ l = h.2 ∧ M = M0 ++ (a.drop l0.1).take (h.1.1 - l0.1) ++ (b.drop h.1.2).take (h.2.2 - h.1.2) := by
  generalize hx : acc ++ [h] = X at c
  cases c with
  | nil => simp at hx
  | snoc c hc =>
    obtain ⟨h1, h2⟩ := List.append_inj' hx rfl
    injection h2 with h2 _
    subst h1 h2
    exact ⟨_, _, c, hc, rfl, rfl⟩
theorem Ch.whole {a b : List ByteArray} {acc : List (Pt × Pt)} {l : Pt} {M : List ByteArray} (c : Ch a b acc l M) : ∀ rest, (inF a.length b.length l (decide (acc = [])) rest → inF a.length b.length (0, 0) true (acc ++ rest)) ∧ apP a b 0 (acc ++ rest) = M ++ apP a b l.1 rest := by
  induction c with
  | nil => intro rest; exact ⟨fun h => h, rfl⟩
  | @snoc acc l M h c hc ih =>
    intro rest
    obtain ⟨i1, i2⟩ := ih (h :: rest)
    rw [List.append_assoc]
    refine ⟨fun hr => i1 ?_, ?_⟩
    · rw [decide_eq_false (by simp)] at hr
      obtain ⟨c1, c2, c3, c4, c5, c6, c7, c8, c9⟩ := hc
      exact ⟨c1, c2, c3, fun hf => c4 (of_decide_eq_false hf), c5, c6, c7, c8, c9, hr⟩
    · rw [show [h] ++ rest = h :: rest from rfl, i2, apP]
      simp only [List.append_assoc]
structure HInv (a b : List ByteArray) (acc : List (Pt × Pt)) (p : Pt) (l : Pt) (M : List ByteArray) : Prop where
  ch : Ch a b acc l M
  h1 : l.1 ≤ p.1
  h2 : l.2 ≤ p.2
  dg : p.1 - l.1 = p.2 - l.2
  made : M ++ (a.drop l.1).take (p.1 - l.1) = b.take p.2
theorem take_more {b : List ByteArray} {c d : Nat} (h : c ≤ d) : b.take c ++ (b.drop c).take (d - c) = b.take d := by
  have : d = c + (d - c) := by omega
  rw [this, List.take_add]
  congr 2
  omega
theorem HInv.step {a b : List ByteArray} {acc : List (Pt × Pt)} {p q l : Pt} {M : List ByteArray} (h : HInv a b acc p l M) (hs : StOk a b p q) (hp : p.1 ≤ a.length ∧ p.2 ≤ b.length) (hq : q.1 ≤ a.length ∧ q.2 ≤ b.length) : ∃ l' M', HInv a b (hstep acc p q) q l' M' := by
  obtain ⟨hc, h1, h2, h3, h4⟩ := h
  by_cases hd : q = (p.1 + 1, p.2 + 1)
  · have hE : hstep acc p q = acc := by unfold hstep; rw [if_pos hd]
    rw [hE]
    rcases hs with ⟨-, s, ha, hb⟩ | hs | hs
    · subst hd
      refine ⟨l, M, hc, by simp only; omega, by simp only; omega, by simp only; omega, ?_⟩
      have e1 : p.1 + 1 - l.1 = (p.1 - l.1) + 1 := by omega
      simp only
      rw [e1, List.take_add_one, ← List.append_assoc, h4, List.take_add_one, hb, List.getElem?_drop, show l.1 + (p.1 - l.1) = p.1 by omega, ha]
    · rw [hs] at hd; injection hd with _ hd; omega
    · rw [hs] at hd; injection hd with hd _; omega
  · have hpq : p.1 ≤ q.1 ∧ p.2 ≤ q.2 ∧ p ≠ q := by
      rcases hs with ⟨hs, -⟩ | hs | hs
      · exact absurd hs hd
      · subst hs; exact ⟨by simp, by simp, fun h => by have := congrArg Prod.fst h; simp at this⟩
      · subst hs; exact ⟨by simp, by simp, fun h => by have := congrArg Prod.snd h; simp at this⟩
    have hnew : (acc ≠ [] → 1 ≤ p.1 - l.1) → ∃ l' M', HInv a b (acc ++ [(p, q)]) q l' M' := by
      intro hne
      refine ⟨q, _, Ch.snoc (h := (p, q)) hc ⟨h1, h2, h3, hne, hpq.1, hpq.2.1, hpq.2.2, hq.1, hq.2⟩, Nat.le_refl _, Nat.le_refl _, by omega, ?_⟩
      simp only
      rw [h4, Nat.sub_self, List.take_zero, List.append_nil, take_more hpq.2.1]
    unfold hstep
    rw [if_neg hd]
    rcases List.eq_nil_or_concat acc with rfl | ⟨acc0, h, rfl⟩
    · exact hnew (fun h => absurd rfl h)
    · rw [List.concat_eq_append] at *
      rw [List.getLast?_concat]
      simp only
      obtain ⟨l0, M0, c0, ⟨c1, c2, c3, c4, c5, c6, c7, c8, c9⟩, rfl, rfl⟩ := hc.inv
      by_cases hT : h.2 = p
      · rw [if_pos hT, List.dropLast_concat]
        subst hT
        refine ⟨q, _, Ch.snoc (h := (h.1, q)) c0 ⟨c1, c2, c3, c4, by simp only; omega, by simp only; omega, fun he => ?_, hq.1, hq.2⟩, Nat.le_refl _, Nat.le_refl _, by omega, ?_⟩
        · simp only at he
          rw [← he] at hpq
          exact c7 (by apply Prod.ext <;> omega)
        · simp only
          rw [Nat.sub_self, List.take_zero, List.append_nil] at h4 ⊢
          rw [← take_more c6] at h4
          rw [List.append_cancel_right h4, take_more (by omega)]
      · rw [if_neg hT]
        refine hnew (fun _ => ?_)
        apply Nat.le_of_not_lt
        intro hlt
        exact hT (by apply Prod.ext <;> omega)
theorem hks_inv {a b : List ByteArray} : ∀ (r : List Pt) (acc : List (Pt × Pt)) (p l : Pt) (M : List ByteArray), (∀ i x y, (p :: r)[i]? = some x → (p :: r)[i + 1]? = some y → StOk a b x y) → (∀ x ∈ p :: r, x.1 ≤ a.length ∧ x.2 ≤ b.length) → HInv a b acc p l M → ∀ e, (p :: r).getLast? = some e → ∃ l' M', HInv a b (hksF acc (p :: r)) e l' M' := by
  intro r
  induction r with
  | nil =>
    intro acc p l M _ _ hI e he
    rw [hksF_one]
    have : p = e := by simpa using he
    subst this
    exact ⟨l, M, hI⟩
  | cons q r ih =>
    intro acc p l M hs hm hI e he
    rw [hksF_two]
    obtain ⟨l', M', hI'⟩ := hI.step (hs 0 p q rfl rfl) (hm p (by simp)) (hm q (by simp))
    exact ih _ q l' M' (fun i x y hx hy => hs (i + 1) x y (by simpa using hx) (by simpa using hy)) (fun x hx => hm x (List.mem_cons_of_mem _ hx)) hI' e (by rw [List.getLast?_cons_cons] at he; exact he)
theorem hunks_whole (a b : List ByteArray) : inF a.length b.length (0, 0) true (hksF [] (wayP a b 0 0)) ∧ apP a b 0 (hksF [] (wayP a b 0 0)) = b := by
  obtain ⟨hok, -, hlen⟩ := way_all a b _ a b 0 0 (Nat.le_refl _) rfl rfl (Nat.zero_le _) (Nat.zero_le _)
  obtain ⟨r0, hr0⟩ := wayP_head a b 0 0
  have h1 := hok.steps
  have h2 := hok.small
  have h3 := hok.last
  rw [hr0] at h1 h2 h3 ⊢
  obtain ⟨l, M, hI⟩ := hks_inv (a := a) (b := b) r0 [] (0, 0) (0, 0) [] h1 h2 ⟨Ch.nil, Nat.le_refl _, Nat.le_refl _, rfl, by simp⟩ _ h3
  generalize hksF [] ((0, 0) :: r0) = acc at *
  obtain ⟨hc, g1, g2, g3, g4⟩ := hI
  simp only at g1 g2 g3 g4
  obtain ⟨w1, w2⟩ := hc.whole []
  rw [List.append_nil] at w1 w2
  refine ⟨w1 ⟨g1, g2, g3⟩, ?_⟩
  rw [w2, apP]
  rw [List.take_of_length_le (by rw [List.length_drop]; omega), List.take_length] at g4
  exact g4
theorem hks_len (a b : List ByteArray) : (hksF [] (wayP a b 0 0)).length ≤ a.length + b.length := by
  obtain ⟨-, -, hlen⟩ := way_all a b _ a b 0 0 (Nat.le_refl _) rfl rfl (Nat.zero_le _) (Nat.zero_le _)
  have : ∀ (W : List Pt) (acc : List (Pt × Pt)), (hksF acc W).length ≤ acc.length + (W.length - 1) := by
    intro W
    induction W with
    | nil => intro acc; rw [hksF] <;> simp
    | cons p r ih =>
      intro acc
      cases r with
      | nil => rw [hksF_one]; simp
      | cons q r =>
        rw [hksF_two]
        have h1 := ih (hstep acc p q)
        have h2 := hstep_len acc p q
        simp only [List.length_cons] at h1 ⊢
        omega
  have := this (wayP a b 0 0) []
  simp only [List.length_nil] at this
  omega

open Go.RowKit Go.Shelf

def rowG (M N : List ByteArray) : List Nat := (List.range (N.length + 1)).map fun j => rst M (N.drop j)
theorem rowG_len (M N : List ByteArray) : (rowG M N).length = N.length + 1 := by unfold rowG; simp
theorem rowG_get (M N : List ByteArray) {j : Nat} (h : j ≤ N.length) : (rowG M N)[j]? = some (rst M (N.drop j)) := by
  unfold rowG
  rw [List.getElem?_map, List.getElem?_range (by omega)]
  rfl
theorem rowG_eq {M N : List ByteArray} {R : List Nat} (hl : R.length = N.length + 1) (h : ∀ j, j ≤ N.length → R[j]? = some (rst M (N.drop j))) : R = rowG M N := by
  apply List.ext_getElem?
  intro j
  by_cases hj : j ≤ N.length
  · rw [h j hj, rowG_get M N hj]
  · rw [List.getElem?_eq_none (by omega), List.getElem?_eq_none (by rw [rowG_len]; omega)]
theorem dropB_cons {N : List ByteArray} {k : Nat} {q : ByteArray} (h : N[k]? = some q) : N.drop k = q :: N.drop (k + 1) := by
  obtain ⟨hl, hg⟩ := List.getElem?_eq_some_iff.1 h
  rw [← hg]
  exact List.drop_eq_getElem_cons hl
theorem info_ints : ∃ i, Try.prog.info? 62 = some i ∧ i.zero = some (.slice none 0 0) ∧ i.size = 1 ∧ i.bytes = 24 := by
  have h : (Try.prog.info? 62).map (fun i => (i.zero, i.size, i.bytes)) = some (some (.slice none 0 0), 1, 24) := by kernel_rfl
  cases h' : Try.prog.info? 62 with
  | none => rw [h'] at h; cases h
  | some i =>
    rw [h'] at h
    simp only [Option.map_some, Option.some.injEq, Prod.mk.injEq] at h
    exact ⟨i, rfl, h.1, h.2.1, h.2.2⟩
/-- The table, its rows from k on filled. -/
structure TbSt (w wr : World) (tb : Nat) (a b : List ByteArray) (k : Nat) : Prop where
  st : ∃ (C : List Value) (r : Nat → Nat), C.length = a.length + 1 ∧ Bk wr tb 62 C ∧ ∀ j, k ≤ j → j ≤ a.length → C[j]? = some (slV (r j) (b.length + 1)) ∧ Bk wr (r j) 3 (intV (rowG (a.drop j) b)) ∧ tb < r j
  tb : tb = w.heap.size
  bel : Below w.heap.size w wr
  le : k ≤ a.length + 1
/-- The same, with a row under way. -/
structure TbMd (w wr : World) (tb : Nat) (a b : List ByteArray) (k rb : Nat) (R : List Nat) : Prop where
  st : ∃ (C : List Value) (r : Nat → Nat), C.length = a.length + 1 ∧ Bk wr tb 62 C ∧ C[k]? = some (slV rb (b.length + 1)) ∧ ∀ j, k + 1 ≤ j → j ≤ a.length → C[j]? = some (slV (r j) (b.length + 1)) ∧ Bk wr (r j) 3 (intV (rowG (a.drop j) b)) ∧ tb < r j ∧ r j ≠ rb
  row : Bk wr rb 3 (intV R)
  rl : R.length = b.length + 1
  rlt : tb < rb
  tb : tb = w.heap.size
  bel : Below w.heap.size w wr
  le : k ≤ a.length
section
variable {w wr : World} {tb k rb : Nat} {a b : List ByteArray} {R : List Nat}
theorem TbMd.set (h : TbMd w wr tb a b k rb R) (j x : Nat) : TbMd w (wr.setCell ⟨rb, j, none⟩ (.int .i64 (x : Int))) tb a b k rb (R.set j x) := by
  obtain ⟨C, r, h1, h2, h3, h4⟩ := h.st
  have ht := h.tb
  have hl := h.rlt
  refine ⟨⟨C, r, h1, h2.other (by omega) _, h3, fun j a b => ?_⟩, ?_, by simp [h.rl], hl, ht, h.bel.setCell (show w.heap.size ≤ rb by omega) _, h.le⟩
  · obtain ⟨a1, a2, a3, a4⟩ := h4 j a b
    exact ⟨a1, a2.other a4 _, a3, a4⟩
  · have := h.row.set j (.int .i64 (x : Int))
    rw [intV_set] at this
    exact this
theorem TbMd.drewN (h : TbMd w wr tb a b k rb R) (m : Nat) : TbMd w (wr.drewN m) tb a b k rb R := ⟨h.st, h.row, h.rl, h.rlt, h.tb, ⟨h.bel.os, h.bel.tape, h.bel.output, h.bel.size, h.bel.block⟩, h.le⟩
theorem TbMd.done (h : TbMd w wr tb a b k rb R) (hR : R = rowG (a.drop k) b) : TbSt w wr tb a b k := by
  obtain ⟨C, r, h1, h2, h3, h4⟩ := h.st
  refine ⟨⟨C, fun j => if j = k then rb else r j, h1, h2, fun j x y => ?_⟩, h.tb, h.bel, by have := h.le; omega⟩
  by_cases e : j = k
  · subst e
    simp only [if_true]
    exact ⟨h3, by rw [← hR]; exact h.row, h.rlt⟩
  · simp only [if_neg e]
    obtain ⟨a1, a2, a3, -⟩ := h4 j (by omega) y
    exact ⟨a1, a2, a3⟩
theorem TbMd.ck (h : TbMd w wr tb a b k rb R) : wr.cell? ⟨tb, k, none⟩ = some (.slice (some ⟨rb, 0, none⟩) (b.length + 1) (b.length + 1)) := by
  obtain ⟨C, r, h1, h2, h3, h4⟩ := h.st
  exact h2.cell k _ h3
/-- What the next row holds. -/
theorem TbMd.next (h : TbMd w wr tb a b k rb R) (hk : k < a.length) : ∃ nb, wr.cell? ⟨tb, k + 1, none⟩ = some (.slice (some ⟨nb, 0, none⟩) (b.length + 1) (b.length + 1)) ∧ ∀ j, j ≤ b.length → wr.cell? ⟨nb, j, none⟩ = some (.int .i64 ((rst (a.drop (k + 1)) (b.drop j) : Nat) : Int)) := by
  obtain ⟨C, r, h1, h2, h3, h4⟩ := h.st
  obtain ⟨g1, g2, -, -⟩ := h4 (k + 1) (Nat.le_refl _) (by omega)
  exact ⟨r (k + 1), h2.cell (k + 1) _ g1, fun j hj => g2.cell j _ (intV_get (rowG_get _ _ hj))⟩
end
/-- A new row is laid. -/
theorem TbSt.mid {w wr w5 : World} {tb k : Nat} {a b : List ByteArray} (h : TbSt w wr tb a b (k + 1)) (hg : wr.grownBy w5 none) (hb : Bk w5 wr.heap.size 3 (intV (List.replicate (b.length + 1) 0))) :
    (∃ u, w5.cell? ⟨tb, k, none⟩ = some u) ∧ w5.frozen? ⟨tb, k, none⟩ = false ∧ TbMd w (w5.setCell ⟨tb, k, none⟩ (slV wr.heap.size (b.length + 1))) tb a b k wr.heap.size (List.replicate (b.length + 1) 0) := by
  obtain ⟨C, r, h1, h2, h3⟩ := h.st
  have ht := h.tb
  have hle := h.le
  have htl := h2.lt
  have hF := Fx.grown hg
  have h2' := h2.fx hF (by simp)
  obtain ⟨u, hu⟩ : ∃ u, C[k]? = some u := ⟨_, List.getElem?_eq_getElem (by omega)⟩
  refine ⟨⟨u, h2'.cell k _ hu⟩, h2'.frozen k, ⟨⟨C.set k (slV wr.heap.size (b.length + 1)), r, by simp [h1], h2'.set k _, by rw [List.getElem?_set_self (by omega)], fun j x y => ?_⟩, hb.other (by omega) _, by simp, by omega, ht, (h.bel.trans (hF.below (by omega) (by simp))).setCell (show w.heap.size ≤ tb by omega) _, by omega⟩⟩
  obtain ⟨a1, a2, a3⟩ := h3 j x y
  have := a2.lt
  exact ⟨by rw [List.getElem?_set_ne (by omega)]; exact a1, (a2.fx hF (by simp)).other (by omega) _, a3, by omega⟩
end Go.Proofs.Ytidpdhnbnecddaa
