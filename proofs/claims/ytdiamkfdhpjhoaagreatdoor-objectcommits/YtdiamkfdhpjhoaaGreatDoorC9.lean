/-
  What the document's reader of commits guesses. (Pure.)
-/
import Derived.Test.YtdiamkfdhpjhoaaGreatDoorC6
import Derived.Test.YtdiamkfdhpjhoaaGreatDoorC8
namespace Go.Proofs.YtdiamkfdhpjhoaaGreatDoor
open Go.RowKit

/-- A line, or none. -/
def LnRC (t word a b : List UInt8) (ok : Bool) : Prop := (ok = true ∧ LnAt t word a b) ∨ (ok = false ∧ LnNo t word)
theorem ln_forceC {t word a b a' b' : List UInt8} {ok : Bool} (h : LnAt t word a' b') (g : LnRC t word a b ok) : ok = true ∧ a = a' ∧ b = b' := by
  rcases g with ⟨rfl, g⟩ | ⟨rfl, g⟩
  · have := ln_one g h
    exact ⟨rfl, this.1, this.2⟩
  · exact absurd h (g _ _)
theorem ln_at_sizeC {t word a b : ByteArray} (h : LnAt t.data.toList word.data.toList a.data.toList b.data.toList) : a.size ≤ t.size ∧ b.size ≤ t.size := by
  have := congrArg List.length h.1
  simp only [List.length_append, List.length_cons, ← Lib.size_eq] at this
  omega
/-- How line ends, in one form. -/
def LnGC (t word : ByteArray) (w : World) (e : Ending) (w' : World) : Prop := ∃ (a b : ByteArray) (ok : Bool), e = .returned (.tuple #[.string a, .string b, .bool ok]) ∧ LnRC t.data.toList word.data.toList a.data.toList b.data.toList ok ∧ a.size ≤ t.size ∧ b.size ≤ t.size ∧ Below w.heap.size w w'
theorem lineGC_any (t word : ByteArray) (w : World) (hs : t.size ≤ 1048576) (hw : word.size ≤ 100) : Calls Tryz.prog 24 #[.string t, .string word] w (LnGC t word w) :=
  (line_any t word w hs hw).mono fun e w' h => by
    rcases h with ⟨h1, h2, h3⟩ | ⟨a, b, h1, h2, h3⟩
    · exact ⟨_, _, _, h2, .inr ⟨rfl, h1⟩, Nat.zero_le _, Nat.zero_le _, h3⟩
    · exact ⟨a, b, true, h2, .inl ⟨rfl, h1⟩, (ln_at_sizeC h1).1, (ln_at_sizeC h1).2, h3⟩
/-- Parents' lines, as the document reads them. -/
def PlS : List UInt8 → List (List Int) → List UInt8 → Prop
  | t, [], t' => t' = t
  | t, p :: ps, t' => ∃ a b, LnAt t wP a b ∧ p = Sh.parF ⟨a.toArray⟩ ∧ PlS b ps t'
theorem PlS.snoc : ∀ {ps : List (List Int)} {t t' a b : List UInt8}, PlS t ps t' → LnAt t' wP a b → PlS t (ps ++ [Sh.parF ⟨a.toArray⟩]) b
  | [], t, t', a, b, h, hp => by
    have h : t' = t := h
    subst h
    exact ⟨a, b, hp, rfl, rfl⟩
  | p :: ps, t, t', a, b, h, hp => by
    obtain ⟨x, y, h1, h2, h3⟩ := h
    exact ⟨x, y, h1, h2, PlS.snoc h3 hp⟩
theorem pas_ln {p : List Int} (h : IdOk p) (r : List UInt8) : LnAt (wP ++ 32 :: (hexU p ++ 10 :: r)) wP (hexU p) r := ⟨rfl, hexU_no _ h.2⟩
theorem cmR_no (c : CmC) : LnNo (cmR c) wP := fun rest behind h => by
  have h1 := congrArg List.head? h.1
  unfold cmR wA wP at h1
  simp at h1
theorem pls_pre {r : List UInt8} (hr : LnNo r wP) : ∀ {ps : List (List Int)}, (∀ p ∈ ps, IdOk p) → ∀ {qs : List (List Int)} {t2 : List UInt8}, PlS (pasU ps r) qs t2 → ∃ rest, ps = qs ++ rest ∧ t2 = pasU rest r
  | ps, _, [], t2, h => ⟨ps, rfl, h⟩
  | [], _, q :: qs, t2, h => by
    obtain ⟨a, b, h1, -, -⟩ := h
    exact absurd h1 (hr a b)
  | p :: ps, hok, q :: qs, t2, h => by
    have hp := hok p List.mem_cons_self
    obtain ⟨a, b, h1, h2, h3⟩ := h
    obtain ⟨rfl, rfl⟩ := ln_one h1 (pas_ln hp (pasU ps r))
    rw [par_hex hp] at h2
    obtain ⟨rest, e1, e2⟩ := pls_pre hr (fun q hq => hok q (List.mem_cons_of_mem _ hq)) h3
    exact ⟨rest, by rw [h2, e1]; rfl, e2⟩
/-- What a commit's pieces are read as. -/
def pcC (a : ByteArray) (qs : List (List Int)) (a3 a4 m : ByteArray) : CmC := ⟨Sh.parF a, qs, (prsF a3).1, (prsF a4).1, m⟩
theorem cm_force {t : List UInt8} {a1 t1 t2 a3 t3 a4 t4 : ByteArray} {qs : List (List Int)} {k3 k4 : Bool} (h1 : LnAt t wTr a1.data.toList t1.data.toList) (h2 : PlS t1.data.toList qs t2.data.toList) (hx : qs.length = 17 ∨ LnNo t2.data.toList wP)
    (h3 : LnRC t2.data.toList wA a3.data.toList t3.data.toList k3) (h4 : LnRC t3.data.toList wCo a4.data.toList t4.data.toList k4) {c : CmC} (hc : c.ok) (h0 : ceF c = 0) (he : cmU c = t) :
    k3 = true ∧ k4 = true ∧ t4.data.toList ≠ [] ∧ ∀ m : ByteArray, m.data.toList = t4.data.toList.drop 1 → pcC a1 qs a3 a4 m = c := by
  obtain ⟨f1, f2, f3, f4, f5⟩ := ceF_ok h0
  obtain ⟨g1, g2, g3⟩ := cm_lines hc h0
  rw [he] at g1
  obtain ⟨e1, e2⟩ := ln_one h1 g1
  rw [e2] at h2
  obtain ⟨rest, e3, e4⟩ := pls_pre (cmR_no c) hc.2.1 h2
  have hrest : rest = [] := by
    rcases hx with hx | hx
    · have := congrArg List.length e3
      rw [List.length_append] at this
      omega
    · cases rest with
      | nil => rfl
      | cons p rs =>
        exfalso
        rw [e4] at hx
        exact hx _ _ (pas_ln (hc.2.1 p (by rw [e3]; simp)) (pasU rs (cmR c)))
  subst hrest
  rw [List.append_nil] at e3
  have e4 : t2.data.toList = cmR c := e4
  rw [e4] at h3
  obtain ⟨e5, e6, e7⟩ := ln_forceC g2 h3
  rw [e7] at h4
  obtain ⟨e8, e9, e10⟩ := ln_forceC g3 h4
  refine ⟨e5, e8, by rw [e10]; simp, fun m hm => ?_⟩
  rw [e10, List.drop_one, List.tail_cons] at hm
  have b1 : a1 = ⟨(hexU c.tg).toArray⟩ := by rw [← e1]
  have b3 : a3 = putB c.ia := by rw [← back_ba a3, e6]
  have b4 : a4 = putB c.ic := by rw [← back_ba a4, e9]
  have bm : m = c.ms := by rw [← back_ba m, hm]
  unfold pcC
  rw [b1, b3, b4, bm, par_hex hc.1, prs_put f3, prs_put f4, ← e3]
theorem dc_none1 {xs : List Int} (hl : xs.length ≤ 1048576) (h : LnNo (strOfNums xs).data.toList wTr) : DcEnd xs cm0 4 :=
  .inr ⟨hl, .inr ⟨fun c hc h0 he => by
    have := (cm_lines hc h0).1
    rw [he] at this
    exact h _ _ this, rfl, rfl⟩⟩
theorem dc_none {xs : List Int} (hl : xs.length ≤ 1048576) {a1 t1 t2 a3 t3 a4 t4 : ByteArray} {qs : List (List Int)} {k3 k4 : Bool} (h1 : LnAt (strOfNums xs).data.toList wTr a1.data.toList t1.data.toList) (h2 : PlS t1.data.toList qs t2.data.toList) (hx : qs.length = 17 ∨ LnNo t2.data.toList wP)
    (h3 : LnRC t2.data.toList wA a3.data.toList t3.data.toList k3) (h4 : LnRC t3.data.toList wCo a4.data.toList t4.data.toList k4) (h : ¬ (k3 = true ∧ k4 = true ∧ t4.data.toList ≠ [])) : DcEnd xs cm0 4 :=
  .inr ⟨hl, .inr ⟨fun c hc h0 he => by
    obtain ⟨e1, e2, e3, -⟩ := cm_force h1 h2 hx h3 h4 hc h0 he
    exact h ⟨e1, e2, e3⟩, rfl, rfl⟩⟩
theorem dc_bad {xs : List Int} (hl : xs.length ≤ 1048576) {a1 t1 t2 a3 t3 a4 t4 m : ByteArray} {qs : List (List Int)} {k3 k4 : Bool} (h1 : LnAt (strOfNums xs).data.toList wTr a1.data.toList t1.data.toList) (h2 : PlS t1.data.toList qs t2.data.toList) (hx : qs.length = 17 ∨ LnNo t2.data.toList wP)
    (h3 : LnRC t2.data.toList wA a3.data.toList t3.data.toList k3) (h4 : LnRC t3.data.toList wCo a4.data.toList t4.data.toList k4) (hm : m.data.toList = t4.data.toList.drop 1) (h : ¬ (ceF (pcC a1 qs a3 a4 m) = 0 ∧ cmU (pcC a1 qs a3 a4 m) = (strOfNums xs).data.toList)) : DcEnd xs cm0 4 :=
  .inr ⟨hl, .inr ⟨fun c hc h0 he => by
    obtain ⟨-, -, -, e⟩ := cm_force h1 h2 hx h3 h4 hc h0 he
    rw [e m hm] at h
    exact h ⟨h0, he⟩, rfl, rfl⟩⟩
theorem cmL_bytes {c : CmC} (hok : c.ok) : Sh.AllB (cmL c) := by
  have hh : ∀ p, IdOk p → Sh.AllB (Sh.hexF p) := fun p hp => Sh.hexF_allB (fun y hy => hp.2 y hy)
  have hpa : Sh.AllB (pasL c.ps) := by
    intro x hx
    unfold pasL at hx
    obtain ⟨p, hp, hx⟩ := List.mem_flatMap.1 hx
    unfold paL at hx
    rcases List.mem_append.1 hx with hx | hx
    · rcases List.mem_append.1 hx with hx | hx
      · have : x ∈ ([112, 97, 114, 101, 110, 116, 32] : List Int) := hx
        simp only [List.mem_cons, List.not_mem_nil, or_false] at this
        omega
      · exact hh p (hok.2.1 p hp) x hx
    · simp only [List.mem_cons, List.not_mem_nil, or_false] at hx
      omega
  have c1 : Sh.AllB [116, 114, 101, 101] := fun x hx => by simp at hx; omega
  have c2 : Sh.AllB [10] := fun x hx => by simp at hx; omega
  have c3 : Sh.AllB [97, 117, 116, 104, 111, 114] := fun x hx => by simp at hx; omega
  have c4 : Sh.AllB [32] := fun x hx => by simp at hx; omega
  have c5 : Sh.AllB [99, 111, 109, 109, 105, 116, 116, 101, 114] := fun x hx => by simp at hx; omega
  unfold cmL
  repeat' apply allB_cat
  all_goals first | assumption | exact hh _ hok.1 | exact strL_allB _
theorem cmL_eq {c : CmC} (hok : c.ok) {xs : List Int} (hA : Sh.AllB xs) : cmL c = xs ↔ cmU c = (strOfNums xs).data.toList := by
  constructor
  · rintro rfl
    exact (cmL_U c).symm
  · intro h
    rw [← cmL_U] at h
    have := strs_eq (cmL_bytes hok) hA
    have e : strOfNums (cmL c) = strOfNums xs := by
      apply ByteArray.ext
      apply Array.ext'
      exact h
    rw [e] at this
    simp at this
    exact this
end Go.Proofs.YtdiamkfdhpjhoaaGreatDoor
