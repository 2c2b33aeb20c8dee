/-
  Walks of the document: octal.
-/
import Derived.Test.YtkbalngddlhlpaaGreatDoorO29
import Derived.Test.YtkbalngddlhlpaaGreatDoorO25
import Derived.Test.YtkbalngddlhlpaaGreatDoorO14
namespace Go.Proofs.YtkbalngddlhlpaaGreatDoor
open Go.RowKit

theorem octG_six (l : List Int) (h : IsOct l) (hl : l.length ≤ 6) : 0 ≤ octG 0 l ∧ octG 0 l < 262144 := by
  have h1 := octG_range l 0 h (by omega)
  have h2 : (8 : Int) ^ l.length ≤ 8 ^ 6 := by
    have := Nat.pow_le_pow_right (n := 8) (by omega) hl
    exact_mod_cast this
  omega
structure OctD (l : List Int) (n : Int) : Prop where
  eq : IsOct l → l.length ≤ 6 → n = octG 0 l
  lo : -1 ≤ n
  hi : n < 262144


def EnB (w : World) (g : Nat) (e : EnC) : Prop := w.heap[g]? = some (.cells e.l.toArray 33)
section
variable {w w' : World} {g : Nat} {e : EnC}
theorem EnB.lt (h : EnB w g e) : g < w.heap.size := by
  unfold EnB at h
  rcases Nat.lt_or_ge g w.heap.size with h' | h'
  · exact h'
  · rw [Array.getElem?_eq_none h'] at h
    cases h
theorem EnB.range (h : EnB w g e) : w.rangeAt g 0 e.l := by
  intro j v hv
  rw [Nat.zero_add, cell_of_row w g j _ 33 (0, 0) h]
  simpa using hv
theorem EnB.far {B : Nat} (h : EnB w g e) (hb : Below B w w') (hlt : g < B) : EnB w' g e := by
  unfold EnB at h ⊢
  rw [hb.block g hlt]
  exact h
theorem EnB.other {g' i : Nat} (h : EnB w g e) (hne : g ≠ g') (u : Value) : EnB (w.setCell ⟨g', i, none⟩ u) g e := by
  unfold EnB at h ⊢
  rw [Below.heap_setCell _ _ _ _ hne]
  exact h
theorem EnB.frozen (h : EnB w g e) (i : Nat) : w.frozen? ⟨g, i, none⟩ = false := by
  unfold EnB at h
  simp [World.frozen?, h]
end
structure NxAt (xs : List Int) (p q : Nat) : Prop where
  lt : p < q
  room : q + 33 ≤ xs.length
  no32 : ∀ j, j < p → xs.getD j 0 ≠ 32
  is32 : xs.getD p 0 = 32
  no0 : ∀ j, p ≤ j → j < q → xs.getD j 0 ≠ 0
  is0 : xs.getD q 0 = 0
structure NxYes (xs : List Int) (e : EnC) (more : List Int) : Prop where
  out : ∃ p q, NxAt xs p q ∧ OctD (xs.take p) e.m ∧ e.nm = strOfNums ((xs.drop (p + 1)).take (q - (p + 1))) ∧ e.ids = (xs.drop (q + 1)).take 32 ∧ more = xs.drop (q + 33)
theorem nx_p {xs : List Int} {p p' q : Nat} (h : ∀ j, j < p → xs.getD j 0 ≠ 32) (h1 : xs.getD p 0 = 32) (n : NxAt xs p' q) : p' = p := by
  rcases Nat.lt_trichotomy p p' with k | k | k
  · exact absurd h1 (n.no32 p k)
  · exact k.symm
  · exact absurd n.is32 (h p' k)


theorem oidx1 (b : UInt8) (r : List UInt8) : ∀ (a : List UInt8), b ∉ a → Lib.index (a ++ b :: r) [b] = a.length
  | [], _ => by simp [Lib.index, List.isPrefixOf]
  | x :: a, h => by
    have hx : ¬ b = x := fun e => h (by rw [e]; exact List.mem_cons_self)
    have ih := oidx1 b r a (fun e => h (List.mem_cons_of_mem _ e))
    rw [List.cons_append]
    unfold Lib.index
    rw [ih, if_neg (by simp [List.isPrefixOf, hx]), if_neg (by simp)]
    simp
theorem ocut1 (b : UInt8) (a r : List UInt8) (h : b ∉ a) : Lib.cut (a ++ b :: r) [b] = (a, r, true) := by
  unfold Lib.cut
  rw [oidx1 b r a h, if_pos (by omega)]
  simp
theorem oany_mem (chars : List UInt8) : ∀ (l : List UInt8), Lib.containsAny l chars = false → ∀ b ∈ l, b ∉ chars
  | [], _, b, hb => by cases hb
  | x :: l, h, b, hb => by
    unfold Lib.containsAny at h
    have h := of_decide_eq_false h
    unfold Lib.indexAny at h
    by_cases hx : chars.contains x = true
    · rw [if_pos hx] at h; omega
    · rw [if_neg hx] at h
      rcases List.mem_cons.1 hb with rfl | hb
      · simpa using hx
      · refine oany_mem chars l ?_ b hb
        unfold Lib.containsAny
        refine decide_eq_false ?_
        have hg := Lib.indexAny_ge chars l
        split at h
        · rename_i e; have : Lib.indexAny l chars = -1 := by simpa using e
          omega
        · omega
theorem name_no0 {s : ByteArray} (h : nameF s = true) : ∀ b ∈ s.data.toList, b ≠ 0 := by
  unfold nameF at h
  simp only [Bool.and_eq_true, Bool.not_eq_true'] at h
  intro b hb e
  exact oany_mem _ _ h.1.1.1.2 b hb (by rw [e]; simp)
structure GoodE (e : EnC) : Prop where
  nm : nameF e.nm = true
  md : modF e.m = true
  ok : e.ok
theorem mod_oct {m : Int} (h : modF m = true) : IsOct (octS m) ∧ (octS m).length ≤ 6 ∧ octS m ≠ [] ∧ octG 0 (octS m) = m := by
  unfold modF at h
  simp only [Bool.or_eq_true, decide_eq_true_eq] at h
  rcases h with ((rfl | rfl) | rfl) | rfl
  · refine ⟨fun c hc => ?_, by decide, by decide, by decide⟩
    have : ∀ c ∈ octS 16384, 48 ≤ c ∧ c ≤ 55 := by decide
    exact this c hc
  · refine ⟨fun c hc => ?_, by decide, by decide, by decide⟩
    have : ∀ c ∈ octS 33188, 48 ≤ c ∧ c ≤ 55 := by decide
    exact this c hc
  · refine ⟨fun c hc => ?_, by decide, by decide, by decide⟩
    have : ∀ c ∈ octS 33261, 48 ≤ c ∧ c ≤ 55 := by decide
    exact this c hc
  · refine ⟨fun c hc => ?_, by decide, by decide, by decide⟩
    have : ∀ c ∈ octS 40960, 48 ≤ c ∧ c ≤ 55 := by decide
    exact this c hc
structure TrT (xs : List Int) (es : List EnC) : Prop where
  e : treE es = 0
  l : treL es = xs
  ok : ∀ e ∈ es, e.ok
theorem treE_good {es : List EnC} (h : treE es = 0) (hok : ∀ e ∈ es, e.ok) : ∀ e ∈ es, GoodE e := by
  unfold treE at h
  by_cases h1 : 4096 < es.length ∨ 1048576 < tsF es
  · rw [if_pos h1] at h; omega
  · rw [if_neg h1] at h
    by_cases h2 : es.any noName = true
    · rw [if_pos h2] at h; omega
    · rw [if_neg h2] at h
      by_cases h3 : es.any noMode = true ∨ riB es = false
      · rw [if_pos h3] at h; omega
      · intro e he
        refine ⟨?_, ?_, hok e he⟩
        · cases hn : nameF e.nm with
          | true => rfl
          | false => exact absurd (List.any_eq_true.2 ⟨e, he, by unfold noName; rw [hn]; rfl⟩) h2
        · cases hn : modF e.m with
          | true => rfl
          | false => exact absurd (.inl (List.any_eq_true.2 ⟨e, he, by unfold noMode; rw [hn]; rfl⟩)) h3
theorem treL_cons (e : EnC) (es : List EnC) : treL (e :: es) = entL e ++ treL es := by unfold treL; rw [List.flatMap_cons]
theorem entL_form (e : EnC) (s : List Int) : entL e ++ s = octS e.m ++ 32 :: (strL e.nm ++ 0 :: (e.ids ++ s)) := by unfold entL; simp
theorem entL_ne (e : EnC) (s : List Int) : entL e ++ s ≠ [] := by rw [entL_form]; simp
theorem strOf_strL (s : ByteArray) : strOfNums (strL s) = s := by
  unfold strL strOfNums
  rw [List.map_map]
  have : ((fun n : Int => UInt8.ofNat n.toNat) ∘ fun b : UInt8 => (b.toNat : Int)) = id := by
    funext b
    simp
  rw [this, List.map_id]

/-! The document's reader -/
theorem getD_l {A B : List Int} {j : Nat} (h : j < A.length) : (A ++ B).getD j 0 = A.getD j 0 := by
  simp [List.getD, List.getElem?_append_left h]
theorem getD_r {A B : List Int} {j : Nat} (h : A.length ≤ j) : (A ++ B).getD j 0 = B.getD (j - A.length) 0 := by
  simp [List.getD, List.getElem?_append_right h]
theorem getD_mem {A : List Int} {j : Nat} (h : j < A.length) : A.getD j 0 ∈ A := by
  simp [List.getD, List.getElem?_eq_getElem h]
theorem nx_list {A N I s : List Int} (hA : (32 : Int) ∉ A) (hN : (0 : Int) ∉ N) (hI : I.length = 32) : NxAt (A ++ 32 :: (N ++ 0 :: (I ++ s))) A.length (A.length + 1 + N.length) := by
  refine ⟨by omega, by simp; omega, fun j hj => ?_, ?_, fun j h1 h2 => ?_, ?_⟩
  · rw [getD_l hj]
    intro e
    exact hA (by rw [← e]; exact getD_mem hj)
  · rw [getD_r (Nat.le_refl _), Nat.sub_self]; rfl
  · rw [getD_r h1]
    rcases Nat.lt_or_ge A.length j with h | h
    · obtain ⟨i, hi⟩ : ∃ i, j - A.length = i + 1 := ⟨j - A.length - 1, by omega⟩
      rw [hi, List.getD_cons_succ, getD_l (by omega)]
      intro e
      exact hN (by rw [← e]; exact getD_mem (by omega))
    · rw [show j - A.length = 0 by omega]
      simp
  · rw [getD_r (by omega), show A.length + 1 + N.length - A.length = N.length + 1 by omega, List.getD_cons_succ, getD_r (Nat.le_refl _), Nat.sub_self]
    rfl
theorem nx_q {xs : List Int} {p q q' : Nat} (n : NxAt xs p q) (n' : NxAt xs p q') : q = q' := by
  rcases Nat.lt_trichotomy q q' with k | k | k
  · exact absurd n.is0 (n'.no0 q (by have := n.lt; omega) k)
  · exact k
  · exact absurd n'.is0 (n.no0 q' (by have := n'.lt; omega) k)
theorem nx_at {e : EnC} (h : GoodE e) (s : List Int) : NxAt (entL e ++ s) (octS e.m).length ((octS e.m).length + 1 + (strL e.nm).length) := by
  rw [entL_form]
  refine nx_list (fun hm => ?_) (fun hm => ?_) h.ok.1
  · have := (mod_oct h.md).1 32 hm
    omega
  · unfold strL at hm
    obtain ⟨b, hb, e0⟩ := List.mem_map.1 hm
    refine name_no0 h.nm b hb ?_
    have : b.toNat = 0 := by omega
    exact UInt8.toNat_inj.1 (by rw [this]; rfl)
theorem nx_yes {e en : EnC} {s more : List Int} (h : GoodE e) (hy : NxYes (entL e ++ s) en more) : en = e ∧ more = s := by
  obtain ⟨p, q, ha, ho, hn, hi, hm⟩ := hy.out
  have hb := nx_at h s
  have hp : p = (octS e.m).length := nx_p hb.no32 hb.is32 ha
  subst hp
  have hq := nx_q ha hb
  subst hq
  have hoc := mod_oct h.md
  rw [entL_form] at ho hn hi hm
  obtain ⟨A, hA⟩ : ∃ A, octS e.m = A := ⟨_, rfl⟩
  obtain ⟨N, hN⟩ : ∃ N, strL e.nm = N := ⟨_, rfl⟩
  rw [hA] at ho hn hi hm hoc
  rw [hN] at ho hn hi hm
  have t1 : (A ++ 32 :: (N ++ 0 :: (e.ids ++ s))).take A.length = A := by simp
  have t2 : ((A ++ 32 :: (N ++ 0 :: (e.ids ++ s))).drop (A.length + 1)).take (A.length + 1 + N.length - (A.length + 1)) = N := by
    rw [← List.drop_drop, List.drop_left, List.drop_one, List.tail_cons, show A.length + 1 + N.length - (A.length + 1) = N.length by omega, List.take_left]
  have t3 : (A ++ 32 :: (N ++ 0 :: (e.ids ++ s))).drop (A.length + 1 + N.length + 1) = e.ids ++ s := by
    rw [show A.length + 1 + N.length + 1 = A.length + (1 + (N.length + 1)) by omega, ← List.drop_drop, List.drop_left, ← List.drop_drop, List.drop_one, List.tail_cons, ← List.drop_drop, List.drop_left, List.drop_one, List.tail_cons]
  have t4 : (A ++ 32 :: (N ++ 0 :: (e.ids ++ s))).drop (A.length + 1 + N.length + 33) = s := by
    rw [show A.length + 1 + N.length + 33 = (A.length + 1 + N.length + 1) + 32 by omega, ← List.drop_drop, t3, ← h.ok.1, List.drop_left]
  rw [t1] at ho
  rw [t2] at hn
  rw [t3] at hi
  rw [t4] at hm
  refine ⟨?_, hm⟩
  have i1 : en.ids = e.ids := by rw [hi, ← h.ok.1, List.take_left]
  have i2 : en.nm = e.nm := by rw [hn, ← hN, strOf_strL]
  have i3 : en.m = e.m := by rw [ho.eq hoc.1 hoc.2.1, hoc.2.2.2]
  cases en
  cases e
  simp_all

/-! The program's reader -/
theorem u8_back {l : List Int} (h : ∀ c ∈ l, 0 ≤ c ∧ c < 256) : (l.map (fun n => UInt8.ofNat n.toNat)).map (fun b => (b.toNat : Int)) = l := by
  have := strL_strOf h
  unfold strL at this
  rwa [strOfNums_data] at this
theorem rdT_ent {e : EnC} {s : List Int} {es : List EnC} (h : GoodE e) (hr : RdT ((entL e ++ s).map fun n => UInt8.ofNat n.toNat) es) : ∃ es', es = e :: es' ∧ RdT (s.map fun n => UInt8.ofNat n.toNat) es' := by
  have hoc := mod_oct h.md
  rw [entL_form] at hr
  simp only [List.map_append, List.map_cons] at hr
  obtain ⟨A, hA⟩ : ∃ A, (octS e.m).map (fun n => UInt8.ofNat n.toNat) = A := ⟨_, rfl⟩
  obtain ⟨N, hN⟩ : ∃ N, (strL e.nm).map (fun n => UInt8.ofNat n.toNat) = N := ⟨_, rfl⟩
  obtain ⟨I, hI⟩ : ∃ I, e.ids.map (fun n => UInt8.ofNat n.toNat) = I := ⟨_, rfl⟩
  obtain ⟨S, hS⟩ : ∃ S, s.map (fun n => UInt8.ofNat n.toNat) = S := ⟨_, rfl⟩
  rw [hA, hN, hI, hS] at hr
  rw [hS]
  have bA : A.map (fun b => (b.toNat : Int)) = octS e.m := by rw [← hA]; exact u8_back fun c hc => by have := hoc.1 c hc; omega
  have bI : I.map (fun b => (b.toNat : Int)) = e.ids := by rw [← hI]; exact u8_back fun c hc => h.ok.2.1 c hc
  have bN : N = e.nm.data.toList := by
    have := strOf_strL e.nm
    rw [← hN, ← strOfNums_data, this]
  have lA : A.length = (octS e.m).length := by rw [← hA, List.length_map]
  have lI : I.length = 32 := by rw [← hI, List.length_map]; exact h.ok.1
  have nA : (32 : UInt8) ∉ A := fun hm => by
    have : ((32 : UInt8).toNat : Int) ∈ A.map (fun b => (b.toNat : Int)) := List.mem_map.2 ⟨32, hm, rfl⟩
    rw [bA] at this
    have := hoc.1 _ this
    simp at this
  have nN : (0 : UInt8) ∉ N := fun hm => by rw [bN] at hm; exact name_no0 h.nm 0 hm rfl
  have c0 : UInt8.ofNat ((32 : Int)).toNat = 32 := rfl
  have c1 : UInt8.ofNat ((0 : Int)).toNat = 0 := rfl
  rw [c0, c1] at hr
  have k1 := ocut1 32 A (N ++ 0 :: (I ++ S)) nA
  have k2 := ocut1 0 N (I ++ S) nN
  generalize hL : A ++ 32 :: (N ++ 0 :: (I ++ S)) = L at hr k1
  cases hr with
  | nil => simp at hL
  | @cons _ en es' h0 hm hn hi hr =>
    rw [k1] at hm hn hi hr
    simp only at hm hn hi hr
    rw [k2] at hn hi hr
    simp only at hn hi hr
    have i3 : en.m = e.m := by
      have := hm (by rw [bA]; exact hoc.1) (by rw [lA]; have := hoc.2.1; omega) (fun e0 => by rw [e0] at lA; exact hoc.2.2.1 (List.eq_nil_of_length_eq_zero lA.symm))
      rw [this, bA, hoc.2.2.2]
    have i2 : en.nm = e.nm := by rw [hn, bN]
    have i1 : en.ids = e.ids := by
      rw [hi]
      unfold idOf
      rw [← lI, List.take_left, bI]
      have : I.length - (I ++ S).length = 0 := by rw [List.length_append]; omega
      rw [this]
      simp
    have i4 : (I ++ S).drop 32 = S := by rw [← lI, List.drop_left]
    rw [i4] at hr
    refine ⟨es', ?_, hr⟩
    cases en
    cases e
    simp_all
theorem rdT_all : ∀ {es0 es : List EnC}, (∀ e ∈ es0, GoodE e) → RdT ((treL es0).map fun n => UInt8.ofNat n.toNat) es → es = es0
  | [], es, _, hr => by
    cases hr with
    | nil => rfl
    | cons h0 => exact absurd rfl h0
  | e :: es0, es, hg, hr => by
    rw [treL_cons] at hr
    obtain ⟨es', rfl, hr'⟩ := rdT_ent (hg e List.mem_cons_self) hr
    rw [rdT_all (fun x hx => hg x (List.mem_cons_of_mem _ hx)) hr']
def DtEnd (xs : List Int) (R : List EnC) (E : Int) : Prop :=
  (1048576 < xs.length ∧ R = [] ∧ E = 2) ∨ (xs.length ≤ 1048576 ∧ ((TrT xs R ∧ E = 0) ∨ ((∀ es0, ¬ TrT xs es0) ∧ R = [] ∧ E = 4)))
theorem entL_bytes {e : EnC} (h : e.ok) : ∀ c ∈ entL e, 0 ≤ c ∧ c < 256 := by
  intro c hc
  unfold entL at hc
  rcases List.mem_append.1 hc with hc | hc
  · rcases List.mem_append.1 hc with hc | hc
    · rcases List.mem_append.1 hc with hc | hc
      · rcases List.mem_append.1 hc with hc | hc
        · exact octS_bytes h.2.2.1 h.2.2.2.1 c hc
        · simp at hc; omega
      · unfold strL at hc
        obtain ⟨b, -, rfl⟩ := List.mem_map.1 hc
        have := b.toNat_lt
        omega
    · simp at hc; omega
  · exact h.2.1 c hc
theorem treL_bytes {es : List EnC} (h : ∀ e ∈ es, e.ok) : ∀ c ∈ treL es, 0 ≤ c ∧ c < 256 := by
  intro c hc
  unfold treL at hc
  obtain ⟨e, he, hce⟩ := List.mem_flatMap.1 hc
  exact entL_bytes (h e he) c hce
theorem strOf_inj {a b : List Int} (ha : ∀ c ∈ a, 0 ≤ c ∧ c < 256) (hb : ∀ c ∈ b, 0 ≤ c ∧ c < 256) (h : strOfNums a = strOfNums b) : a = b := by
  rw [← strL_strOf ha, ← strL_strOf hb, h]
theorem pt_dp {xs : List Int} {R : List EnC} {E : Int} (hA : AllIn 0 256 xs) (h : PtEnd xs R E) : DtEnd xs R E := by
  rcases h with h | ⟨hl, es, hr, hok, h⟩
  · exact .inl h
  · right
    refine ⟨hl, ?_⟩
    rw [strOfNums_data] at hr
    have hA' : ∀ c ∈ xs, 0 ≤ c ∧ c < 256 := fun c hc => hA c hc
    rcases h with ⟨h1, h2, rfl, rfl⟩ | ⟨h1, rfl, rfl⟩
    · exact .inl ⟨⟨h1, strOf_inj (treL_bytes hok) hA' h2, hok⟩, rfl⟩
    · refine .inr ⟨fun es0 ht => h1 ?_, rfl, rfl⟩
      have hg := treE_good ht.e ht.ok
      rw [← ht.l] at hr
      have := rdT_all hg hr
      subst this
      exact ⟨ht.e, by rw [ht.l]⟩
theorem ent_inj {e f : EnC} {s t : List Int} (he : GoodE e) (hf : GoodE f) (h : entL e ++ s = entL f ++ t) : e = f ∧ s = t := by
  have hoc := mod_oct he.md
  have hr := octG_six _ hoc.1 hoc.2.1
  rw [hoc.2.2.2] at hr
  have hy : NxYes (entL e ++ s) e s := by
    have t1 : (octS e.m ++ 32 :: (strL e.nm ++ 0 :: (e.ids ++ s))).take (octS e.m).length = octS e.m := by simp
    refine ⟨⟨_, _, nx_at he s, ?_, ?_, ?_, ?_⟩⟩
    · rw [entL_form, t1]
      exact ⟨fun _ _ => hoc.2.2.2.symm, by omega, by omega⟩
    · rw [entL_form, ← List.drop_drop, List.drop_left, List.drop_one, List.tail_cons, show (octS e.m).length + 1 + (strL e.nm).length - ((octS e.m).length + 1) = (strL e.nm).length by omega, List.take_left, strOf_strL]
    · rw [entL_form, show (octS e.m).length + 1 + (strL e.nm).length + 1 = (octS e.m).length + (1 + ((strL e.nm).length + 1)) by omega, ← List.drop_drop, List.drop_left, ← List.drop_drop, List.drop_one, List.tail_cons, ← List.drop_drop, List.drop_left, List.drop_one, List.tail_cons, ← he.ok.1, List.take_left]
    · rw [entL_form, show (octS e.m).length + 1 + (strL e.nm).length + 33 = (octS e.m).length + (1 + ((strL e.nm).length + (1 + 32))) by omega, ← List.drop_drop, List.drop_left, ← List.drop_drop, List.drop_one, List.tail_cons, ← List.drop_drop, List.drop_left, ← List.drop_drop, List.drop_one, List.tail_cons, ← he.ok.1, List.drop_left]
  rw [h] at hy
  exact nx_yes hf hy
theorem treL_inj : ∀ {es fs : List EnC}, (∀ e ∈ es, GoodE e) → (∀ e ∈ fs, GoodE e) → treL es = treL fs → es = fs
  | [], [], _, _, _ => rfl
  | [], f :: fs, _, _, h => by rw [treL_cons] at h; exact absurd h.symm (entL_ne f _)
  | e :: es, [], _, _, h => by rw [treL_cons] at h; exact absurd h (entL_ne e _)
  | e :: es, f :: fs, he, hf, h => by
    rw [treL_cons, treL_cons] at h
    obtain ⟨rfl, h2⟩ := ent_inj (he e List.mem_cons_self) (hf f List.mem_cons_self) h
    rw [treL_inj (fun x hx => he x (List.mem_cons_of_mem _ hx)) (fun x hx => hf x (List.mem_cons_of_mem _ hx)) h2]
theorem dp_one {xs : List Int} {R R' : List EnC} {E E' : Int} (h : DtEnd xs R E) (h' : DtEnd xs R' E') : R = R' ∧ E = E' := by
  rcases h with ⟨h1, rfl, rfl⟩ | ⟨h1, h⟩
  · rcases h' with ⟨h1', rfl, rfl⟩ | ⟨h1', h'⟩
    · exact ⟨rfl, rfl⟩
    · omega
  · rcases h' with ⟨h1', rfl, rfl⟩ | ⟨h1', h'⟩
    · omega
    · rcases h with ⟨ht, rfl⟩ | ⟨hn, rfl, rfl⟩
      · rcases h' with ⟨ht', rfl⟩ | ⟨hn', rfl, rfl⟩
        · exact ⟨treL_inj (treE_good ht.e ht.ok) (treE_good ht'.e ht'.ok) (by rw [ht.l, ht'.l]), rfl⟩
        · exact absurd ht (hn' R)
      · rcases h' with ⟨ht', rfl⟩ | ⟨hn', rfl, rfl⟩
        · exact absurd ht' (hn R')
        · exact ⟨rfl, rfl⟩
end Go.Proofs.YtkbalngddlhlpaaGreatDoor
