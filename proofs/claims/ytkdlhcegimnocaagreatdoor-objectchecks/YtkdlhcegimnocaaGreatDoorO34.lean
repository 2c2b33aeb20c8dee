/-
  Pure: what a tree is written as is read again, by either reader.
-/
import Derived.Test.YtkdlhcegimnocaaGreatDoorO31
import Derived.Test.YtkdlhcegimnocaaGreatDoorO10B
namespace Go.Proofs.YtkdlhcegimnocaaGreatDoor
open Go.RowKit

theorem oidx1 (b : UInt8) (r : List UInt8) : ∀ (a : List UInt8), b ∉ a → Lib.index (a ++ b :: r) [b] = a.length
  | [], _ => by simp [Lib.index, List.isPrefixOf]
  | x :: a, h => by
    have hx : ¬ b = x := fun e => h (by rw [e]; exact List.mem_cons_self)
    have ih := oidx1 b r a (fun e => h (List.mem_cons_of_mem _ e))
    rw [List.cons_append]
    unfold Lib.index
    rw [ih, if_neg (by simp [List.isPrefixOf, hx]), if_neg (by simp)]
    simp
theorem ocut1 (b : UInt8) (a r : List UInt8) (h : b ∉ a) : Lib.cut (a ++ b :: r) [b] = (a, r, true) := by
  unfold Lib.cut
  rw [oidx1 b r a h, if_pos (by omega)]
  simp
theorem oany_mem (chars : List UInt8) : ∀ (l : List UInt8), Lib.containsAny l chars = false → ∀ b ∈ l, b ∉ chars
  | [], _, b, hb => by cases hb
  | x :: l, h, b, hb => by
    unfold Lib.containsAny at h
    have h := of_decide_eq_false h
    unfold Lib.indexAny at h
    by_cases hx : chars.contains x = true
    · rw [if_pos hx] at h; omega
    · rw [if_neg hx] at h
      rcases List.mem_cons.1 hb with rfl | hb
      · simpa using hx
      · refine oany_mem chars l ?_ b hb
        unfold Lib.containsAny
        refine decide_eq_false ?_
        have hg := Lib.indexAny_ge chars l
        split at h
        · rename_i e; have : Lib.indexAny l chars = -1 := by simpa using e
          omega
        · omega
theorem name_no0 {s : ByteArray} (h : nameF s = true) : ∀ b ∈ s.data.toList, b ≠ 0 := by
  unfold nameF at h
  simp only [Bool.and_eq_true, Bool.not_eq_true'] at h
  intro b hb e
  exact oany_mem _ _ h.1.1.1.2 b hb (by rw [e]; simp)
structure GoodE (e : EnC) : Prop where
  nm : nameF e.nm = true
  md : modF e.m = true
  ok : e.ok
theorem mod_oct {m : Int} (h : modF m = true) : IsOct (octS m) ∧ (octS m).length ≤ 6 ∧ octS m ≠ [] ∧ octG 0 (octS m) = m := by
  unfold modF at h
  simp only [Bool.or_eq_true, decide_eq_true_eq] at h
  rcases h with ((rfl | rfl) | rfl) | rfl
  · refine ⟨fun c hc => ?_, by decide, by decide, by decide⟩
    have : ∀ c ∈ octS 16384, 48 ≤ c ∧ c ≤ 55 := by decide
    exact this c hc
  · refine ⟨fun c hc => ?_, by decide, by decide, by decide⟩
    have : ∀ c ∈ octS 33188, 48 ≤ c ∧ c ≤ 55 := by decide
    exact this c hc
  · refine ⟨fun c hc => ?_, by decide, by decide, by decide⟩
    have : ∀ c ∈ octS 33261, 48 ≤ c ∧ c ≤ 55 := by decide
    exact this c hc
  · refine ⟨fun c hc => ?_, by decide, by decide, by decide⟩
    have : ∀ c ∈ octS 40960, 48 ≤ c ∧ c ≤ 55 := by decide
    exact this c hc
structure TrT (xs : List Int) (es : List EnC) : Prop where
  e : treE es = 0
  l : treL es = xs
  ok : ∀ e ∈ es, e.ok
theorem treE_good {es : List EnC} (h : treE es = 0) (hok : ∀ e ∈ es, e.ok) : ∀ e ∈ es, GoodE e := by
  unfold treE at h
  by_cases h1 : 4096 < es.length ∨ 1048576 < tsF es
  · rw [if_pos h1] at h; omega
  · rw [if_neg h1] at h
    by_cases h2 : es.any noName = true
    · rw [if_pos h2] at h; omega
    · rw [if_neg h2] at h
      by_cases h3 : es.any noMode = true ∨ riB es = false
      · rw [if_pos h3] at h; omega
      · intro e he
        refine ⟨?_, ?_, hok e he⟩
        · cases hn : nameF e.nm with
          | true => rfl
          | false => exact absurd (List.any_eq_true.2 ⟨e, he, by unfold noName; rw [hn]; rfl⟩) h2
        · cases hn : modF e.m with
          | true => rfl
          | false => exact absurd (.inl (List.any_eq_true.2 ⟨e, he, by unfold noMode; rw [hn]; rfl⟩)) h3
theorem treL_cons (e : EnC) (es : List EnC) : treL (e :: es) = entL e ++ treL es := by unfold treL; rw [List.flatMap_cons]
theorem entL_form (e : EnC) (s : List Int) : entL e ++ s = octS e.m ++ 32 :: (strL e.nm ++ 0 :: (e.ids ++ s)) := by unfold entL; simp
theorem entL_ne (e : EnC) (s : List Int) : entL e ++ s ≠ [] := by rw [entL_form]; simp
theorem strOf_strL (s : ByteArray) : strOfNums (strL s) = s := by
  unfold strL strOfNums
  rw [List.map_map]
  have : ((fun n : Int => UInt8.ofNat n.toNat) ∘ fun b : UInt8 => (b.toNat : Int)) = id := by
    funext b
    simp
  rw [this, List.map_id]

/-! The document's reader -/
theorem getD_l {A B : List Int} {j : Nat} (h : j < A.length) : (A ++ B).getD j 0 = A.getD j 0 := by
  simp [List.getD, List.getElem?_append_left h]
theorem getD_r {A B : List Int} {j : Nat} (h : A.length ≤ j) : (A ++ B).getD j 0 = B.getD (j - A.length) 0 := by
  simp [List.getD, List.getElem?_append_right h]
theorem getD_mem {A : List Int} {j : Nat} (h : j < A.length) : A.getD j 0 ∈ A := by
  simp [List.getD, List.getElem?_eq_getElem h]
theorem nx_list {A N I s : List Int} (hA : (32 : Int) ∉ A) (hN : (0 : Int) ∉ N) (hI : I.length = 32) : NxAt (A ++ 32 :: (N ++ 0 :: (I ++ s))) A.length (A.length + 1 + N.length) := by
  refine ⟨by omega, by simp; omega, fun j hj => ?_, ?_, fun j h1 h2 => ?_, ?_⟩
  · rw [getD_l hj]
    intro e
    exact hA (by rw [← e]; exact getD_mem hj)
  · rw [getD_r (Nat.le_refl _), Nat.sub_self]; rfl
  · rw [getD_r h1]
    rcases Nat.lt_or_ge A.length j with h | h
    · obtain ⟨i, hi⟩ : ∃ i, j - A.length = i + 1 := ⟨j - A.length - 1, by omega⟩
      rw [hi, List.getD_cons_succ, getD_l (by omega)]
      intro e
      exact hN (by rw [← e]; exact getD_mem (by omega))
    · rw [show j - A.length = 0 by omega]
      simp
  · rw [getD_r (by omega), show A.length + 1 + N.length - A.length = N.length + 1 by omega, List.getD_cons_succ, getD_r (Nat.le_refl _), Nat.sub_self]
    rfl
theorem nx_q {xs : List Int} {p q q' : Nat} (n : NxAt xs p q) (n' : NxAt xs p q') : q = q' := by
  rcases Nat.lt_trichotomy q q' with k | k | k
  · exact absurd n.is0 (n'.no0 q (by have := n.lt; omega) k)
  · exact k
  · exact absurd n'.is0 (n.no0 q' (by have := n'.lt; omega) k)
theorem nx_at {e : EnC} (h : GoodE e) (s : List Int) : NxAt (entL e ++ s) (octS e.m).length ((octS e.m).length + 1 + (strL e.nm).length) := by
  rw [entL_form]
  refine nx_list (fun hm => ?_) (fun hm => ?_) h.ok.1
  · have := (mod_oct h.md).1 32 hm
    omega
  · unfold strL at hm
    obtain ⟨b, hb, e0⟩ := List.mem_map.1 hm
    refine name_no0 h.nm b hb ?_
    have : b.toNat = 0 := by omega
    exact UInt8.toNat_inj.1 (by rw [this]; rfl)
theorem nx_not_no {e : EnC} (h : GoodE e) (s : List Int) : ¬ NxNo (entL e ++ s) := fun hn => hn _ _ (nx_at h s)
theorem nx_yes {e en : EnC} {s more : List Int} (h : GoodE e) (hy : NxYes (entL e ++ s) en more) : en = e ∧ more = s := by
  obtain ⟨p, q, ha, ho, hn, hi, hm⟩ := hy.out
  have hb := nx_at h s
  have hp : p = (octS e.m).length := nx_p hb.no32 hb.is32 ha
  subst hp
  have hq := nx_q ha hb
  subst hq
  have hoc := mod_oct h.md
  rw [entL_form] at ho hn hi hm
  obtain ⟨A, hA⟩ : ∃ A, octS e.m = A := ⟨_, rfl⟩
  obtain ⟨N, hN⟩ : ∃ N, strL e.nm = N := ⟨_, rfl⟩
  rw [hA] at ho hn hi hm hoc
  rw [hN] at ho hn hi hm
  have t1 : (A ++ 32 :: (N ++ 0 :: (e.ids ++ s))).take A.length = A := by simp
  have t2 : ((A ++ 32 :: (N ++ 0 :: (e.ids ++ s))).drop (A.length + 1)).take (A.length + 1 + N.length - (A.length + 1)) = N := by
    rw [← List.drop_drop, List.drop_left, List.drop_one, List.tail_cons, show A.length + 1 + N.length - (A.length + 1) = N.length by omega, List.take_left]
  have t3 : (A ++ 32 :: (N ++ 0 :: (e.ids ++ s))).drop (A.length + 1 + N.length + 1) = e.ids ++ s := by
    rw [show A.length + 1 + N.length + 1 = A.length + (1 + (N.length + 1)) by omega, ← List.drop_drop, List.drop_left, ← List.drop_drop, List.drop_one, List.tail_cons, ← List.drop_drop, List.drop_left, List.drop_one, List.tail_cons]
  have t4 : (A ++ 32 :: (N ++ 0 :: (e.ids ++ s))).drop (A.length + 1 + N.length + 33) = s := by
    rw [show A.length + 1 + N.length + 33 = (A.length + 1 + N.length + 1) + 32 by omega, ← List.drop_drop, t3, ← h.ok.1, List.drop_left]
  rw [t1] at ho
  rw [t2] at hn
  rw [t3] at hi
  rw [t4] at hm
  refine ⟨?_, hm⟩
  have i1 : en.ids = e.ids := by rw [hi, ← h.ok.1, List.take_left]
  have i2 : en.nm = e.nm := by rw [hn, ← hN, strOf_strL]
  have i3 : en.m = e.m := by rw [ho.eq hoc.1 hoc.2.1, hoc.2.2.2]
  cases en
  cases e
  simp_all

/-! The program's reader -/
theorem u8_back {l : List Int} (h : ∀ c ∈ l, 0 ≤ c ∧ c < 256) : (l.map (fun n => UInt8.ofNat n.toNat)).map (fun b => (b.toNat : Int)) = l := by
  have := strL_strOf h
  unfold strL at this
  rwa [strOfNums_data] at this
theorem rdT_ent {e : EnC} {s : List Int} {es : List EnC} (h : GoodE e) (hr : RdT ((entL e ++ s).map fun n => UInt8.ofNat n.toNat) es) : ∃ es', es = e :: es' ∧ RdT (s.map fun n => UInt8.ofNat n.toNat) es' := by
  have hoc := mod_oct h.md
  rw [entL_form] at hr
  simp only [List.map_append, List.map_cons] at hr
  obtain ⟨A, hA⟩ : ∃ A, (octS e.m).map (fun n => UInt8.ofNat n.toNat) = A := ⟨_, rfl⟩
  obtain ⟨N, hN⟩ : ∃ N, (strL e.nm).map (fun n => UInt8.ofNat n.toNat) = N := ⟨_, rfl⟩
  obtain ⟨I, hI⟩ : ∃ I, e.ids.map (fun n => UInt8.ofNat n.toNat) = I := ⟨_, rfl⟩
  obtain ⟨S, hS⟩ : ∃ S, s.map (fun n => UInt8.ofNat n.toNat) = S := ⟨_, rfl⟩
  rw [hA, hN, hI, hS] at hr
  rw [hS]
  have bA : A.map (fun b => (b.toNat : Int)) = octS e.m := by rw [← hA]; exact u8_back fun c hc => by have := hoc.1 c hc; omega
  have bI : I.map (fun b => (b.toNat : Int)) = e.ids := by rw [← hI]; exact u8_back fun c hc => h.ok.2.1 c hc
  have bN : N = e.nm.data.toList := by
    have := strOf_strL e.nm
    rw [← hN, ← strOfNums_data, this]
  have lA : A.length = (octS e.m).length := by rw [← hA, List.length_map]
  have lI : I.length = 32 := by rw [← hI, List.length_map]; exact h.ok.1
  have nA : (32 : UInt8) ∉ A := fun hm => by
    have : ((32 : UInt8).toNat : Int) ∈ A.map (fun b => (b.toNat : Int)) := List.mem_map.2 ⟨32, hm, rfl⟩
    rw [bA] at this
    have := hoc.1 _ this
    simp at this
  have nN : (0 : UInt8) ∉ N := fun hm => by rw [bN] at hm; exact name_no0 h.nm 0 hm rfl
  have c0 : UInt8.ofNat ((32 : Int)).toNat = 32 := rfl
  have c1 : UInt8.ofNat ((0 : Int)).toNat = 0 := rfl
  rw [c0, c1] at hr
  have k1 := ocut1 32 A (N ++ 0 :: (I ++ S)) nA
  have k2 := ocut1 0 N (I ++ S) nN
  generalize hL : A ++ 32 :: (N ++ 0 :: (I ++ S)) = L at hr k1
  cases hr with
  | nil => simp at hL
  | @cons _ en es' h0 hm hn hi hr =>
    rw [k1] at hm hn hi hr
    simp only at hm hn hi hr
    rw [k2] at hn hi hr
    simp only at hn hi hr
    have i3 : en.m = e.m := by
      have := hm (by rw [bA]; exact hoc.1) (by rw [lA]; have := hoc.2.1; omega) (fun e0 => by rw [e0] at lA; exact hoc.2.2.1 (List.eq_nil_of_length_eq_zero lA.symm))
      rw [this, bA, hoc.2.2.2]
    have i2 : en.nm = e.nm := by rw [hn, bN]
    have i1 : en.ids = e.ids := by
      rw [hi]
      unfold idOf
      rw [← lI, List.take_left, bI]
      have : I.length - (I ++ S).length = 0 := by rw [List.length_append]; omega
      rw [this]
      simp
    have i4 : (I ++ S).drop 32 = S := by rw [← lI, List.drop_left]
    rw [i4] at hr
    refine ⟨es', ?_, hr⟩
    cases en
    cases e
    simp_all
theorem rdT_all : ∀ {es0 es : List EnC}, (∀ e ∈ es0, GoodE e) → RdT ((treL es0).map fun n => UInt8.ofNat n.toNat) es → es = es0
  | [], es, _, hr => by
    cases hr with
    | nil => rfl
    | cons h0 => exact absurd rfl h0
  | e :: es0, es, hg, hr => by
    rw [treL_cons] at hr
    obtain ⟨es', rfl, hr'⟩ := rdT_ent (hg e List.mem_cons_self) hr
    rw [rdT_all (fun x hx => hg x (List.mem_cons_of_mem _ hx)) hr']
def DtEnd (xs : List Int) (R : List EnC) (E : Int) : Prop :=
  (1048576 < xs.length ∧ R = [] ∧ E = 2) ∨ (xs.length ≤ 1048576 ∧ ((TrT xs R ∧ E = 0) ∨ ((∀ es0, ¬ TrT xs es0) ∧ R = [] ∧ E = 4)))
theorem entL_bytes {e : EnC} (h : e.ok) : ∀ c ∈ entL e, 0 ≤ c ∧ c < 256 := by
  intro c hc
  unfold entL at hc
  rcases List.mem_append.1 hc with hc | hc
  · rcases List.mem_append.1 hc with hc | hc
    · rcases List.mem_append.1 hc with hc | hc
      · rcases List.mem_append.1 hc with hc | hc
        · exact octS_bytes h.2.2.1 h.2.2.2.1 c hc
        · simp at hc; omega
      · unfold strL at hc
        obtain ⟨b, -, rfl⟩ := List.mem_map.1 hc
        have := b.toNat_lt
        omega
    · simp at hc; omega
  · exact h.2.1 c hc
theorem treL_bytes {es : List EnC} (h : ∀ e ∈ es, e.ok) : ∀ c ∈ treL es, 0 ≤ c ∧ c < 256 := by
  intro c hc
  unfold treL at hc
  obtain ⟨e, he, hce⟩ := List.mem_flatMap.1 hc
  exact entL_bytes (h e he) c hce
theorem strOf_inj {a b : List Int} (ha : ∀ c ∈ a, 0 ≤ c ∧ c < 256) (hb : ∀ c ∈ b, 0 ≤ c ∧ c < 256) (h : strOfNums a = strOfNums b) : a = b := by
  rw [← strL_strOf ha, ← strL_strOf hb, h]
theorem pt_dp {xs : List Int} {R : List EnC} {E : Int} (hA : AllIn 0 256 xs) (h : PtEnd xs R E) : DtEnd xs R E := by
  rcases h with h | ⟨hl, es, hr, hok, h⟩
  · exact .inl h
  · right
    refine ⟨hl, ?_⟩
    rw [strOfNums_data] at hr
    have hA' : ∀ c ∈ xs, 0 ≤ c ∧ c < 256 := fun c hc => hA c hc
    rcases h with ⟨h1, h2, rfl, rfl⟩ | ⟨h1, rfl, rfl⟩
    · exact .inl ⟨⟨h1, strOf_inj (treL_bytes hok) hA' h2, hok⟩, rfl⟩
    · refine .inr ⟨fun es0 ht => h1 ?_, rfl, rfl⟩
      have hg := treE_good ht.e ht.ok
      rw [← ht.l] at hr
      have := rdT_all hg hr
      subst this
      exact ⟨ht.e, by rw [ht.l]⟩
theorem ent_inj {e f : EnC} {s t : List Int} (he : GoodE e) (hf : GoodE f) (h : entL e ++ s = entL f ++ t) : e = f ∧ s = t := by
  have hoc := mod_oct he.md
  have hr := octG_six _ hoc.1 hoc.2.1
  rw [hoc.2.2.2] at hr
  have hy : NxYes (entL e ++ s) e s := by
    have t1 : (octS e.m ++ 32 :: (strL e.nm ++ 0 :: (e.ids ++ s))).take (octS e.m).length = octS e.m := by simp
    refine ⟨⟨_, _, nx_at he s, ?_, ?_, ?_, ?_⟩⟩
    · rw [entL_form, t1]
      exact ⟨fun _ _ => hoc.2.2.2.symm, by omega, by omega⟩
    · rw [entL_form, ← List.drop_drop, List.drop_left, List.drop_one, List.tail_cons, show (octS e.m).length + 1 + (strL e.nm).length - ((octS e.m).length + 1) = (strL e.nm).length by omega, List.take_left, strOf_strL]
    · rw [entL_form, show (octS e.m).length + 1 + (strL e.nm).length + 1 = (octS e.m).length + (1 + ((strL e.nm).length + 1)) by omega, ← List.drop_drop, List.drop_left, ← List.drop_drop, List.drop_one, List.tail_cons, ← List.drop_drop, List.drop_left, List.drop_one, List.tail_cons, ← he.ok.1, List.take_left]
    · rw [entL_form, show (octS e.m).length + 1 + (strL e.nm).length + 33 = (octS e.m).length + (1 + ((strL e.nm).length + (1 + 32))) by omega, ← List.drop_drop, List.drop_left, ← List.drop_drop, List.drop_one, List.tail_cons, ← List.drop_drop, List.drop_left, ← List.drop_drop, List.drop_one, List.tail_cons, ← he.ok.1, List.drop_left]
  rw [h] at hy
  exact nx_yes hf hy
theorem treL_inj : ∀ {es fs : List EnC}, (∀ e ∈ es, GoodE e) → (∀ e ∈ fs, GoodE e) → treL es = treL fs → es = fs
  | [], [], _, _, _ => rfl
  | [], f :: fs, _, _, h => by rw [treL_cons] at h; exact absurd h.symm (entL_ne f _)
  | e :: es, [], _, _, h => by rw [treL_cons] at h; exact absurd h (entL_ne e _)
  | e :: es, f :: fs, he, hf, h => by
    rw [treL_cons, treL_cons] at h
    obtain ⟨rfl, h2⟩ := ent_inj (he e List.mem_cons_self) (hf f List.mem_cons_self) h
    rw [treL_inj (fun x hx => he x (List.mem_cons_of_mem _ hx)) (fun x hx => hf x (List.mem_cons_of_mem _ hx)) h2]
theorem dp_one {xs : List Int} {R R' : List EnC} {E E' : Int} (h : DtEnd xs R E) (h' : DtEnd xs R' E') : R = R' ∧ E = E' := by
  rcases h with ⟨h1, rfl, rfl⟩ | ⟨h1, h⟩
  · rcases h' with ⟨h1', rfl, rfl⟩ | ⟨h1', h'⟩
    · exact ⟨rfl, rfl⟩
    · omega
  · rcases h' with ⟨h1', rfl, rfl⟩ | ⟨h1', h'⟩
    · omega
    · rcases h with ⟨ht, rfl⟩ | ⟨hn, rfl, rfl⟩
      · rcases h' with ⟨ht', rfl⟩ | ⟨hn', rfl, rfl⟩
        · exact ⟨treL_inj (treE_good ht.e ht.ok) (treE_good ht'.e ht'.ok) (by rw [ht.l, ht'.l]), rfl⟩
        · exact absurd ht (hn' R)
      · rcases h' with ⟨ht', rfl⟩ | ⟨hn', rfl, rfl⟩
        · exact absurd ht' (hn R')
        · exact ⟨rfl, rfl⟩


def slN : Value → Nat
  | .slice _ n _ => n
  | _ => 0
structure RdI (xs : List Int) (es : List EnC) (r : List Int) : Prop where
  bytes : AllIn 0 256 r
  len : es.length ≤ 4096
  rl : r.length ≤ xs.length
  sz : tsF es + (r.length : Int) ≤ (es.length : Int) * 64 + (xs.length : Int)
  nms : ∀ e ∈ es, e.nm.size ≤ xs.length
  tr : ∀ es0, TrT xs es0 → ∃ es1, es0 = es ++ es1 ∧ treL es1 = r
theorem RdI.start {xs : List Int} (h : AllIn 0 256 xs) : RdI xs [] xs :=
  ⟨h, by simp, Nat.le_refl _, by simp [tsF], (fun _ h => by cases h), fun es0 ht => ⟨es0, rfl, ht.l⟩⟩
theorem RdI.head {xs : List Int} {es : List EnC} {r : List Int} (h : RdI xs es r) (h0 : r ≠ []) {es0 : List EnC} (ht : TrT xs es0) : ∃ e es2, es0 = es ++ e :: es2 ∧ r = entL e ++ treL es2 ∧ GoodE e := by
  obtain ⟨es1, h1, h2⟩ := h.tr es0 ht
  cases es1 with
  | nil => exact absurd h2.symm h0
  | cons e es2 => exact ⟨e, es2, h1, by rw [← h2, treL_cons], treE_good ht.e ht.ok e (by rw [h1]; simp)⟩
theorem RdI.no {xs : List Int} {es : List EnC} {r : List Int} (h : RdI xs es r) (h0 : r ≠ []) (hn : NxNo r) : ∀ es0, ¬ TrT xs es0 := fun es0 ht => by
  obtain ⟨e, es2, -, h2, h3⟩ := h.head h0 ht
  rw [h2] at hn
  exact nx_not_no h3 _ hn
theorem RdI.many {xs : List Int} {es : List EnC} {r : List Int} (h : RdI xs es r) (h0 : r ≠ []) (hn : es.length = 4096) : ∀ es0, ¬ TrT xs es0 := fun es0 ht => by
  obtain ⟨e, es2, h1, -, -⟩ := h.head h0 ht
  have := (treE_ok ht.e).1
  rw [h1] at this
  simp at this
  omega
theorem RdI.fin {xs : List Int} {es : List EnC} (h : RdI xs es []) {es0 : List EnC} (ht : TrT xs es0) : es0 = es := by
  obtain ⟨es1, h1, h2⟩ := h.tr es0 ht
  cases es1 with
  | nil => rw [h1, List.append_nil]
  | cons e es2 => rw [treL_cons] at h2; exact absurd h2 (entL_ne e _)
theorem tsF_snoc (es : List EnC) (e : EnC) : tsF (es ++ [e]) = tsF es + (((octS e.m).length : Int) + 1 + (e.nm.size : Int) + 1 + 32) := by
  unfold tsF
  rw [List.map_append, List.sum_append]
  simp
theorem RdI.step {xs : List Int} {es : List EnC} {r more : List Int} {en : EnC} (h : RdI xs es r) (hy : NxYes r en more) (hl : es.length < 4096) : RdI xs (es ++ [en]) more ∧ more.length < r.length := by
  obtain ⟨p, q, ha, ho, hn, hi, hm⟩ := hy.out
  have h1 := ha.lt
  have h2 := ha.room
  have hml : more.length = r.length - (q + 33) := by rw [hm, List.length_drop]
  have hnl : en.nm.size ≤ q - (p + 1) := by rw [hn, strOfNums_size, List.length_take]; omega
  have h0 : r ≠ [] := fun e => by rw [e] at h2; simp at h2
  have h3 := (octS_size en.m).2.1
  have h4 := h.rl
  have h5 := h.sz
  refine ⟨⟨fun x hx => h.bytes x (by rw [hm] at hx; exact List.mem_of_mem_drop hx), by rw [List.length_append]; simp; omega, by omega, ?_, fun e he => ?_, fun es0 ht => ?_⟩, by omega⟩
  · rw [tsF_snoc, List.length_append, List.length_singleton]
    omega
  · rcases List.mem_append.1 he with he | he
    · exact h.nms e he
    · simp at he; rw [he]; omega
  · obtain ⟨e, es2, g1, g2, g3⟩ := h.head h0 ht
    rw [g2] at hy
    obtain ⟨rfl, rfl⟩ := nx_yes g3 hy
    exact ⟨es2, by rw [g1]; simp, rfl⟩
set_option maxHeartbeats 4000000 in
set_option maxRecDepth 100000 in
theorem docParseTree_any (v : Value) (xs : List Int) (w : World) (hg : Gv w) (hr : Rd .u8 anyB w v xs) (hA : AllIn 0 256 xs) :
    Calls Tryz.prog 18 #[v] w fun e w' => ∃ v' R E, e = .returned (.tuple #[v', .int .i64 E]) ∧ OwnE w' w.heap.size v' R ∧ DtEnd xs R E ∧ Below w.heap.size w w' := by
  have KRd := Kept.mk hr
  obtain ⟨a, c, rfl, h1, h2, h3, h4⟩ := hr
  have KG := Kept.mk hg
  have KA := Kept.mk hA
  clear hg h1 h2 h3 h4 hA
  by_cases hl : 1048576 < xs.length
  · have hli : (1048576 : Int) < (xs.length : Int) := by omega
    have KE : Kept (DtEnd xs [] 2) := ⟨.inl ⟨hl, rfl, rfl⟩⟩
    clear hl
    go_enter Tryz.func18, Tryz.ntmps18
    go_wp2
    go_ret2
    exact ⟨_, _, _, rfl, OwnE.nil _ _, KE.out, Below.refl _ _⟩
  · have hli : ¬ (1048576 : Int) < (xs.length : Int) := by omega
    have Kl : Kept (xs.length ≤ 1048576) := ⟨by omega⟩
    clear hl
    go_enter Tryz.func18, Tryz.ntmps18
    go_wp2_with fail
    go_loopw [4, 5] (fun lv rv wr => ∃ es r, OwnE wr w.heap.size lv es ∧ Rd .u8 (fun b => b < w.heap.size) wr rv r ∧ RdI xs es r ∧ Below w.heap.size w wr) (fun _ rv _ => slN rv)
    case atStart => exact ⟨[], xs, OwnE.nil _ _, KRd.out.weak (fun b hb _ => hb), RdI.start KA.out, Below.refl _ _⟩
    case round =>
      obtain ⟨es, r, how, hrd, hri, hbel⟩ := hrel
      have KO := Kept.mk how
      have KR := Kept.mk hrd
      have KI := Kept.mk hri
      have KB := Kept.mk hbel
      obtain ⟨pa, pc, rfl, -⟩ := how.rdE
      obtain ⟨ra, rc, rfl, -⟩ := hrd.form
      have hln := hri.len
      have hrl := hri.rl
      by_cases h0 : 0 < r.length
      · have h0i : (0 : Int) < (r.length : Int) := by omega
        have hne : r ≠ [] := fun e => by rw [e] at h0; simp at h0
        have K1 := Kept.mk (next_any _ r wr hrd hri.bytes h0 (by have := Kl.out; omega))
        clear hrd how hri
        go_wp2_with fail
        refine Calls.mono K1.out (fun e w1 hp => ?_)
        have hfin : Kept (∀ (en : EnC) (mv : Value) (ok : Bool), True) := ⟨fun _ _ _ => trivial⟩
        clear hfin
        rcases hp with ⟨hno, rfl, hb1⟩ | ⟨en, more, rv, hy, hok, rfl, hmr, hb1⟩
        · have KN : Kept (DtEnd xs [] 4) := ⟨.inr ⟨Kl.out, .inr ⟨KI.out.no hne hno, rfl, rfl⟩⟩⟩
          have KBw1 := Kept.mk (KB.out.trans (hb1.mono KB.out.size))
          have KI0 := Kept.mk (e_info e0E_ok)
          have KZ0 := Kept.mk (e_size e0E_ok)
          have KO0 := Kept.mk (e_ones e0E)
          obtain ⟨C0, hC0⟩ : ∃ C0, e0E.l = C0 := ⟨_, rfl⟩
          rw [hC0] at KI0 KZ0 KO0 ⊢
          have hB2 : Below w1.heap.size w1 (w1.alloc (.cells C0.toArray 45)) := (Below.refl _ _).alloc (Nat.le_refl _) _
          have KB2 := Kept.mk (KBw1.out.trans (hB2.mono KBw1.out.size))
          clear hno hb1 hC0 hB2 K1 hbel
          go_upto_region 7 with (refine BigFrame.wpList_want rfl (fun K hK => wp_store_row 45 _ _ rfl w1.heap.size C0.toArray rfl rfl 45 _ (heap_alloc_new w1 _) KI0.out (by rw [KZ0.out]; rfl) KO0.out (hK _ _ ?_)); rw [World.setRow_alloc_new])
          obtain ⟨w2, hw2⟩ : ∃ w2, w1.alloc (.cells C0.toArray 45) = w2 := ⟨_, rfl⟩
          rw [hw2] at KB2 ⊢
          clear hw2
          go_wp2
          go_ret2
          exact ⟨_, [], 4, rfl, OwnE.nil _ _, KN.out, KB2.out⟩
        · have KBw1 := Kept.mk (KB.out.trans (hb1.mono KB.out.size))
          have KI0 := Kept.mk (e_info hok)
          have KI1 : Kept ((Tryz.prog.info? 45).map (·.size) = some en.l.length) := ⟨by rw [EnC.len hok]; kernel_rfl⟩
          have K34 := Kept.mk (EnC.len hok)
          have KZ0 := Kept.mk (e_size hok)
          have KO0 := Kept.mk (e_ones en)
          have Kok := Kept.mk hok
          have KY := Kept.mk hy
          have hB2 : Below w1.heap.size w1 (w1.alloc (.cells en.l.toArray 45)) := (Below.refl _ _).alloc (Nat.le_refl _) _
          have hE2 : EnB (w1.alloc (.cells en.l.toArray 45)) w1.heap.size en := heap_alloc_new w1 _
          obtain ⟨w2, hw2⟩ : ∃ w2, w1.alloc (.cells en.l.toArray 45) = w2 := ⟨_, rfl⟩
          rw [hw2] at hB2 hE2
          have hbr2 := hb1.trans (hB2.mono hb1.size)
          have KB2 := Kept.mk (KB.out.trans (hbr2.mono KB.out.size))
          have KO2 := KO.out.later hbr2 (Nat.le_refl _)
          have KM2 : Kept (Rd .u8 (fun b => b < w.heap.size) w2 rv more) := ⟨hmr.later hbr2 (Nat.le_refl _)⟩
          have KRg2 : Kept (w2.rangeAt w1.heap.size 0 en.l) := ⟨hE2.range⟩
          obtain ⟨w3, hw3⟩ : ∃ w3, w2.alloc (.cells en.l.toArray 45) = w3 := ⟨_, rfl⟩
          have hB3 : Below w2.heap.size w2 w3 := by rw [← hw3]; exact (Below.refl _ _).alloc (Nat.le_refl _) _
          have hE3 : EnB w3 w2.heap.size en := by rw [← hw3]; exact heap_alloc_new w2 _
          have KRg3 : Kept (w3.rangeAt w2.heap.size 0 en.l) := ⟨hE3.range⟩
          have KO3 := Kept.mk (KO2.later hB3 (Nat.le_refl _))
          have KB3 := Kept.mk (KB2.out.trans (hB3.mono KB2.out.size))
          have KM3 : Kept (Rd .u8 (fun b => b < w.heap.size) w3 rv more) := ⟨KM2.out.later hB3 (Nat.le_refl _)⟩
          have Khs3 : Kept (w.heap.size ≤ w3.heap.size) := ⟨KB3.out.size⟩
          have Kw3 := Kept.mk hw3
          obtain ⟨C1, hC1⟩ : ∃ C1, en.l = C1 := ⟨_, rfl⟩
          have KC1 := Kept.mk hC1
          rw [hC1] at KI0 KI1 K34 KZ0 KO0 KRg2 KRg3 Kw3 hw2 ⊢
          obtain ⟨ma, mc, rfl, -⟩ := hmr.form
          clear hy hok hB2 hE2 hb1 hmr KO2 hB3 hE3 hC1 hw3 K1 hbr2 hbel
          go_upto_region 7 with (refine BigFrame.wpList_want rfl (fun K hK => wp_store_row 45 _ _ rfl w1.heap.size C1.toArray rfl rfl 45 _ (heap_alloc_new w1 _) KI0.out (by rw [KZ0.out]; rfl) KO0.out (hK _ _ ?_)); rw [World.setRow_alloc_new])
          try rw [hw2]
          clear hw2
          by_cases h96 : es.length = 4096
          · have KN : Kept (DtEnd xs [] 4) := ⟨.inr ⟨Kl.out, .inr ⟨KI.out.many hne h96, rfl, rfl⟩⟩⟩
            have h96i : (es.length : Int) = 4096 := by omega
            go_wp2
            go_ret2
            exact ⟨_, [], 4, rfl, OwnE.nil _ _, KN.out, KB2.out⟩
          · have h96i : ¬ (es.length : Int) = 4096 := by omega
            have KS := Kept.mk (KI.out.step KY.out (by omega))
            have KLn : Kept ((es.length + 1) * 56 ≤ 140737488355328) := ⟨by omega⟩
            clear hne h96
            go_wp2_with (first | (refine wpList_load_mid rfl 45 _ rfl w1.heap.size 0 rfl C1 _ KRg2.out Tryz.underlying45 rfl KI1.out ?_) | (refine wpList_sliceE rfl _ rfl C1 K34.out rfl ?_; rw [Kw3.out]) | (at_builtin; refine wpList_append_E _ rfl _ _ rfl w.heap.size _ es rfl KO3.out en Kok.out w2.heap.size 1 rfl (by rw [KC1.out]; exact KRg3.out) KLn.out Khs3.out ?_; intro v8 w8 ho8 hg8; have KO8 := Kept.mk ho8; have KG8 := Kept.mk hg8; clear ho8 hg8))
            go_roundw
            case rel =>
              have hb38 : Below w.heap.size w w8 := KB3.out.trans ((Below.refl _ w3).grown KG8.out Khs3.out (fun g hg => (KO3.out.lt g hg).1))
              exact ⟨es ++ [en], more, KO8.out, KM3.out.far KG8.out.size (fun b hb hlt => ⟨hlt, KG8.out.block b hb (fun h => by have := (KO3.out.lt b h.symm).1; omega)⟩), KS.out.1, hb38⟩
            case measure =>
              have := KS.out.2
              simpa [slN] using this
      · obtain rfl : r = [] := List.eq_nil_of_length_eq_zero (by omega)
        have Kf : Kept (∀ es0, TrT xs es0 → es0 = es) := ⟨fun es0 ht => KI.out.fin ht⟩
        have Kts : Kept (tsF es ≤ 100000000) := ⟨by have := KI.out.sz; have := Kl.out; simp at *; omega⟩
        have K1 := Kept.mk (dtree_any _ es wr (KG.out.later hbel) how.rdE (fun e he => by have := KI.out.nms e he; have := Kl.out; omega) (fun _ => Kts.out))
        have Kok : Kept (∀ e ∈ es, e.ok) := ⟨how.2⟩
        have K2 : Kept (∀ W, Below wr.heap.size wr W → Calls Tryz.prog 39 #[.slice pa es.length pc] W fun e w' => ∃ v', e = .returned v' ∧ Own .u8 5 w' W.heap.size v' (treL es) ∧ Below W.heap.size W w') := ⟨fun W hW => dTree_any _ es W ((KG.out.later hbel).later hW) (KO.out.later hW (Nat.le_refl _)).rdE (by have := KI.out.len; omega) Kts.out⟩
        clear how hrd hri hrl
        generalize hE : treE es = E at *
        have KEE := Kept.mk hE
        clear hE
        go_wp2_with fail
        refine Calls.mono K1.out (fun e w1 hp => ?_)
        obtain ⟨rfl, hb1⟩ := hp
        have KBw1 := Kept.mk (KB.out.trans (hb1.mono KB.out.size))
        have KO1 := Kept.mk (KO.out.later hb1 (Nat.le_refl _))
        have K2 := Kept.mk (K2.out w1 hb1)
        clear hb1 K1 hbel
        by_cases hE0 : E = 0
        · subst hE0
          go_wp2_with fail
          refine Calls.mono K2.out (fun e w2 hp => ?_)
          obtain ⟨tv, rfl, hto, hb2⟩ := hp
          have KBw2 := Kept.mk (KBw1.out.trans (hb2.mono KBw1.out.size))
          have KO2 := Kept.mk (KO1.out.later hb2 (Nat.le_refl _))
          have K3 := Kept.mk (Sh.same_any tv _ (treL es) xs w2 (shRd hto.rd (fun x hx => treL_bytes Kok.out x hx)) (shRd (KRd.out.later KBw2.out (Nat.le_refl _)) (fun x hx => KA.out x hx)))
          clear hto hb2 K2
          by_cases hT : treL es = xs
          · have KD : Kept (DtEnd xs es 0) := ⟨.inr ⟨Kl.out, .inl ⟨⟨KEE.out, hT, Kok.out⟩, rfl⟩⟩⟩
            rw [decide_eq_true hT] at K3
            clear hT
            go_wp2_with fail
            refine Calls.mono K3.out (fun e w3 hp => ?_)
            obtain ⟨rfl, rfl⟩ := hp
            go_wp2
            go_ret2
            exact ⟨_, es, 0, rfl, KO2.out, KD.out, KBw2.out⟩
          · have KD : Kept (DtEnd xs [] 4) := ⟨.inr ⟨Kl.out, .inr ⟨fun es0 ht => hT (by rw [← Kf.out es0 ht]; exact ht.l), rfl, rfl⟩⟩⟩
            rw [decide_eq_false hT] at K3
            clear hT
            go_wp2_with fail
            refine Calls.mono K3.out (fun e w3 hp => ?_)
            obtain ⟨rfl, rfl⟩ := hp
            go_wp2
            go_ret2
            exact ⟨_, [], 4, rfl, OwnE.nil _ _, KD.out, KBw2.out⟩
        · have KD : Kept (DtEnd xs [] 4) := ⟨.inr ⟨Kl.out, .inr ⟨fun es0 ht => hE0 (by rw [← KEE.out, ← Kf.out es0 ht]; exact ht.e), rfl, rfl⟩⟩⟩
          go_wp2
          go_ret2
          exact ⟨_, [], 4, rfl, OwnE.nil _ _, KD.out, KBw1.out⟩


theorem exec_neqE {P : Program} (t : TypeId) (hg : P.eqGuardType P.depth t = false) {a : Act} {o : Oper} {x y : Operand} {t' : TypeId} (ho : o.op = .binOp .neq t x y t') {X Y : Array Value} (hx : a.eval x = .agg X) (hy : a.eval y = .agg Y) {q : Bool} {W : World} (hE : (Op.equalIn 10000 t (.agg X) (.agg Y)).run P W = .ok q W) : (execOp a.eval o).run P W = .ok (.value (.bool (!q))) W := by
  unfold execOp
  rw [ho]
  simp only [hx, hy, Sem.run_bind, run_eqGuard_agg W .neq t x y X Y hg, Result.andThen_ok, run_neq_struct W t X Y, hE, Sem.run_pure]
end Go.Proofs.YtkdlhcegimnocaaGreatDoor
