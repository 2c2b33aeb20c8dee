/-
  Pure: sides exchanged; sides that are idle.
-/
import Derived.Test.YtidpdhnbnecddaaM22
namespace Go.Proofs.Ytidpdhnbnecddaa

theorem setF_swap (O A B : List ByteArray) : setF (O, A, B) = setF (O, B, A) := by
  unfold setF
  simp only
  by_cases h1 : A = O
  · by_cases h2 : B = O
    · rw [if_pos h1, if_pos h2, h1, h2]
    · rw [if_pos h1, if_neg h2, if_pos h1]
  · by_cases h2 : B = O
    · rw [if_neg h1, if_pos h2, if_pos h2]
    · rw [if_neg h1, if_neg h2, if_neg h2, if_neg h1]
      by_cases h3 : A = B
      · rw [if_pos h3, if_pos h3.symm, h3]
      · rw [if_neg h3, if_neg (fun e => h3 e.symm)]
/-- Alike but for the sides. -/
def Alk (a b : List Int × Nat) : Prop := a.2 = b.2 ∧ a.1.length = b.1.length ∧ (a.2 = 0 → a.1 = b.1)
theorem pcR_swap (l0 l1 : ByteArray) (O A B : List ByteArray) : Alk (pcR l0 l1 (O, A, B)) (pcR l1 l0 (O, B, A)) := by
  unfold pcR
  rw [← setF_swap O A B]
  cases setF (O, A, B) with
  | some L => exact ⟨rfl, rfl, fun _ => rfl⟩
  | none =>
    refine ⟨rfl, ?_, fun h => by cases h⟩
    unfold pcT
    simp only [List.length_append, nms_length, size_cat]
    have e : mkA.size = mkZ.size := rfl
    omega
theorem dcG_swap (l0 l1 : ByteArray) (O A B : List ByteArray) (X Y : List Int) : ∀ (f x i j k : Nat), Alk (dcG l0 l1 O A B X Y f x i j k) (dcG l1 l0 O B A Y X f x i k j)
  | 0, x, i, j, k => pcR_swap _ _ _ _ _
  | f + 1, x, i, j, k => by
    rw [dcG, dcG]
    by_cases h : X.getD x (-1) = -1 ∨ Y.getD x (-1) = -1
    · rw [if_pos h, if_pos h.symm]
      exact dcG_swap l0 l1 O A B X Y f (x + 1) i j k
    · rw [if_neg h, if_neg (fun e => h e.symm)]
      obtain ⟨p1, p2, p3⟩ := pcR_swap l0 l1 (sg O i x) (sg A j (X.getD x (-1)).toNat) (sg B k (Y.getD x (-1)).toNat)
      obtain ⟨q1, q2, q3⟩ := dcG_swap l0 l1 O A B X Y f (x + 1) (x + 1) ((X.getD x (-1)).toNat + 1) ((Y.getD x (-1)).toNat + 1)
      refine ⟨?_, ?_, fun h0 => ?_⟩
      · simp only
        omega
      · simp only [List.length_append]
        omega
      · simp only at h0 ⊢
        rw [p3 (by omega), q3 (by omega)]
theorem thE_swap (l0 l1 : ByteArray) (x y z : List Int) : thE l0 l1 x y z = thE l1 l0 x z y := by
  unfold thE
  rw [show (bigT x || bigT y || bigT z) = (bigT x || bigT z || bigT y) by cases bigT x <;> cases bigT y <;> cases bigT z <;> rfl, Bool.and_comm]
theorem thM_swap (l0 l1 : ByteArray) (x y z : List Int) : (thM l0 l1 x y z).2 = (thM l1 l0 x z y).2 ∧ ((thM l0 l1 x y z).2.1 = 0 → (thM l0 l1 x y z).1 = (thM l1 l0 x z y).1) := by
  by_cases h : thE l0 l1 x y z = 0
  · have h' := h
    rw [thE_swap] at h'
    rw [thM_good h, thM_good h']
    obtain ⟨a1, a2, a3⟩ := dcG_swap l0 l1 (lnS x) (lnS y) (lnS z) (plP (lnS x) (lnS y)) (plP (lnS x) (lnS z)) (lnS x).length 0 0 0 0
    have b1 : (dcP l0 l1 (lnS x) (lnS y) (lnS z)).2 = (dcP l1 l0 (lnS x) (lnS z) (lnS y)).2 := a1
    have b2 : (dcP l0 l1 (lnS x) (lnS y) (lnS z)).1.length = (dcP l1 l0 (lnS x) (lnS z) (lnS y)).1.length := a2
    have b3 : (dcP l0 l1 (lnS x) (lnS y) (lnS z)).2 = 0 → (dcP l0 l1 (lnS x) (lnS y) (lnS z)).1 = (dcP l1 l0 (lnS x) (lnS z) (lnS y)).1 := a3
    rw [← b2]
    by_cases hl : 1048576 < (dcP l0 l1 (lnS x) (lnS y) (lnS z)).1.length
    · rw [if_pos hl, if_pos hl]
      exact ⟨rfl, fun _ => rfl⟩
    · rw [if_neg hl, if_neg hl]
      refine ⟨by rw [b1], fun h0 => b3 ?_⟩
      simp only at h0
      omega
  · have h' := h
    rw [thE_swap] at h'
    rw [thM_bad rfl h, thM_bad rfl h', thE_swap]
    exact ⟨rfl, fun _ => rfl⟩
/-- The way from a list to itself. -/
theorem way_self : ∀ (us : List ByteArray) (x y : Nat), wayP us us x y = (List.range (us.length + 1)).map fun i => (x + i, y + i)
  | [], x, y => by rw [wayP_end]; rfl
  | u :: us, x, y => by
    have e : stp (u :: us) (u :: us) = (1, 1) := by rw [stp_cons, if_pos rfl]
    rw [wayP_step (u :: us) (u :: us) x y (.inl (by simp)), e]
    simp only [List.drop_succ_cons, List.drop_zero]
    rw [way_self us (x + 1) (y + 1), List.length_cons, List.range_succ_eq_map (n := us.length + 1), List.map_cons, List.map_map]
    congr 1
    apply List.map_congr_left
    intro i _
    simp only [Function.comp, Nat.succ_eq_add_one, Prod.mk.injEq]
    omega
theorem plF_self : ∀ (n x : Nat) (P : List Int), x + n = P.length → (∀ i, i < x → P[i]? = some (i : Int)) → ∀ i, i < P.length → (plF ((List.range (n + 1)).map fun i => (x + i, x + i)) P)[i]? = some (i : Int)
  | 0, x, P, h, hp, i, hi => hp i (by omega)
  | n + 1, x, P, h, hp, i, hi => by
    have e : (List.range (n + 1 + 1)).map (fun i => (x + i, x + i)) = (x, x) :: (List.range (n + 1)).map (fun i => (x + 1 + i, x + 1 + i)) := by
      rw [List.range_succ_eq_map (n := n + 1), List.map_cons, List.map_map]
      congr 1
      apply List.map_congr_left
      intro i _
      simp only [Function.comp, Nat.succ_eq_add_one, Prod.mk.injEq]
      omega
    have e2 : (List.range (n + 1)).map (fun i => (x + 1 + i, x + 1 + i)) = (x + 1, x + 1) :: ((List.range (n + 1)).map (fun i => (x + 1 + i, x + 1 + i))).drop 1 := by
      rw [List.range_succ_eq_map (n := n)]
      rfl
    rw [e, e2, plF, ← e2, if_pos rfl]
    refine plF_self n (x + 1) _ (by simp; omega) (fun k hk => ?_) i (by simpa using hi)
    by_cases hkx : x = k
    · subst hkx
      rw [List.getElem?_set_self (by omega)]
    · rw [List.getElem?_set_ne hkx]
      exact hp k (by omega)
theorem plP_self (O : List ByteArray) (x : Nat) (h : x < O.length) : (plP O O)[x]? = some (x : Int) := by
  unfold plP
  rw [way_self O 0 0]
  have h1 := plF_self O.length 0 (List.replicate O.length (-1)) (by simp) (fun i hi => by omega) x (by simpa using h)
  exact h1
theorem jnd_split (S : List ByteArray) (j y : Nat) (s : ByteArray) (h1 : j ≤ y) (hs : S[y]? = some s) : jnd (S.drop j) = jnd (sg S j y) ++ nms s ++ jnd (S.drop (y + 1)) := by
  have e : S.drop j = sg S j y ++ [s] ++ S.drop (y + 1) := by
    unfold sg
    obtain ⟨hl, hg⟩ := List.getElem?_eq_some_iff.1 hs
    have e1 := List.take_append_drop (y - j) (S.drop j)
    rw [List.drop_drop, show j + (y - j) = y by omega, List.drop_eq_getElem_cons hl, hg] at e1
    rw [List.append_assoc]
    exact e1.symm
  rw [e, jnd_append, jnd_append, jnd_one]
theorem pcR_same (l0 l1 : ByteArray) (O P : List ByteArray) : pcR l0 l1 (O, P, P) = (jnd P, 0) ∧ pcR l0 l1 (O, P, O) = (jnd P, 0) ∧ pcR l0 l1 (O, O, P) = (jnd P, 0) := by
  unfold pcR setF
  simp only
  refine ⟨?_, ?_, ?_⟩
  · by_cases h : P = O
    · rw [if_pos h]
    · rw [if_neg h, if_neg h, if_pos trivial]
  · by_cases h : P = O
    · rw [if_pos h, h]
    · rw [if_neg h, if_pos trivial]
  · rw [if_pos trivial]
/-- Both sides changed the same. -/
theorem dc_both (l0 l1 : ByteArray) (O S : List ByteArray) (X : List Int) (hX : PlI X (O.length, S.length)) (hm : Sm O S X) (hl : X.length = O.length) : ∀ (f x i j : Nat), x + f = O.length → CtI S S X X x i j j → dcG l0 l1 O S S X X f x i j j = (jnd (S.drop j), 0)
  | 0, x, i, j, _, _ => (pcR_same l0 l1 _ _).1
  | f + 1, x, i, j, hx, hc => by
    obtain ⟨y, hy⟩ : ∃ y, X[x]? = some y := ⟨_, List.getElem?_eq_getElem (by omega)⟩
    by_cases h : y = -1
    · rw [dcG_pass hy hy (.inl h)]
      exact dc_both l0 l1 O S X hX hm hl f (x + 1) i j (by omega) hc.pass
    · have h1 := hX.within x y hy h
      have h2 := hc.jx x y (Nat.le_refl _) hy h
      obtain ⟨s, hs, hsS⟩ := hm x y hy h
      obtain ⟨yn, rfl⟩ : ∃ n : Nat, y = n := ⟨y.toNat, by omega⟩
      rw [Int.toNat_natCast] at hsS
      rw [dcG_hit hy hy, (pcR_same l0 l1 _ _).1, dc_both l0 l1 O S X hX hm hl f (x + 1) (x + 1) (yn + 1) (by omega) (CtI.hit hX hX hy hy), List.getD, hs]
      rw [jnd_split S j yn s (by omega) hsS]
      rfl
/-- Theirs changed nothing. -/
theorem dc_ours (l0 l1 : ByteArray) (O S : List ByteArray) (X Y : List Int) (hX : PlI X (O.length, S.length)) (hY : PlI Y (O.length, O.length)) (hm : Sm O S X) (hl : X.length = O.length) (hi : ∀ x, x < O.length → Y[x]? = some (x : Int)) : ∀ (f x i j : Nat), x + f = O.length → CtI S O X Y x i j i → dcG l0 l1 O S O X Y f x i j i = (jnd (S.drop j), 0)
  | 0, x, i, j, _, _ => (pcR_same l0 l1 _ _).2.1
  | f + 1, x, i, j, hx, hc => by
    obtain ⟨y, hy⟩ : ∃ y, X[x]? = some y := ⟨_, List.getElem?_eq_getElem (by omega)⟩
    have hz := hi x (by omega)
    by_cases h : y = -1
    · rw [dcG_pass hy hz (.inl h)]
      exact dc_ours l0 l1 O S X Y hX hY hm hl hi f (x + 1) i j (by omega) hc.pass
    · have h1 := hX.within x y hy h
      have h2 := hc.jx x y (Nat.le_refl _) hy h
      obtain ⟨s, hs, hsS⟩ := hm x y hy h
      obtain ⟨yn, rfl⟩ : ∃ n : Nat, y = n := ⟨y.toNat, by omega⟩
      rw [Int.toNat_natCast] at hsS
      rw [dcG_hit hy hz, (pcR_same l0 l1 _ _).2.1, dc_ours l0 l1 O S X Y hX hY hm hl hi f (x + 1) (x + 1) (yn + 1) (by omega) (CtI.hit hX hY hy hz), List.getD, hs]
      rw [jnd_split S j yn s (by omega) hsS]
      rfl
theorem dcP_both (l0 l1 : ByteArray) (O S : List ByteArray) : dcP l0 l1 O S S = (jnd S, 0) :=
  dc_both l0 l1 O S _ (plP_ok O S) (plP_sm O S) (plP_len O S) O.length 0 0 0 (by omega) (CtI.start (plP_ok O S) (plP_ok O S))
theorem dcP_ours (l0 l1 : ByteArray) (O S : List ByteArray) : dcP l0 l1 O S O = (jnd S, 0) :=
  dc_ours l0 l1 O S _ _ (plP_ok O S) (plP_ok O O) (plP_sm O S) (plP_len O S) (plP_self O) O.length 0 0 0 (by omega) (CtI.start (plP_ok O S) (plP_ok O O))
theorem dcP_theirs (l0 l1 : ByteArray) (O S : List ByteArray) : dcP l0 l1 O O S = (jnd S, 0) := by
  obtain ⟨a1, -, a3⟩ := dcG_swap l0 l1 O O S (plP O O) (plP O S) O.length 0 0 0 0
  have h := dcP_ours l1 l0 O S
  have e1 : (dcP l0 l1 O O S).2 = (dcP l1 l0 O S O).2 := a1
  have e3 : (dcP l0 l1 O O S).2 = 0 → (dcP l0 l1 O O S).1 = (dcP l1 l0 O S O).1 := a3
  rw [h] at e1 e3
  exact Prod.ext (e3 e1) e1
theorem jnd_back {x : List Int} (h : AllB x) : jnd (lnS x) = x := by
  have e : (lnS x).map nms = lnsF x := by
    unfold lnS
    rw [List.map_map]
    refine (List.map_congr_left (fun y hy => ?_)).trans (List.map_id _)
    have hy' : AllB y := fun z hz => h z (by rw [← lnsF_join x]; exact List.mem_flatten.2 ⟨y, hy, hz⟩)
    exact nms_sn hy'
  unfold jnd
  rw [e, lnsF_join]
theorem idle_all (l0 l1 : ByteArray) (o a : List Int) (h : AllB a) (bo : bigT o = false) (ba : bigT a = false) (k0 : okL l0 = true) (k1 : okL l1 = true) :
    thM l0 l1 o o a = (a, 0, 0) ∧ thM l0 l1 o a o = (a, 0, 0) ∧ thM l0 l1 o a a = (a, 0, 0) := by
  have hl := (bigT_no ba).1
  refine ⟨?_, ?_, ?_⟩
  · rw [thM_good (by unfold thE; rw [bo, ba, k0, k1]; rfl), dcP_theirs, jnd_back h]
    exact if_neg (by show ¬ 1048576 < a.length; omega)
  · rw [thM_good (by unfold thE; rw [bo, ba, k0, k1]; rfl), dcP_ours, jnd_back h]
    exact if_neg (by show ¬ 1048576 < a.length; omega)
  · rw [thM_good (by unfold thE; rw [bo, ba, k0, k1]; rfl), dcP_both, jnd_back h]
    exact if_neg (by show ¬ 1048576 < a.length; omega)
end Go.Proofs.Ytidpdhnbnecddaa
