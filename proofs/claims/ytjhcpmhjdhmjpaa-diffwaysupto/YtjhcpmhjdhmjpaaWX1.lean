/-
  What is told of two texts whose lines all end (pure).
-/
import Derived.Test.YtjhcpmhjdhmjpaaVM
import Derived.Test.YtjhcpmhjdhmjpaaLX6
namespace Go.Proofs.Ytjhcpmhjdhmjpaa
open Go.RowKit

def strL (s : ByteArray) : List Int := s.data.toList.map fun b => (b.toNat : Int)
theorem strL_length (s : ByteArray) : (strL s).length = s.size := by rw [strL, List.length_map, Lib.size_eq]
/-- A line that ends. -/
def ClS (s : ByteArray) : Prop := ∃ t, s.data.toList = t ++ [10] ∧ (10 : UInt8) ∉ t
theorem tl_cl {sg : UInt8} {s : ByteArray} (h : ClS s) : tl sg s = sg :: s.data.toList := by
  obtain ⟨t, ht, -⟩ := h
  have hs : Lib.hasSuffix s.data.toList [10] = true := by
    unfold Lib.hasSuffix
    rw [List.isSuffixOf_iff_suffix, ht]
    exact ⟨t, rfl⟩
  unfold tl
  rw [if_pos hs, List.append_nil]
/-- A way, told line by line. -/
def tlW (a b : List ByteArray) : List Pt → List (List UInt8)
  | p :: q :: r => tlS a b p q :: tlW a b (q :: r)
  | _ => []
theorem tlW_one (a b : List ByteArray) (p : Pt) : tlW a b [p] = [] := by rw [tlW]; intro _ _ _ h; cases h
theorem txP_flat (a b : List ByteArray) : ∀ (r : List Pt) (p : Pt), txP a b (p :: r) = (tlW a b (p :: r)).flatten
  | [], p => by
    rw [tlW_one, txP]
    · rfl
    · intro _ _ _ h; cases h
  | q :: r, p => by rw [txP, tlW, List.flatten_cons, txP_flat a b r q]
def flB (L : List ByteArray) : List UInt8 := (L.map fun s => s.data.toList).flatten
def adA : List UInt8 → List UInt8
  | sg :: t => if sg = 43 then [] else t
  | [] => []
def adB : List UInt8 → List UInt8
  | sg :: t => if sg = 45 then [] else t
  | [] => []
def adC : List UInt8 → Nat
  | sg :: _ => if sg = 32 then 0 else 1
  | [] => 0
def sdA (L : List (List UInt8)) : List UInt8 := (L.map adA).flatten
def sdB (L : List (List UInt8)) : List UInt8 := (L.map adB).flatten
def sdC : List (List UInt8) → Nat
  | [] => 0
  | l :: r => adC l + sdC r
theorem sdC_snoc : ∀ (L : List (List UInt8)) (l : List UInt8), sdC (L ++ [l]) = sdC L + adC l
  | [], l => by simp [sdC]
  | x :: r, l => by rw [List.cons_append, sdC, sdC, sdC_snoc r l]; omega
theorem sdC_le : ∀ L : List (List UInt8), sdC L ≤ L.length
  | [] => Nat.le_refl _
  | l :: r => by
    have h1 := sdC_le r
    have h2 : adC l ≤ 1 := by
      cases l with
      | nil => exact Nat.zero_le _
      | cons x t =>
        show (if x = 32 then 0 else 1) ≤ 1
        split <;> omega
    rw [sdC, List.length_cons]
    omega
/-- A told line. -/
def TlOk (l : List UInt8) : Prop := ∃ sg s, l = sg :: s ∧ (sg = 32 ∨ sg = 45 ∨ sg = 43) ∧ ∃ t, s = t ++ [10] ∧ (10 : UInt8) ∉ t
theorem told_all (a b : List ByteArray) (hca : ∀ s ∈ a, ClS s) (hcb : ∀ s ∈ b, ClS s) : ∀ (us vs : List ByteArray) (x y : Nat), a.drop x = us → b.drop y = vs →
    (∀ l ∈ tlW a b (wayP us vs x y), TlOk l) ∧ sdA (tlW a b (wayP us vs x y)) = flB us ∧ sdB (tlW a b (wayP us vs x y)) = flB vs ∧ sdC (tlW a b (wayP us vs x y)) = rst us vs := by
  have go : ∀ (p q : Pt) (r : List Pt) (sg : UInt8) (s : ByteArray) (W : List Pt) (A B : List UInt8) (C : Nat), W = q :: r → ClS s → tlS a b p q = tl sg s → (sg = 32 ∨ sg = 45 ∨ sg = 43) →
      ((∀ l ∈ tlW a b W, TlOk l) ∧ sdA (tlW a b W) = A ∧ sdB (tlW a b W) = B ∧ sdC (tlW a b W) = C) →
      (∀ l ∈ tlW a b (p :: W), TlOk l) ∧ sdA (tlW a b (p :: W)) = (if sg = 43 then [] else s.data.toList) ++ A ∧ sdB (tlW a b (p :: W)) = (if sg = 45 then [] else s.data.toList) ++ B ∧ sdC (tlW a b (p :: W)) = (if sg = 32 then 0 else 1) + C := by
    intro p q r sg s W A B C hW hs ht hsg ⟨h1, h2, h3, h4⟩
    have e : tlW a b (p :: W) = (sg :: s.data.toList) :: tlW a b W := by rw [hW, tlW, ht, tl_cl hs]
    rw [e]
    refine ⟨fun l hl => ?_, ?_, ?_, ?_⟩
    · rcases List.mem_cons.1 hl with rfl | hl
      · obtain ⟨t, e1, e2⟩ := hs
        exact ⟨sg, _, rfl, hsg, t, e1, e2⟩
      · exact h1 l hl
    · unfold sdA; rw [List.map_cons, List.flatten_cons]; show adA _ ++ sdA _ = _; rw [h2]; rfl
    · unfold sdB; rw [List.map_cons, List.flatten_cons]; show adB _ ++ sdB _ = _; rw [h3]; rfl
    · rw [sdC, h4]; rfl
  intro us vs x y hu hv
  induction us, vs, x, y using wayP.induct with
  | case1 x y =>
    rw [wayP_end]
    rw [tlW_one]
    exact ⟨fun l hl => (by cases hl), rfl, rfl, by rw [rst_nil]; rfl⟩
  | case2 u us x y ih =>
    obtain ⟨g1, g2, g3⟩ := drop_get hu
    obtain ⟨r, hr⟩ := wayP_head us ([] : List ByteArray) (x + 1) y
    have h := go (x, y) (x + 1, y) r 45 u _ _ _ _ hr (hca u (List.mem_of_getElem? g1)) (by unfold tlS; rw [if_neg (by simp), if_pos rfl]; simp only; rw [g1]; rfl) (by simp) (ih g3 hv)
    rw [wayP]
    rw [if_neg (by decide), if_pos rfl, if_neg (by decide)] at h
    refine ⟨h.1, h.2.1, ?_, ?_⟩
    · rw [h.2.2.1]; rfl
    · rw [h.2.2.2, rst_nil2, rst_nil2]; simp; omega
  | case3 v vs x y ih =>
    obtain ⟨g1, g2, g3⟩ := drop_get hv
    obtain ⟨r, hr⟩ := wayP_head ([] : List ByteArray) vs x (y + 1)
    have h := go (x, y) (x, y + 1) r 43 v _ _ _ _ hr (hcb v (List.mem_of_getElem? g1)) (by unfold tlS; rw [if_neg (by simp), if_neg (by simp)]; simp only; rw [g1]; rfl) (by simp) (ih hu g3)
    rw [wayP]
    rw [if_pos rfl, if_neg (by decide), if_neg (by decide)] at h
    refine ⟨h.1, ?_, h.2.2.1, ?_⟩
    · rw [h.2.1]; rfl
    · rw [h.2.2.2, rst_nil, rst_nil]; simp; omega
  | case4 u us v vs x y ih3 ih2 ih1 =>
    obtain ⟨g1, g2, g3⟩ := drop_get hu
    obtain ⟨k1, k2, k3⟩ := drop_get hv
    rw [wayP, rst_cons]
    by_cases e : u = v
    · obtain ⟨r, hr⟩ := wayP_head us vs (x + 1) (y + 1)
      have h := go (x, y) (x + 1, y + 1) r 32 u _ _ _ _ hr (hca u (List.mem_of_getElem? g1)) (by unfold tlS; rw [if_pos rfl]; simp only; rw [g1]; rfl) (by simp) (ih3 g3 k3)
      rw [if_neg (by decide), if_neg (by decide), if_pos rfl, Nat.zero_add] at h
      rw [if_pos e, if_pos e]
      refine ⟨h.1, h.2.1, ?_, h.2.2.2⟩
      rw [h.2.2.1, e]
      rfl
    · rw [if_neg e, if_neg e]
      by_cases hle : rst us (v :: vs) ≤ rst (u :: us) vs
      · obtain ⟨r, hr⟩ := wayP_head us (v :: vs) (x + 1) y
        have h := go (x, y) (x + 1, y) r 45 u _ _ _ _ hr (hca u (List.mem_of_getElem? g1)) (by unfold tlS; rw [if_neg (by simp), if_pos rfl]; simp only; rw [g1]; rfl) (by simp) (ih2 g3 hv)
        rw [if_neg (by decide), if_pos rfl, if_neg (by decide), List.nil_append] at h
        rw [if_pos hle, Nat.min_eq_left hle]
        exact ⟨h.1, h.2.1, h.2.2.1, h.2.2.2⟩
      · obtain ⟨r, hr⟩ := wayP_head (u :: us) vs x (y + 1)
        have h := go (x, y) (x, y + 1) r 43 v _ _ _ _ hr (hcb v (List.mem_of_getElem? k1)) (by unfold tlS; rw [if_neg (by simp), if_neg (by simp)]; simp only; rw [k1]; rfl) (by simp) (ih1 hu k3)
        rw [if_pos rfl, if_neg (by decide), if_neg (by decide), List.nil_append] at h
        rw [if_neg hle, Nat.min_eq_right (by omega)]
        exact ⟨h.1, h.2.1, h.2.2.1, h.2.2.2⟩
/-- Bytes as numbers. -/
def nmL (l : List UInt8) : List Int := l.map fun b => (b.toNat : Int)
theorem nmL_app (l m : List UInt8) : nmL (l ++ m) = nmL l ++ nmL m := by unfold nmL; rw [List.map_append]
theorem nmL_len (l : List UInt8) : (nmL l).length = l.length := by unfold nmL; rw [List.length_map]
theorem nmL_ten {l : List UInt8} (h : (10 : UInt8) ∉ l) : (10 : Int) ∉ nmL l := by
  intro hm
  obtain ⟨b, hb, e⟩ := List.mem_map.1 hm
  have h2 : b.toNat = 10 := by omega
  have h3 : b = 10 := by apply UInt8.toNat_inj.1; rw [h2]; rfl
  exact h (h3 ▸ hb)
theorem nmL_all (l : List UInt8) : AllB (nmL l) := by
  intro x hx
  obtain ⟨b, hb, rfl⟩ := List.mem_map.1 hx
  have := b.toNat_lt
  omega
theorem str_nmL (l : List UInt8) : strOfNums (nmL l) = ⟨l.toArray⟩ := by
  have e : l.map ((fun n : Int => UInt8.ofNat n.toNat) ∘ fun b : UInt8 => (b.toNat : Int)) = l := by
    have : (fun n : Int => UInt8.ofNat n.toNat) ∘ (fun b : UInt8 => (b.toNat : Int)) = id := by funext b; simp
    rw [this, List.map_id]
  unfold strOfNums nmL
  rw [List.map_map, e]
theorem lnE_cl {b r : List Int} (h : (10 : Int) ∉ b) : lnE (b ++ [10] ++ r) = b.length + 1 := by
  refine lnE_hit (k := b.length) (fun j hj e => h ?_) (by simp)
  rw [List.append_assoc, List.getElem?_append_left hj] at e
  exact List.mem_of_getElem? e
/-- Lines that all end are the lines of what they make. -/
theorem lnsF_cl : ∀ (L : List (List Int)), (∀ l ∈ L, ∃ b, l = b ++ [10] ∧ (10 : Int) ∉ b) → lnsF L.flatten = L
  | [], _ => rfl
  | l :: L, h => by
    obtain ⟨b, rfl, hb⟩ := h l List.mem_cons_self
    rw [List.flatten_cons, lnsF_step (by simp), lnE_cl hb]
    have e1 : ((b ++ [10]) ++ L.flatten).take (b.length + 1) = b ++ [10] := by
      rw [List.take_append_of_le_length (by simp), List.take_of_length_le (by simp)]
    have e2 : ((b ++ [10]) ++ L.flatten).drop (b.length + 1) = L.flatten := by
      rw [List.drop_append_of_le_length (by simp), List.drop_of_length_le (by simp), List.nil_append]
    rw [e1, e2, lnsF_cl L (fun l hl => h l (List.mem_cons_of_mem _ hl))]
/-- The lines of a told text. -/
theorem lnS_told {L : List (List UInt8)} (h : ∀ l ∈ L, TlOk l) : lnS (nmL L.flatten) = L.map fun l => ⟨l.toArray⟩ := by
  have e : nmL L.flatten = (L.map nmL).flatten := by unfold nmL; rw [List.map_flatten]
  unfold lnS
  rw [e, lnsF_cl _ (fun l hl => ?_), List.map_map]
  · apply List.map_congr_left
    intro l _
    exact str_nmL l
  · obtain ⟨m, hm, rfl⟩ := List.mem_map.1 hl
    obtain ⟨sg, s, rfl, hsg, t, rfl, ht⟩ := h m hm
    refine ⟨nmL (sg :: t), by rw [← List.cons_append, nmL_app]; rfl, nmL_ten (fun hm2 => ?_)⟩
    rcases List.mem_cons.1 hm2 with e2 | e2
    · rw [← e2] at hsg; revert hsg; decide
    · exact ht e2
theorem lnsF_ends : ∀ {xs : List Int}, (xs = [] ∨ xs.getLast? = some 10) → ∀ l ∈ lnsF xs, ∃ b, l = b ++ [10] ∧ (10 : Int) ∉ b
  | [], _, l, hl => by cases hl
  | x :: r, h, l, hl => by
    have hr : r = [] ∨ r.getLast? = some 10 := by
      cases r with
      | nil => exact .inl rfl
      | cons y s =>
        rcases h with h | h
        · cases h
        · rw [List.getLast?_cons_cons] at h; exact .inr h
    rw [lnsF] at hl
    by_cases e : x = 10
    · rw [if_pos e] at hl
      rcases List.mem_cons.1 hl with rfl | hl
      · exact ⟨[], by rw [e]; rfl, by simp⟩
      · exact lnsF_ends hr l hl
    · rw [if_neg e] at hl
      cases hc : lnsF r with
      | nil =>
        have hr0 : r = [] := by
          have := lnsF_join r
          rw [hc] at this
          exact this.symm
        rw [hr0] at h
        rcases h with h | h
        · cases h
        · simp at h; exact absurd h e
      | cons m ms =>
        rw [hc] at hl
        have ih := lnsF_ends hr
        rw [hc] at ih
        rcases List.mem_cons.1 hl with rfl | hl
        · obtain ⟨b, hb, hb2⟩ := ih m List.mem_cons_self
          refine ⟨x :: b, by rw [hb]; rfl, fun hm => ?_⟩
          rcases List.mem_cons.1 hm with h1 | h1
          · exact e h1.symm
          · exact hb2 h1
        · exact ih l (List.mem_cons_of_mem _ hl)
theorem lnS_cl {xs : List Int} (hx : AllB xs) (h : xs = [] ∨ xs.getLast? = some 10) : ∀ s ∈ lnS xs, ClS s := by
  intro s hs
  obtain ⟨l, hl, rfl⟩ := List.mem_map.1 hs
  obtain ⟨b, rfl, hb⟩ := lnsF_ends h l hl
  refine ⟨b.map fun n => UInt8.ofNat n.toNat, by rw [strOfNums_data, List.map_append]; rfl, fun hm => ?_⟩
  obtain ⟨x, hxb, e⟩ := List.mem_map.1 hm
  have hin : x ∈ xs := by
    rw [← lnsF_join xs]
    exact List.mem_flatten.2 ⟨_, hl, List.mem_append_left _ hxb⟩
  have hb2 := hx x hin
  have h3 := byte_ten hb2.1 hb2.2
  rw [e] at h3
  have h4 : decide (x = 10) = true := by rw [← h3]; rfl
  exact hb ((of_decide_eq_true h4) ▸ hxb)
theorem flB_lnS (xs : List Int) : (⟨(flB (lnS xs)).toArray⟩ : ByteArray) = strOfNums xs := by
  apply ByteArray.ext
  unfold flB lnS
  rw [List.map_map]
  have e : (fun s : ByteArray => s.data.toList) ∘ strOfNums = fun l : List Int => l.map fun n => UInt8.ofNat n.toNat := by
    funext l
    exact strOfNums_data l
  rw [e, ← List.map_flatten, lnsF_join]
  rfl
end Go.Proofs.Ytjhcpmhjdhmjpaa
