/-
  Walks of the document: DocParseIdent.
-/
import Derived.Test.YtkbalngddlhlpaaGreatDoorN21
import Derived.Test.YtkbalngddlhlpaaGreatDoorQ3
import Derived.Deep.RegionHeld3
namespace Go.Proofs.YtkbalngddlhlpaaGreatDoor
open Go.RowKit

structure Fst (s : ByteArray) (c : Int) (f p : Nat) : Prop where
  lo : f ≤ p
  hi : p ≤ s.size
  no : ∀ j, f ≤ j → j < p → sN s j ≠ c
  at' : p < s.size → sN s p = c
def gF (s : ByteArray) (p q : Nat) : Option Idt :=
  if s.size < 6 ∨ p < 1 ∨ s.size < q + 8 then none
  else if nmF (s.extract (s.size - 4) s.size) < 0 then none
  else some ⟨s.extract 0 (p - 1), s.extract (p + 1) q, nmF (s.extract (q + 2) (s.size - 6)),
    if sN s (s.size - 5) = 45 then -((nmF (s.extract (s.size - 4) s.size)) / 100 * 60 + nmF (s.extract (s.size - 4) s.size) % 100) else (nmF (s.extract (s.size - 4) s.size)) / 100 * 60 + nmF (s.extract (s.size - 4) s.size) % 100⟩


theorem fst_one {s : ByteArray} {c : Int} {f p p' : Nat} (h : Fst s c f p) (g : Fst s c f p') : p = p' := by
  rcases Nat.lt_trichotomy p p' with k | k | k
  · exact absurd (h.at' (Nat.lt_of_lt_of_le k g.hi)) (g.no p h.lo k)
  · exact k
  · exact absurd (g.at' (Nat.lt_of_lt_of_le k h.hi)) (h.no p' g.lo k)
def nmL (v : Int) : List UInt8 → Int
  | [] => v
  | c :: l => if 48 ≤ (c.toNat : Int) ∧ (c.toNat : Int) ≤ 57 then nmL (10 * v + ((c.toNat : Int) - 48)) l else -1
theorem sN_list (s : ByteArray) (k : Nat) (c : UInt8) (h : s.data.toList[k]? = some c) : sN s k = (c.toNat : Int) := by
  have hk : k < s.size := by
    have := (List.getElem?_eq_some_iff.1 h).1
    simpa using this
  exact (sN_eq s c hk).2 h
theorem nmGo_list (s : ByteArray) : ∀ (l : List UInt8) (k : Nat) (v : Int), s.data.toList.drop k = l → nmGo s v k l.length = nmL v l
  | [], k, v, _ => rfl
  | c :: l, k, v, h => by
    have hc : s.data.toList[k]? = some c := by
      have := congrArg (fun q => q[0]?) h
      simpa using this
    have hd : s.data.toList.drop (k + 1) = l := by
      have := congrArg List.tail h
      simpa using this
    rw [List.length_cons, nmGo, sN_list s k c hc, nmL]
    split
    · exact nmGo_list s l (k + 1) _ hd
    · rfl
theorem nmF_list {s : ByteArray} {l : List UInt8} (h : s.data.toList = l) (h0 : l ≠ []) (h1 : l.length ≤ 13) : nmF s = nmL 0 l := by
  have hz : s.size = l.length := by rw [Lib.size_eq, h]
  have hl : 0 < l.length := List.length_pos_iff.2 h0
  unfold nmF
  rw [if_neg (by omega), hz]
  exact nmGo_list s l 0 0 (by simpa using h)
theorem nmL_app : ∀ (l r : List UInt8) (v : Int), (∀ b ∈ l, 48 ≤ b.toNat ∧ b.toNat ≤ 57) → nmL v (l ++ r) = nmL (nmL v l) r
  | [], _, _, _ => rfl
  | c :: l, r, v, h => by
    have hc := h c List.mem_cons_self
    rw [List.cons_append, nmL, nmL, if_pos (by omega), if_pos (by omega)]
    exact nmL_app l r _ (fun b hb => h b (List.mem_cons_of_mem _ hb))
theorem nmL_one {d : Nat} (h : d < 10) (v : Int) : nmL v [UInt8.ofNat (48 + d)] = 10 * v + d := by
  rw [nmL, dig_nat h, if_pos (by omega), nmL]
  omega
theorem nmL_dec : ∀ (n u : Nat), u < n → nmL 0 (Lib.decDigits u) = (u : Int)
  | 0, u, h => by omega
  | n + 1, u, h => by
    by_cases h10 : u < 10
    · rw [Lib.decDigits_one h10, nmL_one h10]
      omega
    · rw [dec_step h10, nmL_app _ _ _ (dec_mem n (u / 10) (by omega)), nmL_dec n (u / 10) (by omega), nmL_one (by omega)]
      omega
theorem nmL_zl (a : Nat) (h : a ≤ 1439) : nmL 0 (zl a) = ((a / 60 * 100 + a % 60 : Nat) : Int) := by
  unfold zl
  obtain ⟨x, hx⟩ : ∃ x, a / 60 * 100 + a % 60 = x := ⟨_, rfl⟩
  rw [hx]
  rw [nmL, dig_nat (by omega), if_pos (by omega), nmL, dig_nat (by omega), if_pos (by omega), nmL, dig_nat (by omega), if_pos (by omega), nmL, dig_nat (by omega), if_pos (by omega), nmL]
  omega
theorem extract_list (s : ByteArray) (a b : Nat) : (s.extract a b).data.toList = (s.data.toList.take b).drop a := by
  rw [ByteArray.data_extract, Array.toList_extract, List.extract_eq_take_drop, List.drop_take]
theorem mid (X Y Z : List UInt8) (a b : Nat) (ha : a = X.length) (hb : b = X.length + Y.length) : ((X ++ (Y ++ Z)).take b).drop a = Y := by
  subst ha hb
  rw [← List.append_assoc, List.take_left' (by simp), List.drop_left' rfl]
theorem put_list {i : Idt} (h : idF i = true) : (putB i).data.toList = i.nm.data.toList ++ (32 :: 60 :: (i.em.data.toList ++ (62 :: 32 :: (Lib.decDigits i.tm.toNat ++ (32 :: ((if i.zn < 0 then 45 else 43) :: zl i.zn.natAbs)))))) := by
  unfold idF at h
  simp only [Bool.and_eq_true, decide_eq_true_eq] at h
  unfold putB
  simp only [ByteArray.data_append, Array.toList_append, zone_list h.1.2 h.2, Lib.itoa]
  rw [if_neg (by omega)]
  simp
theorem guess {i : Idt} (h : idF i = true) {s : ByteArray} (hsi : putB i = s) {p q : Nat} (hp : Fst s 60 0 p) (hq : Fst s 62 p q) : gF s p q = some i := by
  have hL := put_list h
  rw [hsi] at hL
  unfold idF at h
  simp only [Bool.and_eq_true, decide_eq_true_eq] at h
  obtain ⟨⟨⟨⟨⟨w1, w2⟩, t0⟩, t1⟩, z0⟩, z1⟩ := h
  obtain ⟨nm, em, tm, zn⟩ := i
  simp only at *
  have wa := (who_mem w1).1
  have we := (who_mem w2).2
  obtain ⟨A, hA⟩ : ∃ A, nm.data.toList = A := ⟨_, rfl⟩
  obtain ⟨E, hE⟩ : ∃ E, em.data.toList = E := ⟨_, rfl⟩
  obtain ⟨T, hT⟩ : ∃ T, Lib.decDigits tm.toNat = T := ⟨_, rfl⟩
  obtain ⟨g, hg⟩ : ∃ g : UInt8, (if zn < 0 then 45 else 43) = g := ⟨_, rfl⟩
  rw [hA] at wa
  rw [hE] at we
  rw [hA, hE, hT, hg] at hL
  have hzl : (zl zn.natAbs).length = 4 := rfl
  have hTl : T.length ≤ 13 := by
    rw [← hT, Lib.decDigits_length]
    exact ndig_le _ 13 (by omega) (by omega)
  have hT1 : T ≠ [] := by
    rw [← hT]
    obtain ⟨c, r, e, -⟩ := dec_head tm.toNat
    rw [e]
    simp
  have hT0 : 0 < T.length := List.length_pos_iff.2 hT1
  have hz : s.size = A.length + E.length + T.length + 10 := by
    rw [Lib.size_eq, hL]
    simp only [List.length_append, List.length_cons, hzl]
    omega
  have hF1 : Fst s 60 0 (A.length + 1) := by
    refine ⟨by omega, by omega, fun j _ hj => ?_, fun _ => ?_⟩
    · rcases Nat.lt_or_ge j A.length with k | k
      · have e : s.data.toList[j]? = some A[j] := by rw [hL, List.getElem?_append_left k, List.getElem?_eq_getElem k]
        rw [sN_list s j _ e]
        intro hc
        have : A[j] = 60 := UInt8.toNat_inj.1 (by show A[j].toNat = 60; have hc' : (A[j].toNat : Int) = 60 := hc; omega)
        exact wa (this ▸ List.getElem_mem k)
      · have ej : j = A.length := by omega
        have e : s.data.toList[j]? = some 32 := by rw [hL, ej, List.getElem?_append_right (Nat.le_refl _)]; simp
        rw [sN_list s j _ e]
        decide
    · have e : s.data.toList[A.length + 1]? = some 60 := by rw [hL, List.getElem?_append_right (by omega)]; simp
      rw [sN_list s _ _ e]
      rfl
  obtain rfl := fst_one hp hF1
  have hF2 : Fst s 62 (A.length + 1) (A.length + 2 + E.length) := by
    refine ⟨by omega, by omega, fun j h1 hj => ?_, fun _ => ?_⟩
    · rcases Nat.lt_or_ge j (A.length + 2) with k | k
      · have ej : j = A.length + 1 := by omega
        have e : s.data.toList[j]? = some 60 := by rw [hL, ej, List.getElem?_append_right (by omega)]; simp
        rw [sN_list s j _ e]
        decide
      · obtain ⟨m, rfl⟩ : ∃ m, j = A.length + 2 + m := ⟨j - (A.length + 2), by omega⟩
        have hm : m < E.length := by omega
        have e : s.data.toList[A.length + 2 + m]? = some E[m] := by
          rw [hL, List.getElem?_append_right (by omega), show A.length + 2 + m - A.length = m + 1 + 1 by omega, List.getElem?_cons_succ, List.getElem?_cons_succ, List.getElem?_append_left hm, List.getElem?_eq_getElem hm]
        rw [sN_list s _ _ e]
        intro hc
        have : E[m] = 62 := UInt8.toNat_inj.1 (by show E[m].toNat = 62; have hc' : (E[m].toNat : Int) = 62 := hc; omega)
        exact we (this ▸ List.getElem_mem hm)
    · have e : s.data.toList[A.length + 2 + E.length]? = some 62 := by
        rw [hL, List.getElem?_append_right (by omega), show A.length + 2 + E.length - A.length = E.length + 1 + 1 by omega, List.getElem?_cons_succ, List.getElem?_cons_succ, List.getElem?_append_right (Nat.le_refl _)]
        simp
      rw [sN_list s _ _ e]
      rfl
  obtain rfl := fst_one hq hF2
  have hbytes : ∀ (x : ByteArray) (l : List UInt8), x.data.toList = l → ∀ y : ByteArray, y.data.toList = l → x = y := fun x l hx y hy => by
    apply ByteArray.ext
    apply Array.toList_inj.1
    rw [hx, hy]
  have x1 : s.extract 0 (A.length + 1 - 1) = nm := hbytes _ A (by rw [extract_list, hL]; exact mid [] A _ _ _ rfl (by simp)) _ hA
  have x2 : s.extract (A.length + 1 + 1) (A.length + 2 + E.length) = em := hbytes _ E (by
    rw [extract_list, hL]
    have := mid (A ++ [32, 60]) E (62 :: 32 :: (T ++ (32 :: (g :: zl zn.natAbs)))) (A.length + 1 + 1) (A.length + 2 + E.length) (by simp) (by simp)
    simpa using this) _ hE
  have x3 : (s.extract (A.length + 2 + E.length + 2) (s.size - 6)).data.toList = T := by
    rw [extract_list, hL]
    have := mid (A ++ 32 :: 60 :: (E ++ [62, 32])) T (32 :: (g :: zl zn.natAbs)) (A.length + 2 + E.length + 2) (s.size - 6) (by simp; omega) (by simp; omega)
    simpa using this
  have x4 : (s.extract (s.size - 4) s.size).data.toList = zl zn.natAbs := by
    rw [extract_list, hL]
    have := mid (A ++ 32 :: 60 :: (E ++ 62 :: 32 :: (T ++ [32, g]))) (zl zn.natAbs) [] (s.size - 4) s.size (by simp; omega) (by simp [hzl]; omega)
    simpa using this
  have x5 : sN s (s.size - 5) = (g.toNat : Int) := by
    refine sN_list s _ _ ?_
    rw [hL]
    have e : A ++ (32 :: 60 :: (E ++ (62 :: 32 :: (T ++ (32 :: (g :: zl zn.natAbs)))))) = (A ++ 32 :: 60 :: (E ++ 62 :: 32 :: (T ++ [32]))) ++ (g :: zl zn.natAbs) := by simp
    rw [e, List.getElem?_append_right (by simp; omega)]
    have : s.size - 5 - (A ++ 32 :: 60 :: (E ++ 62 :: 32 :: (T ++ [32]))).length = 0 := by simp; omega
    rw [this]
    rfl
  have n1 : nmF (s.extract (A.length + 2 + E.length + 2) (s.size - 6)) = tm := by
    rw [nmF_list x3 hT1 hTl, ← hT, nmL_dec _ _ (Nat.lt_succ_self _)]
    omega
  have n2 : nmF (s.extract (s.size - 4) s.size) = ((zn.natAbs / 60 * 100 + zn.natAbs % 60 : Nat) : Int) := by
    rw [nmF_list x4 (by unfold zl; simp) (by rw [hzl]; omega), nmL_zl _ (by omega)]
  unfold gF
  rw [if_neg (by omega), n2, if_neg (by omega), x1, x2, n1, x5]
  congr 2
  rw [← hg]
  by_cases hneg : zn < 0
  · rw [if_pos hneg, if_pos (by decide)]
    omega
  · rw [if_neg hneg, if_neg (by decide)]
    omega
end Go.Proofs.YtkbalngddlhlpaaGreatDoor
