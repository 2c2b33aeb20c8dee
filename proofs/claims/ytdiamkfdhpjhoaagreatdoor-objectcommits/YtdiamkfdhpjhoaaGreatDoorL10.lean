/-
  Tags that are written are read again. (Pure.)
-/
import Derived.Test.YtdiamkfdhpjhoaaGreatDoorL9A
import Derived.Test.YtdiamkfdhpjhoaaGreatDoorN23
import Derived.Test.YtdiamkfdhpjhoaaGreatDoorShM4
namespace Go.Proofs.YtdiamkfdhpjhoaaGreatDoor
open Go.RowKit

theorem cl_ln {t word rest behind : List UInt8} (h : LnAt t word rest behind) : clF t word = (rest, behind) := by
  obtain ⟨rfl, h10⟩ := h
  have e1 : Lib.hasPrefix (word ++ 32 :: (rest ++ 10 :: behind)) (word ++ [32]) = true := by
    unfold Lib.hasPrefix
    rw [List.isPrefixOf_iff_prefix]
    exact ⟨rest ++ 10 :: behind, by simp⟩
  have e2 : (word ++ 32 :: (rest ++ 10 :: behind)).drop (word.length + 1) = rest ++ 10 :: behind := by
    rw [show word ++ 32 :: (rest ++ 10 :: behind) = (word ++ [32]) ++ (rest ++ 10 :: behind) by simp, List.drop_append_of_le_length (by simp), List.drop_of_length_le (by simp), List.nil_append]
  unfold clF
  rw [if_pos e1, e2, cut1 10 rest behind h10]
theorem ln_one {t word a b a' b' : List UInt8} (h : LnAt t word a b) (g : LnAt t word a' b') : a = a' ∧ b = b' := by
  have := (cl_ln h).symm.trans (cl_ln g)
  exact ⟨congrArg Prod.fst this, congrArg Prod.snd this⟩
/-- The bytes of a tag. -/
def hexU (ids : List Int) : List UInt8 := (strOfNums (Sh.hexF ids)).data.toList
def tgU (c : LbC) : List UInt8 := wO ++ 32 :: (hexU c.tg ++ 10 :: (wT ++ 32 :: ((wdF c.k).data.toList ++ 10 :: (wG ++ 32 :: (c.nm.data.toList ++ 10 :: (wR ++ 32 :: ((putB c.ig).data.toList ++ 10 :: (10 :: c.ms.data.toList))))))))
theorem nums_cat (a b : List Int) : (strOfNums (a ++ b)).data.toList = (strOfNums a).data.toList ++ (strOfNums b).data.toList := by
  rw [strOfNums_data, strOfNums_data, strOfNums_data, List.map_append]
theorem nums_strL (s : ByteArray) : (strOfNums (strL s)).data.toList = s.data.toList := by
  rw [strOfNums_data]
  unfold strL
  rw [List.map_map]
  conv => rhs; rw [← List.map_id s.data.toList]
  apply List.map_congr_left
  intro x _
  simp
theorem tgL_U (c : LbC) : (strOfNums (tgL c)).data.toList = tgU c := by
  unfold tgL tgU
  simp only [nums_cat, nums_strL]
  simp only [List.append_assoc]
  rfl
theorem hexU_no (ids : List Int) (hA : AllIn 0 256 ids) : (10 : UInt8) ∉ hexU ids := by
  intro h
  unfold hexU at h
  rw [strOfNums_data] at h
  obtain ⟨x, hx, he⟩ := List.mem_map.1 h
  have key : ∀ (l : List Int), AllIn 0 256 l → ∀ x ∈ Sh.hexF l, 48 ≤ x ∧ x < 128 := by
    intro l
    induction l with
    | nil => intro _ x hx; cases hx
    | cons y l ih =>
      intro hl x hx
      have hy := hl y List.mem_cons_self
      rw [Sh.hexF_cons] at hx
      have dg : ∀ d : Int, 0 ≤ d → d < 16 → 48 ≤ Sh.dgt d ∧ Sh.dgt d < 128 := by
        intro d h0 h1
        unfold Sh.dgt
        split <;> omega
      rcases List.mem_cons.1 hx with rfl | hx
      · exact dg _ (by omega) (by omega)
      · rcases List.mem_cons.1 hx with rfl | hx
        · exact dg _ (by omega) (by omega)
        · exact ih (fun z hz => hl z (List.mem_cons_of_mem _ hz)) x hx
  have hk := key ids hA x hx
  have := congrArg UInt8.toNat he
  rw [UInt8.toNat_ofNat'] at this
  have e10 : (10 : UInt8).toNat = 10 := rfl
  omega
theorem wd_no (k : Int) : (10 : UInt8) ∉ (wdF k).data.toList := by
  unfold wdF
  repeat' split
  all_goals decide
theorem tn_no {s : ByteArray} (h : tnF s = true) : (10 : UInt8) ∉ s.data.toList := fun hm => by
  unfold tnF at h
  have h := (Bool.and_eq_true_iff.1 h).2
  have := any_mem [0, 10] s.data.toList (by simpa using h) 10 hm
  simp at this
theorem who_no {s : ByteArray} (h : whoF s = true) : (10 : UInt8) ∉ s.data.toList := fun hm => by
  rw [who_has] at h
  simp only [Bool.and_eq_true, Bool.not_eq_true'] at h
  have := h.1.1.2
  unfold hasF at this
  rw [List.contains_iff_mem.2 hm] at this
  cases this
theorem id_who {i : Idt} (h : idF i = true) : whoF i.nm = true ∧ whoF i.em = true := by
  unfold idF at h
  simp only [Bool.and_eq_true] at h
  exact h.1.1.1.1
theorem zl_no (a : Nat) (h : a ≤ 1439) : (10 : UInt8) ∉ zl a := by
  unfold zl
  simp only [List.mem_cons, List.not_mem_nil, or_false, not_or]
  have key : ∀ d : Nat, d < 10 → (10 : UInt8) ≠ UInt8.ofNat (48 + d) := by
    intro d hd he
    have := congrArg UInt8.toNat he
    rw [UInt8.toNat_ofNat'] at this
    have e10 : (10 : UInt8).toNat = 10 := rfl
    omega
  exact ⟨key _ (by omega), key _ (by omega), key _ (by omega), key _ (by omega)⟩
theorem put_no {i : Idt} (h : idF i = true) : (10 : UInt8) ∉ (putB i).data.toList := by
  have hw := id_who h
  have hb := idF_facts h
  rw [put_list h]
  have h1 := who_no hw.1
  have h2 := who_no hw.2
  have h3 : (10 : UInt8) ∉ Lib.decDigits i.tm.toNat := fun hm => by
    have := dec_mem (i.tm.toNat + 1) i.tm.toNat (by omega) 10 hm
    have e10 : (10 : UInt8).toNat = 10 := rfl
    omega
  have h4 := zl_no i.zn.natAbs (by omega)
  simp only [List.mem_append, List.mem_cons, not_or]
  refine ⟨h1, by decide, by decide, h2, by decide, by decide, h3, by decide, ?_, h4⟩
  split <;> decide
theorem ko_wd {k : Int} (h : isK k = true) : koF (wdF k) = k := by
  unfold isK at h
  simp only [Bool.and_eq_true, decide_eq_true_eq] at h
  have : k = 1 ∨ k = 2 ∨ k = 3 ∨ k = 4 := by omega
  rcases this with rfl | rfl | rfl | rfl <;> rfl
/-- The four lines of a tag that is right. -/
theorem tg_lines {c : LbC} (hok : c.ok) (h : teF c = 0) : LnAt (tgU c) wO (hexU c.tg) (wT ++ 32 :: ((wdF c.k).data.toList ++ 10 :: (wG ++ 32 :: (c.nm.data.toList ++ 10 :: (wR ++ 32 :: ((putB c.ig).data.toList ++ 10 :: (10 :: c.ms.data.toList)))))))
    ∧ LnAt (wT ++ 32 :: ((wdF c.k).data.toList ++ 10 :: (wG ++ 32 :: (c.nm.data.toList ++ 10 :: (wR ++ 32 :: ((putB c.ig).data.toList ++ 10 :: (10 :: c.ms.data.toList))))))) wT (wdF c.k).data.toList (wG ++ 32 :: (c.nm.data.toList ++ 10 :: (wR ++ 32 :: ((putB c.ig).data.toList ++ 10 :: (10 :: c.ms.data.toList)))))
    ∧ LnAt (wG ++ 32 :: (c.nm.data.toList ++ 10 :: (wR ++ 32 :: ((putB c.ig).data.toList ++ 10 :: (10 :: c.ms.data.toList))))) wG c.nm.data.toList (wR ++ 32 :: ((putB c.ig).data.toList ++ 10 :: (10 :: c.ms.data.toList)))
    ∧ LnAt (wR ++ 32 :: ((putB c.ig).data.toList ++ 10 :: (10 :: c.ms.data.toList))) wR (putB c.ig).data.toList (10 :: c.ms.data.toList) := by
  obtain ⟨h1, h2, h3, h4, h5⟩ := teF_ok h
  exact ⟨⟨rfl, hexU_no _ hok.2.1⟩, ⟨rfl, wd_no _⟩, ⟨rfl, tn_no h2⟩, ⟨rfl, put_no h3⟩⟩
theorem back_ba (s : ByteArray) : (⟨s.data.toList.toArray⟩ : ByteArray) = s := rfl
/-- What a tag's pieces are read as. -/
def pcF (a b n d m : List UInt8) : LbC := ⟨Sh.parF ⟨a.toArray⟩, koF ⟨b.toArray⟩, ⟨n.toArray⟩, (prsF ⟨d.toArray⟩).1, ⟨m.toArray⟩⟩
theorem pc_back {c : LbC} (hok : c.ok) (h : teF c = 0) : pcF (hexU c.tg) (wdF c.k).data.toList c.nm.data.toList (putB c.ig).data.toList c.ms.data.toList = c := by
  obtain ⟨h1, h2, h3, h4, h5⟩ := teF_ok h
  unfold pcF hexU
  rw [back_ba, back_ba, back_ba, back_ba, back_ba, Sh.parF_hex hok.1 (fun x hx => hok.2.1 x hx), ko_wd h5, prs_put h3]
theorem rt_back {c : LbC} (hok : c.ok) (h : teF c = 0) : rtF (tgU c) = c := by
  obtain ⟨g1, g2, g3, g4⟩ := tg_lines hok h
  have hp := pc_back hok h
  unfold rtF
  rw [cl_ln g1]
  simp only
  rw [cl_ln g2]
  simp only
  rw [cl_ln g3]
  simp only
  rw [cl_ln g4]
  simp only
  exact hp
theorem tgU_inj {c d : LbC} (hc : c.ok) (h : teF c = 0) (hd : d.ok) (g : teF d = 0) (he : tgU c = tgU d) : c = d := by
  rw [← rt_back hc h, ← rt_back hd g, he]
/-- What a reader of tags answers. -/
def DgEnd (xs : List Int) (R : LbC) (E : Int) : Prop :=
  (1048576 < xs.length ∧ R = lb0 ∧ E = 2) ∨ (xs.length ≤ 1048576 ∧ ((R.ok ∧ teF R = 0 ∧ tgU R = (strOfNums xs).data.toList ∧ E = 0) ∨ ((∀ c : LbC, c.ok → teF c = 0 → tgU c ≠ (strOfNums xs).data.toList) ∧ R = lb0 ∧ E = 4)))
theorem dg_one {xs : List Int} {R R' : LbC} {E E' : Int} (h : DgEnd xs R E) (g : DgEnd xs R' E') : R = R' ∧ E = E' := by
  rcases h with ⟨h1, h2, h3⟩ | ⟨h1, h2⟩
  · rcases g with ⟨g1, g2, g3⟩ | ⟨g1, g2⟩
    · exact ⟨h2.trans g2.symm, h3.trans g3.symm⟩
    · omega
  · rcases g with ⟨g1, g2, g3⟩ | ⟨g1, g2⟩
    · omega
    · rcases h2 with ⟨a1, a2, a3, a4⟩ | ⟨a1, a2, a3⟩
      · rcases g2 with ⟨b1, b2, b3, b4⟩ | ⟨b1, b2, b3⟩
        · exact ⟨tgU_inj a1 a2 b1 b2 (a3.trans b3.symm), a4.trans b4.symm⟩
        · exact absurd a3 (b1 R a1 a2)
      · rcases g2 with ⟨b1, b2, b3, b4⟩ | ⟨b1, b2, b3⟩
        · exact absurd b3 (a1 R' b1 b2)
        · exact ⟨a2.trans b2.symm, a3.trans b3.symm⟩
theorem dg_ok {xs : List Int} {R : LbC} {E : Int} (h : DgEnd xs R E) : R.ok := by
  rcases h with ⟨-, rfl, -⟩ | ⟨-, ⟨h, -⟩ | ⟨-, rfl, -⟩⟩
  · exact lb0_ok
  · exact h
  · exact lb0_ok
end Go.Proofs.YtdiamkfdhpjhoaaGreatDoor
