/-
  Walks: readTag.
-/
import Derived.Test.YtkbalngddlhlpaaGreatDoorL8
import Derived.Test.YtkbalngddlhlpaaGreatDoorShD3
import Derived.Test.YtkbalngddlhlpaaGreatDoorN23
import Derived.Test.YtkbalngddlhlpaaGreatDoorShM4
namespace Go.Proofs.YtkbalngddlhlpaaGreatDoor
open Go.RowKit

theorem cut_lens (l : List UInt8) (c : UInt8) : (Lib.cut l [c]).1.length ≤ l.length ∧ (Lib.cut l [c]).2.1.length ≤ l.length := by
  unfold Lib.cut
  split
  · exact ⟨by simp; omega, by simp⟩
  · exact ⟨Nat.le_refl _, by simp⟩
theorem clF_len (t word : List UInt8) : (clF t word).1.length ≤ t.length ∧ (clF t word).2.length ≤ t.length := by
  unfold clF
  split
  · have := cut_lens (t.drop (word.length + 1)) 10
    rw [List.length_drop] at this
    exact ⟨by simp only; omega, by simp only; omega⟩
  · exact ⟨by simp, Nat.le_refl _⟩
theorem sz_mk (l : List UInt8) : (⟨l.toArray⟩ : ByteArray).size = l.length := by rw [Lib.size_eq]
theorem cutLine_l (t word : List UInt8) (w : World) (hg : Gl w) (hs : t.length ≤ 1048576) (hw : word.length ≤ 100) :
    Calls Tryz.prog 61 #[.string ⟨t.toArray⟩, .string ⟨word.toArray⟩] w fun e w' => e = .returned (.tuple #[.string ⟨(clF t word).1.toArray⟩, .string ⟨(clF t word).2.toArray⟩]) ∧ Below w.heap.size w w' :=
  cutLine_any ⟨t.toArray⟩ ⟨word.toArray⟩ w hg (by rw [sz_mk]; exact hs) (by rw [sz_mk]; exact hw)
theorem parF_all (s : ByteArray) : AllIn 0 256 (Sh.parF s) := by
  unfold Sh.parF
  split
  · rename_i h
    intro x hx
    obtain ⟨i, hi, rfl⟩ := List.mem_map.1 hx
    have hi := List.mem_range.1 hi
    unfold Sh.okS at h
    have h := List.all_eq_true.1 (Bool.and_eq_true_iff.1 h).2
    have a := h (2 * i) (List.mem_range.2 (by omega))
    have b := h (2 * i + 1) (List.mem_range.2 (by omega))
    unfold Sh.isD at a b
    have a := of_decide_eq_true a
    have b := of_decide_eq_true b
    unfold Sh.pairD Sh.valD
    split <;> split <;> omega
  · intro x hx
    rw [List.eq_of_mem_replicate hx]
    omega
theorem e_le : (⟨#[]⟩ : ByteArray).size ≤ 1048576 := by decide
theorem parF_ok (s : ByteArray) : (Sh.parF s).length = 32 := by
  unfold Sh.parF
  split <;> simp
section
variable {w w' : World} {g : Nat} {c : LbC}
def igL (i : Idt) : List Value := [.string i.nm, .string i.em, .int .i64 i.tm, .int .i64 i.zn]
theorem rmF_len (t : List UInt8) : (rmF t).length ≤ t.length := by
  unfold rmF Lib.trimPrefix
  split
  · rw [List.length_drop]; omega
  · exact Nat.le_refl _
theorem igL_all (i : Idt) : (igL i).toArray.all (·.oneCell') = true := by
  rw [Array.all_eq_true_iff_forall_mem]
  intro x hx
  unfold igL at hx
  simp only [List.mem_toArray, List.mem_cons, List.not_mem_nil, or_false] at hx
  rcases hx with rfl | rfl | rfl | rfl <;> rfl
theorem LbC.all (c : LbC) : c.l.toArray.all (·.oneCell') = true := by
  rw [Array.all_eq_true_iff_forall_mem]
  intro x hx
  exact c.ones x (by simpa using hx)
theorem LbB.over (h : LbB w g c) (hok : c.ok) {d : LbC} (hd : d.ok) : LbB (w.setCells g 0 d.l) g d := by
  have h1 := Sh.heap_setCells g 127 d.l 0 w _ h
  have h2 := setL_mid d.l [] c.l [] (by rw [LbC.len hok, LbC.len hd])
  simp only [List.nil_append, List.append_nil, List.length_nil] at h2
  unfold LbB
  rw [h1, h2]
end


theorem cl_ln {t word rest behind : List UInt8} (h : LnAt t word rest behind) : clF t word = (rest, behind) := by
  obtain ⟨rfl, h10⟩ := h
  have e1 : Lib.hasPrefix (word ++ 32 :: (rest ++ 10 :: behind)) (word ++ [32]) = true := by
    unfold Lib.hasPrefix
    rw [List.isPrefixOf_iff_prefix]
    exact ⟨rest ++ 10 :: behind, by simp⟩
  have e2 : (word ++ 32 :: (rest ++ 10 :: behind)).drop (word.length + 1) = rest ++ 10 :: behind := by
    rw [show word ++ 32 :: (rest ++ 10 :: behind) = (word ++ [32]) ++ (rest ++ 10 :: behind) by simp, List.drop_append_of_le_length (by simp), List.drop_of_length_le (by simp), List.nil_append]
  unfold clF
  rw [if_pos e1, e2, cut1 10 rest behind h10]
theorem ln_one {t word a b a' b' : List UInt8} (h : LnAt t word a b) (g : LnAt t word a' b') : a = a' ∧ b = b' := by
  have := (cl_ln h).symm.trans (cl_ln g)
  exact ⟨congrArg Prod.fst this, congrArg Prod.snd this⟩
def hexU (ids : List Int) : List UInt8 := (strOfNums (Sh.hexF ids)).data.toList
theorem nums_cat (a b : List Int) : (strOfNums (a ++ b)).data.toList = (strOfNums a).data.toList ++ (strOfNums b).data.toList := by
  rw [strOfNums_data, strOfNums_data, strOfNums_data, List.map_append]
theorem nums_strL (s : ByteArray) : (strOfNums (strL s)).data.toList = s.data.toList := by
  rw [strOfNums_data]
  unfold strL
  rw [List.map_map]
  conv => rhs; rw [← List.map_id s.data.toList]
  apply List.map_congr_left
  intro x _
  simp
theorem hexU_no (ids : List Int) (hA : AllIn 0 256 ids) : (10 : UInt8) ∉ hexU ids := by
  intro h
  unfold hexU at h
  rw [strOfNums_data] at h
  obtain ⟨x, hx, he⟩ := List.mem_map.1 h
  have key : ∀ (l : List Int), AllIn 0 256 l → ∀ x ∈ Sh.hexF l, 48 ≤ x ∧ x < 128 := by
    intro l
    induction l with
    | nil => intro _ x hx; cases hx
    | cons y l ih =>
      intro hl x hx
      have hy := hl y List.mem_cons_self
      rw [Sh.hexF_cons] at hx
      have dg : ∀ d : Int, 0 ≤ d → d < 16 → 48 ≤ Sh.dgt d ∧ Sh.dgt d < 128 := by
        intro d h0 h1
        unfold Sh.dgt
        split <;> omega
      rcases List.mem_cons.1 hx with rfl | hx
      · exact dg _ (by omega) (by omega)
      · rcases List.mem_cons.1 hx with rfl | hx
        · exact dg _ (by omega) (by omega)
        · exact ih (fun z hz => hl z (List.mem_cons_of_mem _ hz)) x hx
  have hk := key ids hA x hx
  have := congrArg UInt8.toNat he
  rw [UInt8.toNat_ofNat'] at this
  have e10 : (10 : UInt8).toNat = 10 := rfl
  omega
theorem who_no {s : ByteArray} (h : whoF s = true) : (10 : UInt8) ∉ s.data.toList := fun hm => by
  rw [who_has] at h
  simp only [Bool.and_eq_true, Bool.not_eq_true'] at h
  have := h.1.1.2
  unfold hasF at this
  rw [List.contains_iff_mem.2 hm] at this
  cases this
theorem id_who {i : Idt} (h : idF i = true) : whoF i.nm = true ∧ whoF i.em = true := by
  unfold idF at h
  simp only [Bool.and_eq_true] at h
  exact h.1.1.1.1
theorem zl_no (a : Nat) (h : a ≤ 1439) : (10 : UInt8) ∉ zl a := by
  unfold zl
  simp only [List.mem_cons, List.not_mem_nil, or_false, not_or]
  have key : ∀ d : Nat, d < 10 → (10 : UInt8) ≠ UInt8.ofNat (48 + d) := by
    intro d hd he
    have := congrArg UInt8.toNat he
    rw [UInt8.toNat_ofNat'] at this
    have e10 : (10 : UInt8).toNat = 10 := rfl
    omega
  exact ⟨key _ (by omega), key _ (by omega), key _ (by omega), key _ (by omega)⟩
theorem put_no {i : Idt} (h : idF i = true) : (10 : UInt8) ∉ (putB i).data.toList := by
  have hw := id_who h
  have hb := idF_facts h
  rw [put_list h]
  have h1 := who_no hw.1
  have h2 := who_no hw.2
  have h3 : (10 : UInt8) ∉ Lib.decDigits i.tm.toNat := fun hm => by
    have := dec_mem (i.tm.toNat + 1) i.tm.toNat (by omega) 10 hm
    have e10 : (10 : UInt8).toNat = 10 := rfl
    omega
  have h4 := zl_no i.zn.natAbs (by omega)
  simp only [List.mem_append, List.mem_cons, not_or]
  refine ⟨h1, by decide, by decide, h2, by decide, by decide, h3, by decide, ?_, h4⟩
  split <;> decide
theorem back_ba (s : ByteArray) : (⟨s.data.toList.toArray⟩ : ByteArray) = s := rfl
end Go.Proofs.YtkbalngddlhlpaaGreatDoor
