/-
  Walks: readTag.
-/
import Derived.Test.YtdiamkfdhpjhoaaGreatDoorL8
import Derived.Test.YtdiamkfdhpjhoaaGreatDoorShD3
namespace Go.Proofs.YtdiamkfdhpjhoaaGreatDoor
open Go.RowKit

theorem cut_lens (l : List UInt8) (c : UInt8) : (Lib.cut l [c]).1.length ≤ l.length ∧ (Lib.cut l [c]).2.1.length ≤ l.length := by
  unfold Lib.cut
  split
  · exact ⟨by simp; omega, by simp⟩
  · exact ⟨Nat.le_refl _, by simp⟩
theorem clF_len (t word : List UInt8) : (clF t word).1.length ≤ t.length ∧ (clF t word).2.length ≤ t.length := by
  unfold clF
  split
  · have := cut_lens (t.drop (word.length + 1)) 10
    rw [List.length_drop] at this
    exact ⟨by simp only; omega, by simp only; omega⟩
  · exact ⟨by simp, Nat.le_refl _⟩
def wO : List UInt8 := [111, 98, 106, 101, 99, 116]
def wT : List UInt8 := [116, 121, 112, 101]
def wG : List UInt8 := [116, 97, 103]
def wR : List UInt8 := [116, 97, 103, 103, 101, 114]
/-- What a text is read as. -/
def rtF (t : List UInt8) : LbC :=
  ⟨Sh.parF ⟨(clF t wO).1.toArray⟩, koF ⟨(clF (clF t wO).2 wT).1.toArray⟩, ⟨(clF (clF (clF t wO).2 wT).2 wG).1.toArray⟩,
    (prsF ⟨(clF (clF (clF (clF t wO).2 wT).2 wG).2 wR).1.toArray⟩).1, ⟨(rmF (clF (clF (clF (clF t wO).2 wT).2 wG).2 wR).2).toArray⟩⟩
theorem sz_mk (l : List UInt8) : (⟨l.toArray⟩ : ByteArray).size = l.length := by rw [Lib.size_eq]
theorem cutLine_l (t word : List UInt8) (w : World) (hg : Gl w) (hs : t.length ≤ 1048576) (hw : word.length ≤ 100) :
    Calls Tryz.prog 45 #[.string ⟨t.toArray⟩, .string ⟨word.toArray⟩] w fun e w' => e = .returned (.tuple #[.string ⟨(clF t word).1.toArray⟩, .string ⟨(clF t word).2.toArray⟩]) ∧ Below w.heap.size w w' :=
  cutLine_any ⟨t.toArray⟩ ⟨word.toArray⟩ w hg (by rw [sz_mk]; exact hs) (by rw [sz_mk]; exact hw)
theorem parF_all (s : ByteArray) : AllIn 0 256 (Sh.parF s) := by
  unfold Sh.parF
  split
  · rename_i h
    intro x hx
    obtain ⟨i, hi, rfl⟩ := List.mem_map.1 hx
    have hi := List.mem_range.1 hi
    unfold Sh.okS at h
    have h := List.all_eq_true.1 (Bool.and_eq_true_iff.1 h).2
    have a := h (2 * i) (List.mem_range.2 (by omega))
    have b := h (2 * i + 1) (List.mem_range.2 (by omega))
    unfold Sh.isD at a b
    have a := of_decide_eq_true a
    have b := of_decide_eq_true b
    unfold Sh.pairD Sh.valD
    split <;> split <;> omega
  · intro x hx
    rw [List.eq_of_mem_replicate hx]
    omega
theorem mk_ok {tg : List Int} {k : Int} {nm ms : ByteArray} (ig : Idt) (h1 : tg.length = 32) (h2 : AllIn 0 256 tg) (h3 : 0 ≤ k ∧ k ≤ 4) (h4 : nm.size ≤ 1048576) (h5 : ms.size ≤ 1048576) : (LbC.mk tg k nm ig ms).ok := ⟨h1, h2, by simp only; omega, by simp only; omega, by simp only; omega, by simp only; omega⟩
theorem e_le : (⟨#[]⟩ : ByteArray).size ≤ 1048576 := by decide
theorem koF_range (s : ByteArray) : 0 ≤ koF s ∧ koF s ≤ 4 := by
  unfold koF
  repeat' split
  all_goals omega
theorem parF_ok (s : ByteArray) : (Sh.parF s).length = 32 := by
  unfold Sh.parF
  split <;> simp
section
variable {w w' : World} {g : Nat} {c : LbC}
def igL (i : Idt) : List Value := [.string i.nm, .string i.em, .int .i64 i.tm, .int .i64 i.zn]
theorem rmF_len (t : List UInt8) : (rmF t).length ≤ t.length := by
  unfold rmF Lib.trimPrefix
  split
  · rw [List.length_drop]; omega
  · exact Nat.le_refl _
theorem igL_all (i : Idt) : (igL i).toArray.all (·.oneCell') = true := by
  rw [Array.all_eq_true_iff_forall_mem]
  intro x hx
  unfold igL at hx
  simp only [List.mem_toArray, List.mem_cons, List.not_mem_nil, or_false] at hx
  rcases hx with rfl | rfl | rfl | rfl <;> rfl
theorem LbC.all (c : LbC) : c.l.toArray.all (·.oneCell') = true := by
  rw [Array.all_eq_true_iff_forall_mem]
  intro x hx
  exact c.ones x (by simpa using hx)
end
end Go.Proofs.YtdiamkfdhpjhoaaGreatDoor
