/-
  Walks: the document's told, DocText.
-/
import Derived.Test.YtjhcpmhjdhmjpaaDH1
namespace Go.Proofs.Ytjhcpmhjdhmjpaa
open Go.RowKit Go.Shelf

theorem mkB_back (s : ByteArray) : mkB s.data.toList = s := by
  apply ByteArray.ext
  simp [mkB]
theorem mkB_last (t : List UInt8) (z : UInt8) (n : Int) (hn : n = (t.length : Int)) (W : World) : (Instr.index 9 (.string (mkB (t ++ [z]))) (.int .i64 n)).run Try.prog W = .ok (.int .u8 (z.toNat : Int)) W := by
  subst hn
  rw [run_index_string W 9 _ .i64 _ Try.underlying9]
  rw [dif_pos (by rw [mkB_size, List.length_append, List.length_singleton]; omega)]
  have e : (mkB (t ++ [z]))[((t.length : Nat) : Int).toNat]'(by rw [mkB_size, List.length_append, List.length_singleton]; simp) = z := by
    simp [mkB, ByteArray.getElem_eq_getElem_data]
  rw [e]
set_option maxHeartbeats 1000000 in
set_option maxRecDepth 100000 in
theorem told_any (sg : UInt8) (s : ByteArray) (w : World) (hs : s.size ≤ 4000000) :
    Calls Try.prog 38 #[.string ⟨#[sg]⟩, .string s] w fun e w' => e = .returned (.string (mkB (tl sg s))) ∧ w' = w := by
  obtain ⟨l, hl⟩ : ∃ l, s = mkB l := ⟨_, (mkB_back s).symm⟩
  subst hl
  rw [mkB_size] at hs
  have hd : (mkB l).data.toList = l := by simp [mkB]
  have had1 : ∀ W, (Op.stringOp .add ⟨#[sg]⟩ (mkB l)).run Try.prog W = .ok (.string (mkB (sg :: l))) W := fun W => by
    have e : mkB (sg :: l) = (⟨#[sg]⟩ : ByteArray) ++ mkB l := (mkB_app [sg] l).symm
    rw [e]; exact run_string_add_sum (P := Try.prog) W _ _ (by rw [mkB_size, show (⟨#[sg]⟩ : ByteArray).size = 1 from rfl]; omega)
  have had2 : ∀ W, (Op.stringOp .add (mkB (sg :: l)) ⟨#[10, 92, 10]⟩).run Try.prog W = .ok (.string (mkB (sg :: (l ++ [10, 92, 10])))) W := fun W => by
    have e : mkB (sg :: (l ++ [10, 92, 10])) = mkB (sg :: l) ++ (⟨#[10, 92, 10]⟩ : ByteArray) := (mkB_app (sg :: l) [10, 92, 10]).symm
    rw [e]; exact run_string_add_sum (P := Try.prog) W _ _ (by rw [mkB_size, List.length_cons, show (⟨#[10, 92, 10]⟩ : ByteArray).size = 3 from rfl]; omega)
  rcases List.eq_nil_or_concat l with hl | ⟨t, z, hl⟩
  · subst hl
    have Kt : Kept (tl sg (mkB []) = sg :: ([] ++ [10, 92, 10])) := ⟨by unfold tl; rw [hd]; rfl⟩
    have he : (mkB []).toList = [] := by rw [Lib.toList_data, hd]
    rw [Kt.out]
    have a1 := had1 w
    have a2 := had2 w
    clear had1 had2 hd
    generalize mkB [] = S0 at *
    generalize mkB [sg] = S1 at *
    generalize mkB (sg :: ([] ++ [10, 92, 10])) = S2 at *
    go_enter Try.func38, Try.ntmps38
    go_wp2
    go_ret
    exact ⟨rfl, rfl⟩
  · rw [List.concat_eq_append] at hl
    subst hl
    have hsz : (mkB (t ++ [z])).size = t.length + 1 := by rw [mkB_size, List.length_append, List.length_singleton]
    have he1 : ¬ (mkB (t ++ [z])).toList = [] := by rw [Lib.toList_data, hd]; simp
    have he2 : (mkB (t ++ [z])).toList.isEmpty = false := by rw [Lib.toList_data, hd]; simp
    have hix := mkB_last t z (((mkB (t ++ [z])).size : Int) - 1) (by rw [hsz]; omega) w
    have hwr : IntKind.i64.wrap (((mkB (t ++ [z])).size : Int) - 1) = ((mkB (t ++ [z])).size : Int) - 1 := wr64 (by omega) (by rw [hsz]; simp at hs; omega)
    by_cases hz : z = 10
    · subst hz
      have Kt : Kept (tl sg (mkB (t ++ [10])) = sg :: (t ++ [10])) := ⟨by
        unfold tl
        rw [hd, if_pos (by unfold Lib.hasSuffix; rw [List.isSuffixOf_iff_suffix]; exact ⟨t, rfl⟩), List.append_nil]⟩
      rw [Kt.out]
      have a1 := had1 w
      have hbyte : (((10 : UInt8).toNat : Nat) : Int) = 10 := rfl
      rw [hbyte] at hix
      clear had1 had2 hd hsz hs hbyte
      generalize mkB (t ++ [10]) = S0 at *
      generalize mkB (sg :: (t ++ [10])) = S1 at *
      go_enter Try.func38, Try.ntmps38
      go_wp2
      go_ret
      exact ⟨rfl, rfl⟩
    · have Kt : Kept (tl sg (mkB (t ++ [z])) = sg :: ((t ++ [z]) ++ [10, 92, 10])) := ⟨by
        unfold tl
        rw [hd, if_neg]
        unfold Lib.hasSuffix
        rw [List.isSuffixOf_iff_suffix]
        rintro ⟨r, hr⟩
        have h1 := congrArg List.getLast? hr
        simp at h1
        exact hz h1.symm⟩
      rw [Kt.out]
      have a1 := had1 w
      have a2 := had2 w
      have hne : (((z.toNat : Nat) : Int) != 10) = true := by
        rw [bne_iff_ne]
        intro e
        apply hz
        apply UInt8.toNat_inj.1
        have : z.toNat = 10 := by omega
        rw [this]; rfl
      generalize ((z.toNat : Nat) : Int) = zz at *
      clear had1 had2 hd hsz hs
      generalize mkB (t ++ [z]) = S0 at *
      generalize mkB (sg :: (t ++ [z])) = S1 at *
      generalize mkB (sg :: ((t ++ [z]) ++ [10, 92, 10])) = S2 at *
      go_enter Try.func38, Try.ntmps38
      go_wp2
      go_ret
      exact ⟨rfl, rfl⟩
end Go.Proofs.Ytjhcpmhjdhmjpaa
