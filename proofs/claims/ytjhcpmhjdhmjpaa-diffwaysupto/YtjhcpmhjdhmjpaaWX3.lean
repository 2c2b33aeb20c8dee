/-
  Walks: sides.
-/
import Derived.Test.YtjhcpmhjdhmjpaaWX2
namespace Go.Proofs.Ytjhcpmhjdhmjpaa
open Go.RowKit Go.Shelf

def mkB (l : List UInt8) : ByteArray := ⟨l.toArray⟩
theorem mkB_size (l : List UInt8) : (mkB l).size = l.length := by simp [mkB, ByteArray.size]
theorem mkB_app (l m : List UInt8) : mkB l ++ mkB m = mkB (l ++ m) := by
  apply ByteArray.ext
  simp [mkB]
theorem mkB_tail (x : UInt8) (l : List UInt8) : (mkB (x :: l)).extract 1 (mkB (x :: l)).size = mkB l := by
  apply ByteArray.ext
  rw [mkB_size, ByteArray.data_extract]
  apply Array.ext'
  simp [mkB]
theorem mkB_idx (x : UInt8) (l : List UInt8) (W : World) : (Instr.index 9 (.string (mkB (x :: l))) (.int .i64 0)).run Try.prog W = .ok (.int .u8 (x.toNat : Int)) W := by
  rw [run_index_string W 9 _ .i64 0 Try.underlying9]
  rw [dif_pos (by rw [mkB_size, List.length_cons]; omega)]
  rfl
theorem mkB_sl (x : UInt8) (l : List UInt8) (W : World) : (Instr.slice 9 (.string (mkB (x :: l))) (some (.int .i64 1)) none none).run Try.prog W = .ok (.string (mkB l)) W := by
  rw [run_slice_string_from_if W 9 _ .i64 1 Try.underlying9, if_pos (by rw [mkB_size, List.length_cons]; omega)]
  have h := mkB_tail x l
  exact congrArg (fun z => Result.ok (Value.string z) W) h
theorem sd_snoc {LL : List (List UInt8)} {i : Nat} {l : List UInt8} (h : LL[i]? = some l) : sdA (LL.take (i + 1)) = sdA (LL.take i) ++ adA l ∧ sdB (LL.take (i + 1)) = sdB (LL.take i) ++ adB l ∧ sdC (LL.take (i + 1)) = sdC (LL.take i) + adC l := by
  have e : LL.take (i + 1) = LL.take i ++ [l] := by rw [List.take_add_one, h]; rfl
  rw [e]
  refine ⟨?_, ?_, sdC_snoc _ _⟩
  · unfold sdA; simp
  · unfold sdB; simp
theorem ad_len (l : List UInt8) : (adA l).length ≤ l.length ∧ (adB l).length ≤ l.length := by
  cases l with
  | nil => exact ⟨Nat.le_refl _, Nat.le_refl _⟩
  | cons x t =>
    refine ⟨?_, ?_⟩
    · show (if x = 43 then [] else t).length ≤ _
      split <;> simp
    · show (if x = 45 then [] else t).length ≤ _
      split <;> simp
theorem sd_len : ∀ L : List (List UInt8), (sdA L).length ≤ L.flatten.length ∧ (sdB L).length ≤ L.flatten.length
  | [] => ⟨Nat.le_refl _, Nat.le_refl _⟩
  | l :: r => by
    have h1 := sd_len r
    have h2 := ad_len l
    have e1 : sdA (l :: r) = adA l ++ sdA r := rfl
    have e2 : sdB (l :: r) = adB l ++ sdB r := rfl
    rw [e1, e2, List.flatten_cons, List.length_append, List.length_append, List.length_append]
    omega
theorem flt_take {L : List (List UInt8)} (i : Nat) : (L.take i).flatten.length ≤ L.flatten.length := by
  have h := congrArg (fun L => (List.flatten L).length) (List.take_append_drop i L)
  simp only [List.flatten_append, List.length_append] at h
  omega
theorem flt_one {L : List (List UInt8)} {i : Nat} {l : List UInt8} (h : L[i]? = some l) : l.length ≤ L.flatten.length := by
  have h1 := @flt_take L (i + 1)
  rw [List.take_add_one, h] at h1
  simp only [Option.toList_some, List.flatten_append, List.length_append, List.flatten_cons, List.flatten_nil, List.append_nil] at h1
  omega
set_option maxHeartbeats 2000000 in
set_option maxRecDepth 100000 in
theorem sides_any (T : ByteArray) (LL : List (List UInt8)) (w : World) (hT : T.data.toList = LL.flatten) (hall : ∀ l ∈ LL, TlOk l) (hsz : T.size ≤ 200000) :
    Calls Try.prog 28 #[.string T] w fun e w' => e = .returned (.tuple #[.string (mkB (sdA LL)), .string (mkB (sdB LL)), .bool true]) ∧ Below w.heap.size w w' := by
  obtain ⟨W1, v1, hrun, hrd, hB1⟩ := text_rd w T (by omega)
  have hln : lnS (strL T) = LL.map mkB := by
    have h := lnS_told hall
    rw [← hT] at h
    exact h
  have hfl : LL.flatten.length ≤ 200000 := by rw [← hT, ← Lib.size_eq]; exact hsz
  have hLl : (LL.map mkB).length ≤ 200000 := by
    rw [← hln]
    have := lnS_len (strL T)
    rw [strL_length] at this
    omega
  rw [List.length_map] at hLl
  have K1 := Kept.mk (lines_any v1 (strL T) W1 hrd (nmL_all _) (by rw [strL_length]; omega))
  rw [hln] at K1
  have KB1 := Kept.mk hB1
  have Kall := Kept.mk hall
  have Kfl := Kept.mk hfl
  obtain ⟨a1, c1, hv1, -⟩ := hrd.form
  rw [hv1] at K1 hrun
  clear hrd hB1 hln hT hall hv1 hfl hsz
  go_enter Try.func28, Try.ntmps28
  go_wp2_with fail
  refine Calls.mono K1.out (fun e w2 hp => ?_)
  obtain ⟨v2, rfl, ho2, hb2⟩ := hp
  obtain ⟨p2, c2, hv2⟩ := ho2.form
  subst hv2
  have KB2 := Kept.mk (KB1.out.trans (hb2.mono KB1.out.size))
  have KO := Kept.mk ho2.rd
  have KL : Kept (∀ i l, LL[i]? = some l → ∃ b off, p2 = some ⟨b, off, none⟩ ∧ w2.cell? ⟨b, off + i, none⟩ = some (.string (mkB l))) := ⟨fun i l hl => by
    obtain ⟨p', c', he, -, hr⟩ := KO.out
    have h0 : 0 < ((LL.map mkB).map Value.string).length := by rw [List.length_map, List.length_map]; have := (List.getElem?_eq_some_iff.1 hl).1; omega
    obtain ⟨b, off, hp, -, hrr⟩ := hr h0
    injection he with e1 e2 e3
    exact ⟨b, off, by rw [e1, hp], hrr i _ (by rw [List.getElem?_map, List.getElem?_map, hl]; rfl)⟩⟩
  rw [List.length_map]
  clear K1 ho2 hb2 hrun KO
  go_upto_region 3 with fail
  go_loopw [5, 6, 13] (fun av bv iv wr => ∃ i : Nat, i ≤ LL.length ∧ av = .string (mkB (sdA (LL.take i))) ∧ bv = .string (mkB (sdB (LL.take i))) ∧ iv = .int .i64 i ∧ wr = w2) (fun _ _ iv _ => LL.length - (intOf iv).toNat)
  case atStart => exact ⟨0, Nat.zero_le _, rfl, rfl, rfl, rfl⟩
  case round =>
    obtain ⟨i, hil, rfl, rfl, rfl, rfl⟩ := hrel
    by_cases hlt : i < LL.length
    · have hii : (i : Int) < (LL.length : Int) := by omega
      have m0 : (0 : Int) ≤ (i : Int) := by omega
      have m1 : IntKind.i64.wrap ((i : Int) + 1) = (i : Int) + 1 := wr64 (by omega) (by omega)
      obtain ⟨l, hl⟩ : ∃ l, LL[i]? = some l := ⟨_, List.getElem?_eq_getElem hlt⟩
      obtain ⟨b, off, hp, hcell⟩ := KL.out i l hl
      subst hp
      obtain ⟨e1, e2, -⟩ := sd_snoc hl
      have hl1 := flt_one hl
      have hl2 := sd_len (LL.take i)
      have hl3 := @flt_take LL i
      have hfl := Kfl.out
      obtain ⟨sg, s, rfl, hsg, t, ht, -⟩ := Kall.out l (List.mem_of_getElem? hl)
      have hsl : 1 ≤ s.length := by rw [ht]; simp
      rw [List.length_cons] at hl1
      have hidx := mkB_idx sg s wr
      have hsli := mkB_sl sg s wr
      have hz : ¬ ((mkB (sg :: s)).size : Int) < 2 := by rw [mkB_size, List.length_cons]; omega
      have hadA : ∀ W, (Op.stringOp .add (mkB (sdA (LL.take i))) (mkB s)).run Try.prog W = .ok (.string (mkB (sdA (LL.take i) ++ s))) W := fun W => by
        rw [← mkB_app]; exact run_string_add_sum (P := Try.prog) W _ _ (by rw [mkB_size, mkB_size]; omega)
      have hadB : ∀ W, (Op.stringOp .add (mkB (sdB (LL.take i))) (mkB s)).run Try.prog W = .ok (.string (mkB (sdB (LL.take i) ++ s))) W := fun W => by
        rw [← mkB_app]; exact run_string_add_sum (P := Try.prog) W _ _ (by rw [mkB_size, mkB_size]; omega)
      have hz1 : (0 : Int) ≤ 1 ∧ (1 : Int) ≤ ((mkB (sg :: s)).size : Int) := ⟨by omega, by omega⟩
      rcases hsg with rfl | rfl | rfl
      · have KA : Kept (sdA (LL.take i) ++ s = sdA (LL.take (i + 1))) := ⟨by rw [e1]; rfl⟩
        have KB : Kept (sdB (LL.take i) ++ s = sdB (LL.take (i + 1))) := ⟨by rw [e2]; rfl⟩
        have hbyte : (((32 : UInt8).toNat : Nat) : Int) = 32 := rfl
        rw [hbyte] at hidx
        clear e1 e2 hl hl1 hl2 hl3 hfl ht hsl hbyte
        generalize mkB (32 :: s) = S1 at *
        generalize mkB s = S2 at *
        generalize sdA (LL.take i) ++ s = A1 at *
        generalize sdB (LL.take i) ++ s = B1 at *
        go_wp2
        go_roundw
        case rel => exact ⟨i + 1, hlt, by rw [KA.out], by rw [KB.out], by go_num, trivial⟩
        case measure => simp [intOf]; omega
      · have KA : Kept (sdA (LL.take i) ++ s = sdA (LL.take (i + 1))) := ⟨by rw [e1]; rfl⟩
        have KB : Kept (sdB (LL.take i) = sdB (LL.take (i + 1))) := ⟨by rw [e2]; show _ = _ ++ []; rw [List.append_nil]⟩
        have hbyte : (((45 : UInt8).toNat : Nat) : Int) = 45 := rfl
        rw [hbyte] at hidx
        clear e1 e2 hl hl1 hl2 hl3 hfl ht hsl hbyte
        generalize mkB (45 :: s) = S1 at *
        generalize mkB s = S2 at *
        generalize sdA (LL.take i) ++ s = A1 at *
        go_wp2
        go_roundw
        case rel => exact ⟨i + 1, hlt, by rw [KA.out], by rw [KB.out], by go_num, trivial⟩
        case measure => simp [intOf]; omega
      · have KA : Kept (sdA (LL.take i) = sdA (LL.take (i + 1))) := ⟨by rw [e1]; show _ = _ ++ []; rw [List.append_nil]⟩
        have KB : Kept (sdB (LL.take i) ++ s = sdB (LL.take (i + 1))) := ⟨by rw [e2]; rfl⟩
        have hbyte : (((43 : UInt8).toNat : Nat) : Int) = 43 := rfl
        rw [hbyte] at hidx
        clear e1 e2 hl hl1 hl2 hl3 hfl ht hsl hbyte
        generalize mkB (43 :: s) = S1 at *
        generalize mkB s = S2 at *
        generalize sdB (LL.take i) ++ s = B1 at *
        go_wp2
        go_roundw
        case rel => exact ⟨i + 1, hlt, by rw [KA.out], by rw [KB.out], by go_num, trivial⟩
        case measure => simp [intOf]; omega
    · have hii : ¬ (i : Int) < (LL.length : Int) := by omega
      obtain rfl : i = LL.length := by omega
      rw [List.take_length]
      go_wp2
      go_ret3
      exact ⟨rfl, KB2.out⟩
end Go.Proofs.Ytjhcpmhjdhmjpaa
