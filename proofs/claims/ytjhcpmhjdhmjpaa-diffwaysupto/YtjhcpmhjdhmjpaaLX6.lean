/-
  Walks: the law DiffLines.
-/
import Derived.Test.YtjhcpmhjdhmjpaaLX5
import Derived.Test.YtjhcpmhjdhmjpaaV11
import Derived.Laws.Concat
namespace Go.Proofs.Ytjhcpmhjdhmjpaa
open Go.RowKit

theorem strOfNums_append (a b : List Int) : strOfNums a ++ strOfNums b = strOfNums (a ++ b) := by
  apply ByteArray.ext
  simp [strOfNums]
set_option maxRecDepth 100000 in
/-- string(text). -/
theorem text_of {S : Nat → Prop} {w : World} {a : Option Addr} {c : Nat} {xs : List Int} (h : Rd .u8 S w (.slice a xs.length c) xs) : (convert 42 9 (.slice a xs.length c)).run Try.prog w = .ok (.string (strOfNums xs)) w := by
  by_cases h0 : 0 < xs.length
  · obtain ⟨b, off, c', hv, hb, -, -, -, hcs⟩ := h.open h0
    injection hv with e1 e2 e3
    subst e1 e3
    exact run_convert_bytes_arg (P := Try.prog) w 42 5 Try.underlying42 Try.underlying5 b off xs.length c xs rfl hcs 9 Try.underlying9
  · obtain rfl : xs = [] := List.eq_nil_of_length_eq_zero (by omega)
    cases a with
    | none => exact run_convert_bytes_nil w 42 5 Try.underlying42 Try.underlying5 0 c 9 Try.underlying9
    | some ad =>
      rw [run_convert_bytes_string w 42 9 5 (some ad) _ c Try.underlying42 Try.underlying5 Try.underlying9]
      simp [Conv.bytesToString, loadCells, strOfNums]
      try rfl
theorem cat_step {L : List (List Int)} {i : Nat} {l : List Int} (h : L[i]? = some l) : strOfNums (L.take i).flatten ++ strOfNums l = strOfNums (L.take (i + 1)).flatten := by
  rw [strOfNums_append, List.take_add_one, h]
  simp
theorem flat_le {L : List (List Int)} {i : Nat} : (L.take i).flatten.length ≤ L.flatten.length := by
  have h := List.take_append_drop i L
  have h2 := congrArg (fun L => (List.flatten L).length) h
  simp only [List.flatten_append, List.length_append] at h2
  omega
theorem part_le {L : List (List Int)} {i : Nat} {l : List Int} (h : L[i]? = some l) : l.length ≤ L.flatten.length := by
  have h1 := @flat_le L (i + 1)
  rw [List.take_add_one, h] at h1
  simp at h1
  rw [List.length_flatten]
  omega
set_option maxHeartbeats 2000000 in
set_option maxRecDepth 100000 in
theorem difflines_walk {S : Nat → Prop} (v : Value) (xs : List Int) (w : World) (h : Rd .u8 S w v xs) (hx : AllB xs) (hl : xs.length ≤ 1048576) :
    Calls Try.prog 4 #[v] w fun e w' => e = .returned (.bool true) ∧ Below w.heap.size w w' := by
  have K0 := Kept.mk (awake_any w)
  obtain ⟨a, c, rfl, -⟩ := h.form
  have KR := Kept.mk h
  have KX := Kept.mk hx
  clear h hx
  go_enter Try.func4, Try.ntmps4
  go_wp2_with fail
  refine Calls.mono K0.out (fun e w1 hp => ?_)
  obtain ⟨rfl, hb1⟩ := hp
  have KB1 := Kept.mk hb1
  have K1 := Kept.mk (lines_any _ xs w1 (KR.out.later hb1 (Nat.le_refl _)) KX.out (by omega))
  clear hb1 K0
  go_wp2_with fail
  refine Calls.mono K1.out (fun e w2 hp => ?_)
  obtain ⟨v2, rfl, ho2, hb2⟩ := hp
  obtain ⟨p2, c2, hv2⟩ := ho2.form
  subst hv2
  have KO := Kept.mk ho2.rd
  have KB2 := Kept.mk (KB1.out.trans (hb2.mono KB1.out.size))
  have hLl : (lnS xs).length ≤ 1048576 := Nat.le_trans (lnS_len xs) hl
  have KL : Kept (∀ i s, (lnS xs)[i]? = some s → ∃ b off, p2 = some ⟨b, off, none⟩ ∧ w2.cell? ⟨b, off + i, none⟩ = some (.string s)) := ⟨fun i s hs => by
    obtain ⟨p', c', he, -, hr⟩ := KO.out
    have h0 : 0 < ((lnS xs).map Value.string).length := by rw [List.length_map]; have := (List.getElem?_eq_some_iff.1 hs).1; omega
    obtain ⟨b, off, hp, -, hrr⟩ := hr h0
    injection he with e1 e2 e3
    exact ⟨b, off, by rw [e1, hp], hrr i _ (by rw [List.getElem?_map, hs]; rfl)⟩⟩
  have Kst : Kept (∀ i, i < (lnS xs).length → ∃ s, (lnS xs)[i]? = some s ∧ strOfNums ((lnsF xs).take i).flatten ++ s = strOfNums ((lnsF xs).take (i + 1)).flatten ∧ (strOfNums ((lnsF xs).take i).flatten).size + s.size ≤ 9223372036854775807) := ⟨fun i hi => by
    have hi2 : i < (lnsF xs).length := by unfold lnS at hi; rw [List.length_map] at hi; exact hi
    obtain ⟨l, hl2⟩ : ∃ l, (lnsF xs)[i]? = some l := ⟨_, List.getElem?_eq_getElem hi2⟩
    refine ⟨strOfNums l, by unfold lnS; rw [List.getElem?_map, hl2]; rfl, cat_step hl2, ?_⟩
    rw [strOfNums_size, strOfNums_size]
    have h1 := @flat_le (lnsF xs) i
    have h2 := part_le hl2
    rw [lnsF_join] at h1 h2
    omega⟩
  have Kend : Kept (strOfNums ((lnsF xs).take (lnS xs).length).flatten = strOfNums xs) := ⟨by
    unfold lnS
    rw [List.length_map, List.take_length, lnsF_join]⟩
  have K3 := Kept.mk (docLines_any _ xs w2 (KR.out.later KB2.out (Nat.le_refl _)) (by omega))
  clear K1 ho2 hb2
  generalize hLe : lnS xs = L at *
  clear hLe
  go_upto_region 6 with fail
  go_loopw [4, 13] (fun av iv wr => ∃ i : Nat, i ≤ L.length ∧ av = .string (strOfNums ((lnsF xs).take i).flatten) ∧ iv = .int .i64 i ∧ wr = w2) (fun _ iv _ => L.length - (intOf iv).toNat)
  case atStart => exact ⟨0, Nat.zero_le _, rfl, rfl, rfl⟩
  case round =>
    obtain ⟨i, hil, rfl, rfl, rfl⟩ := hrel
    by_cases hlt : i < L.length
    · have hii : (i : Int) < (L.length : Int) := by omega
      have m0 : (0 : Int) ≤ (i : Int) := by omega
      have m1 : IntKind.i64.wrap ((i : Int) + 1) = (i : Int) + 1 := wr64 (by omega) (by omega)
      obtain ⟨s, hs, hcat, hsz⟩ := Kst.out i hlt
      obtain ⟨b, off, hp, hcell⟩ := KL.out i s hs
      subst hp
      have hadd := fun W => run_string_add_sum (P := Try.prog) W _ _ hsz
      rw [hcat] at hadd
      have KA := Kept.mk hcat
      generalize hcur : strOfNums ((lnsF xs).take i).flatten = cur at *
      generalize hnx : strOfNums ((lnsF xs).take (i + 1)).flatten = nx at *
      have Knx := Kept.mk hnx
      clear hcat hsz hs hcur hnx
      go_wp2
      go_roundw
      case rel => exact ⟨i + 1, hlt, by rw [Knx.out], by go_num, trivial⟩
      case measure => simp [intOf]; omega
    · have hii : ¬ (i : Int) < (L.length : Int) := by omega
      obtain rfl : i = L.length := by omega
      rw [Kend.out]
      go_wp2_with fail
      refine Calls.mono K3.out (fun e w3 hp => ?_)
      obtain ⟨v3, rfl, ho3, hb3⟩ := hp
      obtain ⟨p3, c3, hv3⟩ := ho3.form
      subst hv3
      have KB3 := Kept.mk (KB2.out.trans (hb3.mono KB2.out.size))
      have K4 : Kept (Calls Try.prog 22 #[.slice p2 L.length c2, .slice p3 L.length c3] w3 fun e w' => e = .returned (.bool true) ∧ Below w3.heap.size w3 w') := ⟨by
        have h := sameLines_any _ _ L L w3 (KO.out.later hb3 (Nat.le_refl _)) ho3.rd (by omega)
        rw [decide_eq_true rfl] at h
        exact h⟩
      clear ho3 hb3 K3
      go_wp2_with fail
      refine Calls.mono K4.out (fun e w4 hp => ?_)
      obtain ⟨rfl, hb4⟩ := hp
      have KB4 := Kept.mk (KB3.out.trans (hb4.mono KB3.out.size))
      have hcv := text_of (KR.out.later KB4.out (Nat.le_refl _))
      have heq : ((strOfNums xs).toList == (strOfNums xs).toList) = true := beq_self_eq_true _
      generalize strOfNums xs = sx at *
      clear hb4 K4
      go_wp2
      go_ret
      exact ⟨rfl, KB4.out⟩
end Go.Proofs.Ytjhcpmhjdhmjpaa
