/-
  Walks: tell, Text.
-/
import Derived.Test.YtjhcpmhjdhmjpaaVK
namespace Go.Proofs.Ytjhcpmhjdhmjpaa
open Go.RowKit Go.Shelf

/-- A line told, with its sign. -/
def tl (sg : UInt8) (s : ByteArray) : List UInt8 := sg :: (s.data.toList ++ if Lib.hasSuffix s.data.toList [10] then [] else [10, 92, 10])
set_option maxHeartbeats 1000000 in
set_option maxRecDepth 100000 in
theorem tell_any (B b : Nat) (l : List UInt8) (sg : UInt8) (s : ByteArray) (w : World) (h : Lib.IsBuilder 70 5 B b (Lib.byteCells l) w) (hlen : (l ++ tl sg s).length ≤ 140737488355328) (hBw : B ≤ w.heap.size) :
    Calls Try.prog 36 #[.pointer (some ⟨b, 0, none⟩), .string ⟨#[sg]⟩, .string s] w fun e w' => e = .returned (.tuple #[]) ∧ Lib.IsBuilder 70 5 B b (Lib.byteCells (l ++ tl sg s)) w' ∧ Below B w w' := by
  have hl2 : l.length + 1 + s.size ≤ 140737488355328 := by
    unfold tl at hlen
    simp only [List.length_append, List.length_cons] at hlen
    have : s.data.toList.length = s.size := by rw [Array.length_toList]; rfl
    omega
  have Kl := Kept.mk hlen
  have K1 := Kept.mk (writeString_any B b _ ⟨#[sg]⟩ w h (by rw [Lib.byteCells_length]; show l.length + 1 ≤ _; omega) hBw)
  clear h hlen
  go_enter Try.func36, Try.ntmps36
  go_wp2_with fail
  refine Calls.mono K1.out (fun e w1 hp => ?_)
  obtain ⟨rfl, h1, hb1⟩ := hp
  clear K1
  have e1 : Lib.byteCells l ++ Lib.strCells ⟨#[sg]⟩ = Lib.byteCells (l ++ [sg]) := by rw [Lib.strCells_eq, Lib.byteCells_append]
  rw [e1] at h1
  have hs1 := hb1.size
  have K2 := Kept.mk (writeString_any B b _ s w1 (.inr h1) (by rw [Lib.byteCells_length, List.length_append]; simp only [List.length_singleton]; omega) (by omega))
  have KB1 := Kept.mk hb1
  clear h1 hb1 e1
  go_wp2_with fail
  refine Calls.mono K2.out (fun e w2 hp => ?_)
  obtain ⟨rfl, h2, hb2⟩ := hp
  have e2 : Lib.byteCells (l ++ [sg]) ++ Lib.strCells s = Lib.byteCells (l ++ [sg] ++ s.data.toList) := by rw [Lib.strCells_eq, ← Lib.byteCells_append]
  rw [e2] at h2
  have hs2 := hb2.size
  have KB2 := Kept.mk (KB1.out.trans hb2)
  have KH := Kept.mk h2
  have K3 := Kept.mk (Try.strings_HasSuffix s ⟨#[10]⟩ w2 (by omega))
  clear h2 hb2 e2 K2
  go_wp2_with fail
  refine Calls.mono K3.out (fun e w3 hp => ?_)
  obtain ⟨rfl, hw⟩ := hp
  subst w3
  clear K3
  by_cases hx : Lib.hasSuffix s.data.toList [10] = true
  · have KE : Kept (l ++ [sg] ++ s.data.toList = l ++ tl sg s) := ⟨by unfold tl; rw [if_pos hx]; simp⟩
    go_wp2
    refine bodyPost_end (results_none rfl _ _ _) rfl ?_
    exact ⟨rfl, by rw [← KE.out]; exact .inr KH.out, KB2.out⟩
  · have hx : Lib.hasSuffix s.data.toList [10] = false := by simpa using hx
    have KE : Kept (l ++ [sg] ++ s.data.toList ++ [10, 92, 10] = l ++ tl sg s) := ⟨by unfold tl; rw [hx]; simp⟩
    have K4 := Kept.mk (writeString_any B b _ ⟨#[10, 92, 10]⟩ w2 (.inr KH.out) (by have h := Kl.out; rw [← KE.out, List.length_append] at h; rw [Lib.byteCells_length]; exact h) (by omega))
    go_wp2_with fail
    refine Calls.mono K4.out (fun e w3 hp => ?_)
    obtain ⟨rfl, h3, hb3⟩ := hp
    have e3 : Lib.byteCells (l ++ [sg] ++ s.data.toList) ++ Lib.strCells ⟨#[10, 92, 10]⟩ = Lib.byteCells (l ++ tl sg s) := by rw [Lib.strCells_eq, ← Lib.byteCells_append, ← KE.out]
    rw [e3] at h3
    have KB3 := Kept.mk (KB2.out.trans hb3)
    have KH3 := Kept.mk h3
    clear h3 hb3 e3 K4
    go_wp2
    refine bodyPost_end (results_none rfl _ _ _) rfl ?_
    exact ⟨rfl, .inr KH3.out, KB3.out⟩
end Go.Proofs.Ytjhcpmhjdhmjpaa
