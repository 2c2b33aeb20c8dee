/-
  awake.
-/
import Derived.Test.YthkaohkondkhgaaDoorIP
namespace Go.Proofs.YthkaohkondkhgaaDoor
open Go.RowKit

def idA : List Int := 1 :: List.replicate 31 0
def eA : SlC := ⟨⟨#[97]⟩, 0, 33188, idA, 5, 9⟩
set_option maxRecDepth 100000 in
theorem eA_ok : eA.ok := ⟨rfl, (fun x hx => by unfold eA idA at hx; simp at hx; omega), by unfold i64B eA; decide, by unfold i64B eA; decide, by unfold i64B eA; decide, by unfold i64B eA; decide, by unfold eA; decide⟩
set_option maxRecDepth 100000 in
theorem path_a : pathF ⟨#[97]⟩ = true := by kernel_rfl
theorem chkA : chkE [eA] = 0 := by
  rw [chk_ok]
  refine ⟨rfl, by simp, ?_, rfl, rfl⟩
  simp [unnF, eA, path_a]
theorem ok_one {e : SlC} (h : e.ok) : ∀ x ∈ [e], x.ok := fun x hx => by simp at hx; rw [hx]; exact h
theorem putA_len : (putF [eA]).length = 124 := by
  rw [put_len chkA]
  unfold bodL
  rw [List.length_append, List.length_append, Nu.bigF_length, List.flatMap_cons, List.length_append, sb_len eA rfl]
  rfl
theorem rdZ_one {w : World} {b : Nat} {e : SlC} (he : e.ok) (h : w.heap[b]? = some (.cells e.l.toArray 41)) : RdZ w (.slice (some ⟨b, 0, none⟩) 1 1) [e] :=
  ⟨some ⟨b, 0, none⟩, 1, rfl, Nat.le_refl _, ok_one he, fun _ => ⟨b, 0, rfl, (Array.getElem?_eq_some_iff.1 h).1, fun i hi j u hu => by
    simp at hi
    subst hi
    unfold World.cell?
    simp only [h]
    simpa using hu⟩⟩
set_option maxHeartbeats 1000000 in
set_option maxRecDepth 100000 in
theorem awake_any (w : World) (hg : Gl w) : Calls Tryd.prog 8 #[] w fun e w' => e = .returned (.bool true) ∧ Below w.heap.size w w' := by
  obtain ⟨w1, hw1, hB1, hz1, hb1, -⟩ := SlC.box w eA_ok
  have hrd1 := rdZ_one eA_ok hb1
  have KP := Kept.mk (put_any _ [eA] w1 (hg.later hB1) hrd1 (by simp))
  have KR1 := Kept.mk hrd1
  have KB1 := Kept.mk hB1
  have KG := Kept.mk hg
  have hpl := putA_len
  obtain ⟨hpe, hpL⟩ := prs_put (ok_one eA_ok) chkA
  rw [chkA] at KP
  have KAp := Kept.mk (all_put (ok_one eA_ok))
  obtain ⟨Q, hQ⟩ : ∃ Q, putF [eA] = Q := ⟨_, rfl⟩
  rw [hQ] at KP hpl hpe hpL KAp
  have hw1' : w.alloc (.cells #[.string ⟨#[97]⟩, .int .i64 0, .int .i64 33188, .int .u8 1, .int .u8 0, .int .u8 0, .int .u8 0, .int .u8 0, .int .u8 0, .int .u8 0, .int .u8 0, .int .u8 0, .int .u8 0, .int .u8 0, .int .u8 0, .int .u8 0, .int .u8 0, .int .u8 0, .int .u8 0, .int .u8 0, .int .u8 0, .int .u8 0, .int .u8 0, .int .u8 0, .int .u8 0, .int .u8 0, .int .u8 0, .int .u8 0, .int .u8 0, .int .u8 0, .int .u8 0, .int .u8 0, .int .u8 0, .int .u8 0, .int .u8 0, .int .i64 5, .int .i64 9] 41) = w1 := hw1
  have KpL := Kept.mk hpL
  have Kpe := Kept.mk hpe
  have Kpl := Kept.mk hpl
  clear hrd1 hB1 hb1 hz1 hg hpL hpe hpl hQ hw1
  go_enter Tryd.func8, Tryd.ntmps8
  go_wp2_with fail
  try rw [hw1']
  clear hw1'
  refine Calls.mono KP.out (fun x w2 hp => ?_)
  obtain ⟨v2, rfl, hO2, hb2⟩ := hp
  obtain ⟨a2, c2, rfl, -⟩ := hO2.rd.form
  have KP2 := Kept.mk (parse_any _ Q w2 ((KG.out.later KB1.out).later hb2) hO2.rd KAp.out)
  rw [Kpe.out, KpL.out] at KP2
  have KB2 := Kept.mk (KB1.out.trans (hb2.mono KB1.out.size))
  have KR2 := Kept.mk (KR1.out.later hb2)
  clear hO2 hb2 KP
  go_wp2_with fail
  refine Calls.mono KP2.out (fun x w3 hp => ?_)
  obtain ⟨v3, rfl, hO3, hb3⟩ := hp
  obtain ⟨a3, c3, rfl, -⟩ := hO3.form
  have KB3 := Kept.mk (KB2.out.trans (hb3.mono KB2.out.size))
  have KSm := Kept.mk (sameZ_any _ _ [eA] w3 (KR2.out.later hb3) hO3.rd (by simp))
  have hql : (Q.length : Int) = 124 := by rw [Kpl.out]; rfl
  clear hO3 hb3 KP2 KR2 KR1
  go_wp2_with fail
  refine Calls.mono KSm.out (fun x w4 hp => ?_)
  obtain ⟨rfl, hb4⟩ := hp
  have KB4 := Kept.mk (KB3.out.trans (hb4.mono KB3.out.size))
  clear hb4 KSm
  go_wp2
  go_ret
  exact ⟨rfl, KB4.out⟩
end Go.Proofs.YthkaohkondkhgaaDoor
