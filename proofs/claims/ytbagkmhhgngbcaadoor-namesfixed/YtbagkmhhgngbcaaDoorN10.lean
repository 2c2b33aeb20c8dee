/-
  Walks: awake.
-/
import Derived.Test.YtbagkmhhgngbcaaDoorN9
namespace Go.Proofs.YtbagkmhhgngbcaaDoor
open Go.RowKit

def awI : Idt := ⟨⟨#[65, 32, 66]⟩, ⟨#[97, 64, 98]⟩, 5, -90⟩
def awS : ByteArray := ⟨#[65, 32, 66, 32, 60, 97, 64, 98, 62, 32, 53, 32, 45, 48, 49, 51, 48]⟩
theorem dec5 : Lib.decDigits 5 = [53] := by rw [Lib.decDigits, dif_pos (by omega)]; rfl
theorem dec10130 : Lib.decDigits 10130 = [49, 48, 49, 51, 48] := by
  rw [Lib.decDigits, dif_neg (by omega), Lib.decDigits, dif_neg (by omega), Lib.decDigits, dif_neg (by omega), Lib.decDigits, dif_neg (by omega), Lib.decDigits, dif_pos (by omega)]
  rfl
theorem aw_put : putS awI = awS ∧ putE awI = 0 := by
  have h1 : idF awI = true := by kernel_rfl
  have h2 : putB awI = awS := by
    unfold putB zoneB zdB awI
    simp only [Lib.itoa]
    rw [if_neg (by omega), if_pos (by omega), if_neg (by omega)]
    have e1 : (5 : Int).toNat = 5 := rfl
    have e2 : (10000 + (((-90 : Int).natAbs : Nat) : Int) / 60 * 100 + (((-90 : Int).natAbs : Nat) : Int) % 60).toNat = 10130 := rfl
    rw [e1, e2, dec5, dec10130]
    rfl
  unfold putS putE
  rw [if_pos h1, if_pos h1]
  exact ⟨h2, rfl⟩
theorem aw_prs : prsF awS = (awI, 0) := by
  have h : rfF awS = awI := by kernel_rfl
  unfold prsF
  rw [h, if_pos ⟨by kernel_rfl, by have := aw_put.1; unfold putS at this; rw [if_pos (by kernel_rfl)] at this; exact this⟩]
theorem aw_p1 : pathF ⟨#[97, 47, 98, 46, 99]⟩ = true := by kernel_rfl
theorem aw_p2 : pathF ⟨#[97, 47, 47, 98]⟩ = false := by kernel_rfl

set_option maxHeartbeats 2000000 in
set_option maxRecDepth 100000 in
theorem awake_any (w : World) (hg : Gl w) : Calls Tryd.prog 9 #[] w fun e w' => e = .returned (.bool true) ∧ Below w.heap.size w w' := by
  have K1 := putIdent_any awI w hg
  rw [aw_put.1, aw_put.2] at K1
  have KG : Kept (∀ w', Below w.heap.size w w' → Gl w') := ⟨fun w' h => hg.later h⟩
  have K2 : Kept (∀ w', Gl w' → Calls Tryd.prog 20 #[.string awS] w' fun e w2 => e = .returned (.tuple #[.agg #[.string ⟨#[65, 32, 66]⟩, .string ⟨#[97, 64, 98]⟩, .int .i64 5, .int .i64 (-90)], .int .i64 0]) ∧ Below w'.heap.size w' w2) := ⟨fun w' h => by
    have := parseIdent_any awS w' h (by decide)
    rw [aw_prs] at this
    exact this⟩
  have K3 : Kept (∀ w', Gl w' → Calls Tryd.prog 12 #[.string ⟨#[97, 47, 98, 46, 99]⟩] w' fun e w2 => e = .returned (.bool true) ∧ Below w'.heap.size w' w2) := ⟨fun w' h => by
    have := path_any ⟨#[97, 47, 98, 46, 99]⟩ w' h
    rw [aw_p1] at this
    exact this⟩
  have K4 : Kept (∀ w', Gl w' → Calls Tryd.prog 12 #[.string ⟨#[97, 47, 47, 98]⟩] w' fun e w2 => e = .returned (.bool false) ∧ Below w'.heap.size w' w2) := ⟨fun w' h => by
    have := path_any ⟨#[97, 47, 47, 98]⟩ w' h
    rw [aw_p2] at this
    exact this⟩
  have K1 : Kept (Calls Tryd.prog 18 #[.agg #[.string ⟨#[65, 32, 66]⟩, .string ⟨#[97, 64, 98]⟩, .int .i64 5, .int .i64 (-90)]] w fun e w' => e = .returned (.tuple #[.string awS, .int .i64 0]) ∧ Below w.heap.size w w') := ⟨K1⟩
  have hS : awS.toList = [65, 32, 66, 32, 60, 97, 64, 98, 62, 32, 53, 32, 45, 48, 49, 51, 48] := by unfold awS; rw [Lib.toList_data]
  clear hg
  generalize awS = S at *
  go_enter Tryd.func9, Tryd.ntmps9
  go_wp2_with fail
  refine Calls.mono K1.out (fun e w1 hp => ?_)
  obtain ⟨rfl, hb1⟩ := hp
  have KB1 := Kept.mk hb1
  clear hb1
  go_wp2_with fail
  refine Calls.mono (K2.out w1 (KG.out _ KB1.out)) (fun e w2 hp => ?_)
  obtain ⟨rfl, hb2⟩ := hp
  have hB2 := KB1.out.trans (hb2.mono KB1.out.size)
  obtain ⟨w3, hw3, hI3, hB3⟩ : ∃ w3, w2.alloc (.cells #[.string ⟨#[]⟩, .string ⟨#[]⟩, .int .i64 0, .int .i64 0] 27) = w3 ∧ IB w3 w2.heap.size idt0 ∧ Below w.heap.size w w3 := ⟨_, rfl, heap_alloc_new w2 _, hB2.alloc hB2.size _⟩
  have c0 := hI3.c0
  have c1 := hI3.c1
  have c2 := hI3.c2
  have c3 := hI3.c3
  have f0 := hI3.fz 0
  have f1 := hI3.fz 1
  have f2 := hI3.fz 2
  have f3 := hI3.fz 3
  have hz2 := hB2.size
  have KI3 := Kept.mk hI3
  have KB3 := Kept.mk hB3
  clear hb2 hB2 hI3 hB3
  go_upto_region 3 with fail
  obtain ⟨w4, hw4, hI4, hB4⟩ : ∃ w4, (((w3.setCell ⟨w2.heap.size, 0, none⟩ (.string ⟨#[65, 32, 66]⟩)).setCell ⟨w2.heap.size, 1, none⟩ (.string ⟨#[97, 64, 98]⟩)).setCell ⟨w2.heap.size, 2, none⟩ (.int .i64 5)).setCell ⟨w2.heap.size, 3, none⟩ (.int .i64 (-90)) = w4 ∧ IB w4 w2.heap.size awI ∧ Below w.heap.size w w4 :=
    ⟨_, rfl, ((((KI3.out).s0 _).s1 _).s2 _).s3 _, (((KB3.out.setCell hz2 _).setCell hz2 _).setCell hz2 _).setCell hz2 _⟩
  rw [hw4]
  have d3 : w4.cell? ⟨w2.heap.size, 3, none⟩ = some (.int .i64 (-90)) := hI4.c3
  have KB4 := Kept.mk hB4
  clear hw4 hw3 c0 c1 c2 c3 f0 f1 f2 f3 hI4 hB4 KI3 KB3
  go_wp2_with fail
  refine Calls.mono (K3.out w4 (KG.out _ KB4.out)) (fun e w5 hp => ?_)
  obtain ⟨rfl, hb5⟩ := hp
  have KB5 := Kept.mk (KB4.out.trans (hb5.mono KB4.out.size))
  clear hb5
  go_wp2_with fail
  refine Calls.mono (K4.out w5 (KG.out _ KB5.out)) (fun e w6 hp => ?_)
  obtain ⟨rfl, hb6⟩ := hp
  have KB6 := Kept.mk (KB5.out.trans (hb6.mono KB5.out.size))
  clear hb6
  go_wp2
  go_ret
  exact ⟨rfl, KB6.out⟩
end Go.Proofs.YtbagkmhhgngbcaaDoor
