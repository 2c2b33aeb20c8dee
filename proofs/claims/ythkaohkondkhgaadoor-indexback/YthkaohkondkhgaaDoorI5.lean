/-
  Check.
-/
import Derived.Test.YthkaohkondkhgaaDoorI4
namespace Go.Proofs.YthkaohkondkhgaaDoor
open Go.RowKit

def ordB : List SlC → Bool
  | [] => true
  | a :: r => (match r with | [] => true | b :: _ => behB a b) && ordB r
theorem ordB_iff : ∀ es : List SlC, ordB es = true ↔ InOrd es
  | [] => ⟨fun _ k h => by simp at h, fun _ => rfl⟩
  | [a] => ⟨fun _ k h => by simp at h, fun _ => rfl⟩
  | a :: b :: r => by
    have ih := ordB_iff (b :: r)
    unfold ordB
    rw [Bool.and_eq_true, ih]
    constructor
    · intro ⟨h1, h2⟩ k h
      cases k with
      | zero => exact h1
      | succ k => exact h2 k (by simp at h ⊢; omega)
    · intro h
      exact ⟨h 0 (by simp), fun k hk => h (k + 1) (by simp at hk ⊢; omega)⟩
/-- Check's answer. -/
def chkE (es : List SlC) : Int := if es.any outF = true then 1 else if 4096 < es.length then 2 else if es.any unnF = true then 3 else if es.any noFl = true then 4 else if ordB es = true then 0 else 4
theorem chk_ok {es : List SlC} : chkE es = 0 ↔ es.any outF = false ∧ es.length ≤ 4096 ∧ es.any unnF = false ∧ es.any noFl = false ∧ ordB es = true := by
  unfold chkE
  constructor
  · intro h
    split at h
    · omega
    · split at h
      · omega
      · split at h
        · omega
        · split at h
          · omega
          · split at h
            · simp_all
            · omega
  · intro ⟨h1, h2, h3, h4, h5⟩
    rw [if_neg (by simp [h1]), if_neg (by omega), if_neg (by simp [h3]), if_neg (by simp [h4]), if_pos h5]
set_option maxHeartbeats 1000000 in
set_option maxRecDepth 100000 in
theorem check_any (v : Value) (es : List SlC) (w : World) (hg : Gl w) (hr : RdZ w v es) (hl : es.length ≤ 4398046511104) :
    Calls Tryd.prog 13 #[v] w fun e w' => e = .returned (.int .i64 (chkE es)) ∧ Below w.heap.size w w' := by
  have hrd := hr
  obtain ⟨a, c, hv, -⟩ := hr
  subst hv
  have K1 := Kept.mk (containsFunc_outside _ es w hg hrd hl)
  have K2 : Kept (∀ W, CC w W → Calls Tryd.prog 25 #[.slice a es.length c, .func (.func 27) #[] #[]] W fun e w' => e = .returned (.bool (es.any unnF)) ∧ CC w w') := ⟨fun W hW => (containsFunc_unnamed _ es W (hg.later hW) (RdZ.later hrd hW) hl).mono fun e w' hp => ⟨hp.1, hW.on hp.2⟩⟩
  have K3 : Kept (∀ W, CC w W → Calls Tryd.prog 25 #[.slice a es.length c, .func (.func 28) #[] #[]] W fun e w' => e = .returned (.bool (es.any noFl)) ∧ CC w w') := ⟨fun W hW => (containsFunc_noFile _ es W (hg.later hW) (RdZ.later hrd hW) hl).mono fun e w' hp => ⟨hp.1, hW.on hp.2⟩⟩
  have K4 : Kept (∀ W, CC w W → Calls Tryd.prog 29 #[.slice a es.length c] W fun e w' => e = .returned (.bool (ordB es)) ∧ CC w w') := ⟨fun W hW => (inOrder_any _ es W (RdZ.later hrd hW) hl).mono fun e w' hp => by
    obtain ⟨r, rfl, h1, h2⟩ := hp
    refine ⟨?_, hW.on h2⟩
    have : r = ordB es := by
      rw [Bool.eq_iff_iff, h1, ordB_iff]
    rw [this]⟩
  have KE : Kept (chkE es = if es.any outF = true then 1 else if 4096 < es.length then 2 else if es.any unnF = true then 3 else if es.any noFl = true then 4 else if ordB es = true then 0 else 4) := ⟨rfl⟩
  generalize chkE es = o at *
  generalize es.any outF = q1 at *
  generalize es.any unnF = q2 at *
  generalize es.any noFl = q3 at *
  generalize ordB es = q4 at *
  clear hg hrd
  go_enter Tryd.func13, Tryd.ntmps13
  go_wp2_with fail
  refine Calls.mono K1.out (fun e w1 hp => ?_)
  obtain ⟨rfl, hb1⟩ := hp
  have KB1 : Kept (CC w w1) := ⟨hb1⟩
  clear hb1 K1
  cases q1 with
  | true =>
    go_wp2
    go_ret
    exact ⟨by rw [KE.out]; rfl, KB1.out⟩
  | false =>
    by_cases h4 : 4096 < es.length
    · have h4i : (4096 : Int) < (es.length : Int) := by omega
      have KH := Kept.mk h4
      clear h4
      go_wp2
      go_ret
      exact ⟨by rw [KE.out, if_neg (by simp), if_pos KH.out]; rfl, KB1.out⟩
    · have h4i : ¬ (4096 : Int) < (es.length : Int) := by omega
      have KH : Kept (o = if q2 = true then 3 else if q3 = true then 4 else if q4 = true then 0 else 4) := ⟨by rw [KE.out, if_neg (by simp), if_neg h4]⟩
      clear h4
      go_wp2_with fail
      refine Calls.mono (K2.out _ KB1.out) (fun e w2 hp => ?_)
      obtain ⟨rfl, hb2⟩ := hp
      have KB2 := Kept.mk hb2
      clear hb2 K2
      cases q2 with
      | true =>
        go_wp2
        go_ret
        exact ⟨by rw [KH.out]; rfl, KB2.out⟩
      | false =>
        go_wp2_with fail
        refine Calls.mono (K3.out _ KB2.out) (fun e w3 hp => ?_)
        obtain ⟨rfl, hb3⟩ := hp
        have KB3 := Kept.mk hb3
        clear hb3 K3
        cases q3 with
        | true =>
          go_wp2
          go_ret
          exact ⟨by rw [KH.out]; rfl, KB3.out⟩
        | false =>
          go_wp2_with fail
          refine Calls.mono (K4.out _ KB3.out) (fun e w4 hp => ?_)
          obtain ⟨rfl, hb4⟩ := hp
          have KB4 := Kept.mk hb4
          clear hb4 K4
          cases q4 with
          | true =>
            go_wp2
            go_ret
            exact ⟨by rw [KH.out]; rfl, KB4.out⟩
          | false =>
            go_wp2
            go_ret
            exact ⟨by rw [KH.out]; rfl, KB4.out⟩
end Go.Proofs.YthkaohkondkhgaaDoor
