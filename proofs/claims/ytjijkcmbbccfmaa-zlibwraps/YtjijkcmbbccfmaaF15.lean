/-
  Walks: the document's symbol.
-/
import Derived.Test.YtjijkcmbbccfmaaF14
namespace Go.Proofs.Ytjijkcmbbccfmaa
open Go.RowKit

set_option maxHeartbeats 1000000 in
set_option maxRecDepth 100000 in
theorem dsymbol4_any {W0 w : World} {rb : Nat} {ob : Option Nat} {L : List Int} (s : Nat) (hs : s < 288) (h : Bt W0 w rb ob L) (hl : L.length + 9 ≤ 1073741824) :
    Calls Try.prog 37 #[.pointer (some ⟨rb, 0, none⟩), .int .i64 s] w fun e w' => AfterB W0 w w' rb ob (L ++ symL s) e := by
  unfold symL
  by_cases h1 : s < 144
  · rw [if_pos h1]
    have KC := Kept.mk (dcode_any (48 + s) 8 (by omega) (by omega) h (by omega))
    have hd1 : decide ((s : Int) < 144) = true := by simp; omega
    clear h
    go_enter Try.func37, Try.ntmps37
    go_wp2_with (go_at_call 44; refine Calls.mono KC.out (fun e w2 hp => ?_); obtain ⟨rfl, hW⟩ := hp; have KW := Kept.mk hW; clear hW)
    refine bodyPost_end (results_none rfl _ _ _) rfl ?_
    exact ⟨rfl, KW.out⟩
  · rw [if_neg h1]
    have hd1 : decide ((s : Int) < 144) = false := by simp; omega
    by_cases h2 : s < 256
    · rw [if_pos h2]
      have KC := Kept.mk (dcode_any (400 + s - 144) 9 (by omega) (by omega) h (by omega))
      rw [show ((400 + s - 144 : Nat) : Int) = 400 + (s : Int) - 144 from by omega] at KC
      have hd2 : decide ((s : Int) < 256) = true := by simp; omega
      clear h
      go_enter Try.func37, Try.ntmps37
      go_wp2_with (go_at_call 44; refine Calls.mono KC.out (fun e w2 hp => ?_); obtain ⟨rfl, hW⟩ := hp; have KW := Kept.mk hW; clear hW)
      refine bodyPost_end (results_none rfl _ _ _) rfl ?_
      exact ⟨rfl, KW.out⟩
    · rw [if_neg h2]
      have hd2 : decide ((s : Int) < 256) = false := by simp; omega
      by_cases h3 : s < 280
      · rw [if_pos h3]
        have KC := Kept.mk (dcode_any (s - 256) 7 (by omega) (by omega) h (by omega))
        rw [show ((s - 256 : Nat) : Int) = (s : Int) - 256 from by omega] at KC
        have hd3 : decide ((s : Int) < 280) = true := by simp; omega
        clear h
        go_enter Try.func37, Try.ntmps37
        go_wp2_with (go_at_call 44; refine Calls.mono KC.out (fun e w2 hp => ?_); obtain ⟨rfl, hW⟩ := hp; have KW := Kept.mk hW; clear hW)
        refine bodyPost_end (results_none rfl _ _ _) rfl ?_
        exact ⟨rfl, KW.out⟩
      · rw [if_neg h3]
        have KC := Kept.mk (dcode_any (192 + s - 280) 8 (by omega) (by omega) h (by omega))
        rw [show ((192 + s - 280 : Nat) : Int) = 192 + (s : Int) - 280 from by omega] at KC
        have hd3 : decide ((s : Int) < 280) = false := by simp; omega
        clear h
        go_enter Try.func37, Try.ntmps37
        go_wp2_with (go_at_call 44; refine Calls.mono KC.out (fun e w2 hp => ?_); obtain ⟨rfl, hW⟩ := hp; have KW := Kept.mk hW; clear hW)
        refine bodyPost_end (results_none rfl _ _ _) rfl ?_
        exact ⟨rfl, KW.out⟩
end Go.Proofs.Ytjijkcmbbccfmaa
