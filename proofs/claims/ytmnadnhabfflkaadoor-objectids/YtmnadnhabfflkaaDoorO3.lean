/-
  FormatInt, modeDigits.
-/
import Derived.Test.YtmnadnhabfflkaaDoorO2
namespace Go.Proofs.YtmnadnhabfflkaaDoor
open Go.RowKit

theorem Gv.later {w w' : World} (h : Gv w) (hb : Below w.heap.size w w') : Gv w' := by
  have hl := h.lo
  exact ⟨var_far gl_pow (hb.block 1 (by omega)) h.pow, h.rnd.far hb h.rnd.1, by rw [hb.cell (p := ⟨4, 7, none⟩) (by show 4 < w.heap.size; omega)]; exact h.tz, Nat.le_trans hl hb.size⟩
theorem itoaV_any (n : Int) (w : World) (hg : Gv w) (h0 : -9223372036854775808 ≤ n) (h1 : n ≤ 9223372036854775807) :
    Calls Tryd.prog 13 #[.int .i64 n] w fun e w' => e = .returned (.string ⟨(Lib.itoa n).toArray⟩) ∧ Below w.heap.size w w' :=
  (Tryd.strconv_Itoa n h0 h1 w hg.pow).mono fun e w' hp => by
    obtain ⟨h1, k, os, rfl⟩ := hp
    exact ⟨h1, below_grow w k os⟩
set_option maxHeartbeats 400000 in
set_option maxRecDepth 100000 in
theorem ifmt_any (n : Nat) (w : World) (hg : Gv w) (h0 : n < 9223372036854775808) :
    Calls Tryd.prog 38 #[.int .i64 (n : Int), .int .i64 8] w fun e w' => e = .returned (.string (strOfNums (octF 22 n))) ∧ Below w.heap.size w w' := by
  have K1 := Kept.mk (formatBits_any n w hg (by omega))
  have hn : ¬ (n : Int) < 0 := by omega
  clear hg
  generalize strOfNums (octF 22 n) = S at *
  go_enter Tryd.func38, Tryd.ntmps38
  go_wp2_with fail
  refine Calls.mono K1.out (fun e w1 hp => ?_)
  obtain ⟨rfl, hb⟩ := hp
  have KB := Kept.mk hb
  clear hb
  go_wp2
  go_ret
  exact ⟨rfl, KB.out⟩
set_option maxHeartbeats 400000 in
set_option maxRecDepth 100000 in
theorem fmt_any (n : Nat) (w : World) (hg : Gv w) (h0 : n < 9223372036854775808) :
    Calls Tryd.prog 36 #[.int .i64 (n : Int), .int .i64 8] w fun e w' => e = .returned (.string (strOfNums (octF 22 n))) ∧ Below w.heap.size w w' := by
  have K1 := Kept.mk (ifmt_any n w hg h0)
  clear hg
  generalize strOfNums (octF 22 n) = S at *
  go_enter Tryd.func36, Tryd.ntmps36
  go_wp2_with fail
  refine Calls.mono K1.out (fun e w1 hp => ?_)
  obtain ⟨rfl, hb⟩ := hp
  have KB := Kept.mk hb
  clear hb
  go_wp2
  go_ret
  exact ⟨rfl, KB.out⟩
set_option maxHeartbeats 400000 in
set_option maxRecDepth 100000 in
theorem modeDigits_any (n : Nat) (w : World) (hg : Gv w) (h0 : n < 9223372036854775808) :
    Calls Tryd.prog 21 #[.int .i64 (n : Int)] w fun e w' => e = .returned (.string (strOfNums (octF 22 n))) ∧ Below w.heap.size w w' := by
  have K1 := Kept.mk (fmt_any n w hg h0)
  clear hg
  generalize strOfNums (octF 22 n) = S at *
  go_enter Tryd.func21, Tryd.ntmps21
  go_wp2_with fail
  refine Calls.mono K1.out (fun e w1 hp => ?_)
  obtain ⟨rfl, hb⟩ := hp
  have KB := Kept.mk hb
  clear hb
  go_wp2
  go_ret
  exact ⟨rfl, KB.out⟩
end Go.Proofs.YtmnadnhabfflkaaDoor
