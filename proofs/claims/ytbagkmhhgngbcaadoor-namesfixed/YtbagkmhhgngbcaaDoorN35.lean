/-
  The walk of NamesMay.
-/
import Derived.Test.YtbagkmhhgngbcaaDoorN10
import Derived.Test.YtbagkmhhgngbcaaDoorN34
namespace Go.Proofs.YtbagkmhhgngbcaaDoor
open Go.RowKit

set_option maxHeartbeats 2000000 in
set_option maxRecDepth 100000 in
theorem may_walk (s : ByteArray) (m : Int) (w : World) (hg : Gl w) (hs : s.size < 4294967281) :
    Calls Tryd.prog 3 #[.string s, .int .i64 m] w fun e w' => e = .returned (.bool true) ∧ Below w.heap.size w w' := by
  have KA := Kept.mk (awake_any w hg)
  have KG : Kept (∀ w', Below w.heap.size w w' → Gl w') := ⟨fun w' h => hg.later h⟩
  have K0 : Kept (∀ w', Below w.heap.size w w' → Calls Tryd.prog 10 #[.string s] w' fun e w2 => e = .returned (.bool (nameF s)) ∧ Below w.heap.size w w2) := ⟨fun w' h => (name_any s w').mono fun e w2 hp => ⟨hp.1, h.trans (hp.2.mono h.size)⟩⟩
  have K1 : Kept (∀ w', Below w.heap.size w w' → Calls Tryd.prog 11 #[.string s] w' fun e w2 => e = .returned (.bool (nameF s)) ∧ Below w.heap.size w w2) := ⟨fun w' h => (rname_any s w').mono fun e w2 hp => ⟨hp.1, h.trans (hp.2.mono h.size)⟩⟩
  have K2 : Kept (∀ w', Below w.heap.size w w' → Calls Tryd.prog 12 #[.string s] w' fun e w2 => e = .returned (.bool (pathF s)) ∧ Below w.heap.size w w2) := ⟨fun w' h => (path_any s w' (KG.out w' h)).mono fun e w2 hp => ⟨hp.1, h.trans (hp.2.mono h.size)⟩⟩
  have K3 : Kept (∀ w', Below w.heap.size w w' → Calls Tryd.prog 13 #[.string s] w' fun e w2 => e = .returned (.bool (pathF s)) ∧ Below w.heap.size w w2) := ⟨fun w' h => (rpath_any s w' hs).mono fun e w2 hp => ⟨hp.1, h.trans (hp.2.mono h.size)⟩⟩
  have K4 : Kept (∀ w', Below w.heap.size w w' → Calls Tryd.prog 14 #[.string s] w' fun e w2 => e = .returned (.bool (refF s)) ∧ Below w.heap.size w w2) := ⟨fun w' h => (ref_any s w' (KG.out w' h)).mono fun e w2 hp => ⟨hp.1, h.trans (hp.2.mono h.size)⟩⟩
  have K5 : Kept (∀ w', Below w.heap.size w w' → Calls Tryd.prog 15 #[.string s] w' fun e w2 => e = .returned (.bool (refF s)) ∧ Below w.heap.size w w2) := ⟨fun w' h => (rref_any s w' hs).mono fun e w2 hp => ⟨hp.1, h.trans (hp.2.mono h.size)⟩⟩
  have K6 : Kept (∀ w', Below w.heap.size w w' → Calls Tryd.prog 16 #[.int .i64 m] w' fun e w2 => e = .returned (.bool (modF m)) ∧ Below w.heap.size w w2) := ⟨fun w' h => (mode_any m w').mono fun e w2 hp => ⟨hp.1, h.trans (hp.2.mono h.size)⟩⟩
  have K7 : Kept (∀ w', Below w.heap.size w w' → Calls Tryd.prog 17 #[.int .i64 m] w' fun e w2 => e = .returned (.bool (modF m)) ∧ Below w.heap.size w w2) := ⟨fun w' h => (rmode_any m w').mono fun e w2 hp => ⟨hp.1, h.trans (hp.2.mono h.size)⟩⟩
  clear hg hs
  generalize nameF s = q1 at *
  generalize pathF s = q2 at *
  generalize refF s = q3 at *
  generalize modF m = q4 at *
  go_enter Tryd.func3, Tryd.ntmps3
  go_wp2_with fail
  refine Calls.mono KA.out (fun e w0 hp => ?_)
  obtain ⟨rfl, hb0⟩ := hp
  have KB0 := Kept.mk hb0
  clear hb0 KA
  go_wp2_with fail
  refine Calls.mono (K0.out w0 KB0.out) (fun e w1 hp => ?_)
  obtain ⟨rfl, hb1⟩ := hp
  have KB1 := Kept.mk hb1
  clear hb1 K0 KB0
  go_wp2_with fail
  refine Calls.mono (K1.out w1 KB1.out) (fun e w2 hp => ?_)
  obtain ⟨rfl, hb2⟩ := hp
  have KB2 := Kept.mk hb2
  clear hb2 K1 KB1
  go_wp2_with fail
  refine Calls.mono (K2.out w2 KB2.out) (fun e w3 hp => ?_)
  obtain ⟨rfl, hb3⟩ := hp
  have KB3 := Kept.mk hb3
  clear hb3 K2 KB2
  go_wp2_with fail
  refine Calls.mono (K3.out w3 KB3.out) (fun e w4 hp => ?_)
  obtain ⟨rfl, hb4⟩ := hp
  have KB4 := Kept.mk hb4
  clear hb4 K3 KB3
  go_wp2_with fail
  refine Calls.mono (K4.out w4 KB4.out) (fun e w5 hp => ?_)
  obtain ⟨rfl, hb5⟩ := hp
  have KB5 := Kept.mk hb5
  clear hb5 K4 KB4
  go_wp2_with fail
  refine Calls.mono (K5.out w5 KB5.out) (fun e w6 hp => ?_)
  obtain ⟨rfl, hb6⟩ := hp
  have KB6 := Kept.mk hb6
  clear hb6 K5 KB5
  go_wp2_with fail
  refine Calls.mono (K6.out w6 KB6.out) (fun e w7 hp => ?_)
  obtain ⟨rfl, hb7⟩ := hp
  have KB7 := Kept.mk hb7
  clear hb7 K6 KB6
  go_wp2_with fail
  refine Calls.mono (K7.out w7 KB7.out) (fun e w8 hp => ?_)
  obtain ⟨rfl, hb8⟩ := hp
  have KB8 := Kept.mk hb8
  clear hb8 K7 KB7
  go_wp2
  go_ret
  exact ⟨by simp, KB8.out⟩
end Go.Proofs.YtbagkmhhgngbcaaDoor
