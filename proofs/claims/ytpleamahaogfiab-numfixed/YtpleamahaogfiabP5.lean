/-
  The walk of NumFixed.
-/
import Derived.Test.YtpleamahaogfiabK2
namespace Go.Proofs.Ytpleamahaogfiab
open Go.RowKit

def longL (k : Nat) : List Int := List.replicate k 128 ++ List.replicate (21 - k) 0
theorem longL_length (k : Nat) (h : k ≤ 21) : (longL k).length = 21 := by simp [longL]; omega
theorem longL_set (k : Nat) (h : k < 20) : (longL k).set k 128 = longL (k + 1) := by
  have : k = 0 ∨ k = 1 ∨ k = 2 ∨ k = 3 ∨ k = 4 ∨ k = 5 ∨ k = 6 ∨ k = 7 ∨ k = 8 ∨ k = 9 ∨ k = 10 ∨ k = 11 ∨ k = 12 ∨ k = 13 ∨ k = 14 ∨ k = 15 ∨ k = 16 ∨ k = 17 ∨ k = 18 ∨ k = 19 := by omega
  rcases this with rfl | rfl | rfl | rfl | rfl | rfl | rfl | rfl | rfl | rfl | rfl | rfl | rfl | rfl | rfl | rfl | rfl | rfl | rfl | rfl <;> decide
theorem allB_of (l : List Int) (h : l.all (fun x => decide (0 ≤ x) && decide (x < 256)) = true) : AllB l := by
  intro x hx
  have := List.all_eq_true.1 h x hx
  simp at this
  exact this

theorem size_at (v : Value) (L : List Int) (S : Int × Int × Int) (w : World) (h : Rd w v L) (hl : L.length ≤ 1000) (hS : sizeS L 0 = S) :
    Calls Try.prog 22 #[v, .int .i64 0] w fun e w' => e = .returned (.tuple #[.int .u64 S.1, .int .i64 S.2.1, .int .i64 S.2.2]) ∧ Below w.heap.size w w' := by
  have := calls_still (size_any v L 0 w h (by omega) (by omega))
  rw [hS] at this
  exact this
theorem span_at (v : Value) (L : List Int) (S : Int × Int × Int) (w : World) (h : Rd w v L) (hl : L.length ≤ 1000) (hS : spanS L 0 = S) :
    Calls Try.prog 24 #[v, .int .i64 0] w fun e w' => e = .returned (.tuple #[.int .u64 S.1, .int .i64 S.2.1, .int .i64 S.2.2]) ∧ Below w.heap.size w w' := by
  have := calls_still (span_any v L 0 w h (by omega) (by omega))
  rw [hS] at this
  exact this
theorem big_at (v : Value) (L : List Int) (t n : Int) (S : Int × Int) (w : World) (h : Rd w v L) (hl : L.length ≤ 1000) (ht : 0 ≤ t ∧ t ≤ 100) (hn : 0 ≤ n ∧ n ≤ 100) (hS : takeS L t n = S) :
    Calls Try.prog 20 #[v, .int .i64 t, .int .i64 n] w fun e w' => e = .returned (.tuple #[.int .u64 S.1, .int .i64 S.2]) ∧ Below w.heap.size w w' := by
  have := calls_still (big_any v L t n w h (by omega) (by omega) (by omega) (by omega) (by omega))
  rw [hS] at this
  exact this
theorem putSpan_at (x : Int) (L : List Int) (w : World) (hx0 : 0 ≤ x) (hx1 : x < 18446744073709551616) (hS : spanL x = L) :
    Calls Try.prog 18 #[.slice none 0 0, .int .u64 x] w fun e w' => ∃ v', e = .returned v' ∧ Own 5 w' w.heap.size v' L ∧ Below w.heap.size w w' := by
  have := putSpan_any (.slice none 0 0) [] x w (Rd.nil w) hx0 hx1 (by simp)
  rw [hS] at this
  exact this
theorem chain {a b c : World} (h : Below a.heap.size a b) (k : Below b.heap.size b c) : Below a.heap.size a c := h.trans (k.mono h.size)
theorem chain_alloc {a b c : World} {o : Obj} (h : Below a.heap.size a b) (k : Below (b.alloc o).heap.size (b.alloc o) c) : Below a.heap.size a c := (h.alloc h.size o).trans (k.mono (Nat.le_trans h.size (by simp)))

set_option maxHeartbeats 4000000 in
set_option maxRecDepth 100000 in
theorem numFixed_walk (w : World) : Calls Try.prog 7 #[] w fun e w' => e = .returned (.bool true) ∧ Below w.heap.size w w' := by
  obtain ⟨i0, z0, hi, hz, hs, hb0, hc, -⟩ := info5
  have hmk : ∀ u : World, (Instr.makeSlice 22 (.int .i64 21) (.int .i64 21)).run Try.prog u = .ok (.slice (some ⟨u.heap.size, 0, none⟩) 21 21) (u.alloc (.cells (cellsU8 (longL 0)).toArray 5)) := fun u => by kernel_rfl
  go_enter Try.func7, Try.ntmps7
  go_wp2_with fail
  refine Calls.mono (awake_any w) (fun e w1 hp => ?_)
  obtain ⟨rfl, H1⟩ := hp
  go_wp2_with fail
  clear hmk
  go_loopw [31] (fun i wr => ∃ k : Nat, k ≤ 20 ∧ i = .int .i64 k ∧ wr = w1.alloc (.cells (cellsU8 (longL k)).toArray 5)) (fun i _ => 20 - (intOf i).toNat)
  case atStart => exact ⟨0, by omega, rfl, rfl⟩
  case round =>
    obtain ⟨k, hk, rfl, rfl⟩ := hrel
    by_cases hlt : k < 20
    · have hcell := cell_block w1 (longL k) 5 k (by rw [longL_length k (by omega)]; omega)
      have hset : (cellsU8 (longL k)).toArray.setIfInBounds k (.int .u8 128) = (cellsU8 (longL (k + 1))).toArray := by rw [cells_set, longL_set k hlt]
      go_wp2
      go_roundw
      case rel => exact ⟨k + 1, by omega, by go_num, rfl⟩
      case measure => simp [intOf]; omega
    · obtain rfl : k = 20 := by omega
      have r2 : Rd (w1.alloc (.cells (cellsU8 (longL 20)).toArray 5)) (.slice (some ⟨w1.heap.size, 0, none⟩) 21 21) (longL 20) := Rd.block w1 (longL 20) 5 (allB_of _ (by decide)) (by decide)
      go_wp2_with fail
      refine Calls.mono (size_at _ (longL 20) (0, 21, 0) _ r2 (by decide) (by decide +kernel)) (fun e w2 hp => ?_)
      obtain ⟨rfl, hb2⟩ := hp
      have H2 : Below w.heap.size w w2 := chain_alloc H1 hb2
      clear hb2 H1 r2
      go_wp2_with fail
      refine Calls.mono (size_at _ [255] (0, 0, 5) _ (Rd.block w2 [255] 5 (allB_of _ (by decide)) (by decide)) (by decide) (by decide +kernel)) (fun e w3 hp => ?_)
      obtain ⟨rfl, hb⟩ := hp
      have H3 : Below w.heap.size w w3 := chain_alloc H2 hb
      clear hb H2
      go_wp2_with fail
      refine Calls.mono (size_at _ [128, 128, 128, 128, 128, 128, 128, 128, 128, 2] (0, 0, 10) _ (Rd.block w3 [128, 128, 128, 128, 128, 128, 128, 128, 128, 2] 5 (allB_of _ (by decide)) (by decide)) (by decide) (by decide +kernel)) (fun e w4 hp => ?_)
      obtain ⟨rfl, hb⟩ := hp
      have H4 : Below w.heap.size w w4 := chain_alloc H3 hb
      clear hb H3
      go_wp2_with fail
      refine Calls.mono (size_at _ [128, 128, 128, 128, 128, 128, 128, 128, 128, 1] (9223372036854775808, 10, 0) _ (Rd.block w4 [128, 128, 128, 128, 128, 128, 128, 128, 128, 1] 5 (allB_of _ (by decide)) (by decide)) (by decide) (by decide +kernel)) (fun e w5 hp => ?_)
      obtain ⟨rfl, hb⟩ := hp
      have H5 : Below w.heap.size w w5 := chain_alloc H4 hb
      clear hb H4
      go_wp2_with fail
      refine Calls.mono (big_at _ [1, 2, 3] 1 2 (515, 0) _ (Rd.block w5 [1, 2, 3] 5 (allB_of _ (by decide)) (by decide)) (by decide) (by omega) (by omega) (by decide +kernel)) (fun e w6 hp => ?_)
      obtain ⟨rfl, hb⟩ := hp
      have H6 : Below w.heap.size w w6 := chain_alloc H5 hb
      clear hb H5
      go_wp2_with fail
      refine Calls.mono (big_at _ [1] 1 1 (0, 5) _ (Rd.block w6 [1] 5 (allB_of _ (by decide)) (by decide)) (by decide) (by omega) (by omega) (by decide +kernel)) (fun e w7 hp => ?_)
      obtain ⟨rfl, hb⟩ := hp
      have H7 : Below w.heap.size w w7 := chain_alloc H6 hb
      clear hb H6
      go_wp2_with fail
      refine Calls.mono (putBig_lim (.slice none 0 0) 256 1 w7 (by omega) (by omega) (by decide)) (fun e w8 hp => ?_)
      obtain ⟨rfl, hw⟩ := hp
      subst hw
      go_wp2_with fail
      refine Calls.mono (putSpan_at 18446744073709551615 [128, 254, 254, 254, 254, 254, 254, 254, 254, 127] _ (by omega) (by omega) (by decide +kernel)) (fun e w9 hp => ?_)
      obtain ⟨va, rfl, oa, hb⟩ := hp
      have H9 : Below w.heap.size w w9 := chain H7 hb
      obtain ⟨g, cap, hva, hg1, hg2, hcap, -, -⟩ := oa.open (by decide)
      subst hva
      have ra : Rd w9 _ [128, 254, 254, 254, 254, 254, 254, 254, 254, 127] := Rd.own oa (allB_of _ (by decide))
      have hg4 : w.heap.size ≤ g := Nat.le_trans H7.size hg1
      clear hb H7
      go_wp2_with fail
      refine Calls.mono (span_at _ _ (18446744073709551615, 10, 0) _ ra (by decide) (by decide +kernel)) (fun e w10 hp => ?_)
      obtain ⟨rfl, hb⟩ := hp
      have H10 : Below w.heap.size w w10 := chain H9 hb
      have oa2 := oa.later hb (Nat.le_refl _)
      have hg3 : g < w10.heap.size := Nat.lt_of_lt_of_le hg2 hb.size
      obtain ⟨g', cap', hva, -, -, -, hcl, hfr⟩ := oa2.open (by decide)
      injection hva with e1 _ e3
      injection e1 with e1
      injection e1 with e4 _
      subst e3 e4
      have hc9 : w10.cell? ⟨g, 9, none⟩ = some (.int .u8 127) := hcl 9 (by decide)
      have hf9 := hfr 9
      have oa3 := oa2.set 9 128
      have H11 : Below w.heap.size w (w10.setCell ⟨g, 9, none⟩ (.int .u8 128)) := H10.setCell hg4 _
      have hsz : (w10.setCell ⟨g, 9, none⟩ (.int .u8 128)).heap.size = w10.heap.size := by simp [World.setCell]
      have rb : Rd ((w10.setCell ⟨g, 9, none⟩ (.int .u8 128)).alloc (.cells (cellsU8 [255]).toArray 5)) (.slice (some ⟨g, 0, none⟩) 10 cap) [128, 254, 254, 254, 254, 254, 254, 254, 254, 128] := (Rd.own oa3 (allB_of _ (by decide))).later ((Below.refl _ _).alloc (Nat.le_refl _) _) (Nat.le_refl _)
      have ob := Own.block (w10.setCell ⟨g, 9, none⟩ (.int .u8 128)) [255] 5 (by decide)
      rw [hsz] at ob
      clear hb oa oa2 oa3 hcl hfr ra H9 hg1 hg2
      have hll : [(255 : Int)].length + [(128 : Int), 254, 254, 254, 254, 254, 254, 254, 254, 128].length ≤ 140737488355328 := by decide
      have hbase : w10.heap.size ≤ ((w10.setCell ⟨g, 9, none⟩ (.int .u8 128)).alloc (.cells (cellsU8 [255]).toArray 5)).heap.size := by simp [World.setCell]
      go_wp2_with (at_builtin; refine wpList_append_rd _ rfl _ _ 22 rfl w10.heap.size 5 i0 z0 Try.underlying22 hi hz hs hb0 hc _ [255] rfl ob _ [128, 254, 254, 254, 254, 254, 254, 254, 254, 128] rfl rb hll hbase ?_; intro vc w11 oc hgrow hat)
      have hb11 : Below w10.heap.size (w10.setCell ⟨g, 9, none⟩ (.int .u8 128)) w11 := ((Below.refl _ _).alloc (by rw [hsz]; exact Nat.le_refl _) _).grown hgrow hbase (own_ge ob)
      have H12 : Below w.heap.size w w11 := H11.trans (hb11.mono H10.size)
      have rc : Rd w11 vc [255, 128, 254, 254, 254, 254, 254, 254, 254, 254, 128] := Rd.own oc (allB_of _ (by decide))
      clear hgrow hat hb11 H11 rb ob hbase hll oc H10 hc9 hf9 hsz
      refine Calls.mono (span_at _ _ (0, 0, 5) _ rc (by decide) (by decide +kernel)) (fun e w12 hp => ?_)
      obtain ⟨rfl, hb⟩ := hp
      have H13 : Below w.heap.size w w12 := chain H12 hb
      clear hb H12 rc
      go_wp2_with fail
      refine Calls.mono (putSpan_at 127 [127] _ (by omega) (by omega) (by decide +kernel)) (fun e w13 hp => ?_)
      obtain ⟨vd, rfl, od, hb⟩ := hp
      have H14 : Below w.heap.size w w13 := chain H13 hb
      have rd : Rd w13 vd [127] := Rd.own od (allB_of _ (by decide))
      clear hb H13 od
      go_wp2_with fail
      refine Calls.mono (same_true vd _ [127] _ (rd.later ((Below.refl _ _).alloc (Nat.le_refl _) _) (Nat.le_refl _)) (Rd.block w13 [127] 5 (allB_of _ (by decide)) (by decide))) (fun e w14 hp => ?_)
      obtain ⟨rfl, hb⟩ := hp
      have H15 : Below w.heap.size w w14 := chain_alloc H14 hb
      clear hb H14 rd
      go_wp2_with fail
      refine Calls.mono (putSpan_at 128 [128, 0] _ (by omega) (by omega) (by decide +kernel)) (fun e w15 hp => ?_)
      obtain ⟨ve, rfl, oe, hb⟩ := hp
      have H16 : Below w.heap.size w w15 := chain H15 hb
      have re : Rd w15 ve [128, 0] := Rd.own oe (allB_of _ (by decide))
      clear hb H15 oe
      go_wp2_with fail
      refine Calls.mono (same_true ve _ [128, 0] _ (re.later ((Below.refl _ _).alloc (Nat.le_refl _) _) (Nat.le_refl _)) (Rd.block w15 [128, 0] 5 (allB_of _ (by decide)) (by decide))) (fun e w16 hp => ?_)
      obtain ⟨rfl, hb⟩ := hp
      have H17 : Below w.heap.size w w16 := chain_alloc H16 hb
      go_wp2
      go_ret
      exact ⟨rfl, H17⟩
end Go.Proofs.Ytpleamahaogfiab
