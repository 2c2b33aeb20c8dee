/-
  Walks: fillRow.
-/
import Derived.Test.YtjhcpmhjdhmjpaaV4
namespace Go.Proofs.Ytjhcpmhjdhmjpaa
open Go.RowKit

theorem wr64 {x : Int} (h0 : -9223372036854775808 ≤ x) (h1 : x ≤ 9223372036854775807) : IntKind.i64.wrap x = x := by rw [IntKind.wrap_i64]; omega
def u16V (N : List Nat) : List Value := N.map (fun n : Nat => Value.int .u16 (n : Int))
theorem u16V_len (N : List Nat) : (u16V N).length = N.length := by unfold u16V; simp
theorem u16V_get {N : List Nat} {j n : Nat} (h : N[j]? = some n) : (u16V N)[j]? = some (.int .u16 (n : Int)) := by unfold u16V; rw [List.getElem?_map, h]; rfl
theorem u16V_set (N : List Nat) (j n : Nat) : (u16V N).set j (.int .u16 (n : Int)) = u16V (N.set j n) := by unfold u16V; rw [List.map_set]
theorem rst_small {M N : List Nat} (h1 : M.length ≤ 1000) (h2 : N.length ≤ 1000) (j : Nat) : rst M (N.drop j) ≤ 2000 := by
  have := rst_le _ M (N.drop j) (Nat.le_refl _)
  rw [List.length_drop] at this
  omega
theorem drop_cons {N : List Nat} {k q : Nat} (h : N[k]? = some q) : N.drop k = q :: N.drop (k + 1) := by
  have hk : k < N.length := by
    rcases Nat.lt_or_ge k N.length with h' | h'
    · exact h'
    · rw [List.getElem?_eq_none h'] at h; cases h
  rw [List.drop_eq_getElem_cons hk]
  rw [List.getElem?_eq_getElem hk] at h
  injection h with h
  rw [h]
theorem Fx.drewN {S : Nat → Prop} {w w' : World} (h : Fx S w w') (m : Nat) : Fx S w (w'.drewN m) := ⟨h.os, h.tape, h.output, h.size, h.block⟩
/-- Where fillRow stands: from k on the row is filled. -/
structure RwSt (w wr : World) (rb : Nat) (p : Nat) (M N : List Nat) (k : Nat) : Prop where
  st : ∃ R : List Nat, R.length = N.length + 1 ∧ Bk wr rb 85 (u16V R) ∧ ∀ j, k ≤ j → j ≤ N.length → R[j]? = some (rst (p :: M) (N.drop j))
  fx : Fx (fun i => i = rb) w wr
  le : k ≤ N.length
theorem RwSt.step {w wr : World} {rb p : Nat} {M N : List Nat} {k : Nat} {R : List Nat} (hl : R.length = N.length + 1) (hb : Bk wr rb 85 (u16V R)) (hk : k < N.length) (h : ∀ j, k + 1 ≤ j → j ≤ N.length → R[j]? = some (rst (p :: M) (N.drop j))) (hf : Fx (fun i => i = rb) w wr) {x : Nat} (hx : x = rst (p :: M) (N.drop k)) :
    RwSt w (wr.setCell ⟨rb, k, none⟩ (.int .u16 (x : Int))) rb p M N k := by
  refine ⟨⟨R.set k x, by simp [hl], ?_, fun j h1 h2 => ?_⟩, hf.trans (Fx.setCell _ _ _ _) (fun i _ e => e), by omega⟩
  · have := hb.set k (.int .u16 (x : Int))
    rw [u16V_set] at this
    exact this
  · by_cases e : j = k
    · subst e
      rw [List.getElem?_set_self (by omega), hx]
    · rw [List.getElem?_set_ne (fun h => e h.symm)]
      exact h j (by omega) h2
set_option maxHeartbeats 2000000 in
set_option maxRecDepth 100000 in
theorem fillRow_any (rb nb gb p : Nat) (R M N : List Nat) (w : World) (hM : M.length ≤ 999) (hN : N.length ≤ 1000) (hRl : R.length = N.length + 1) (hR : Bk w rb 85 (u16V R)) (hRm : R[N.length]? = some (M.length + 1)) (hNx : Bk w nb 85 (u16V (rowL M N))) (hB : Bk w gb 3 (intV N)) (h1 : nb ≠ rb) (h2 : gb ≠ rb) :
    Calls Try.prog 53 #[.slice (some ⟨rb, 0, none⟩) (N.length + 1) (N.length + 1), .slice (some ⟨nb, 0, none⟩) (N.length + 1) (N.length + 1), .int .i64 p, .slice (some ⟨gb, 0, none⟩) N.length N.length] w fun e w' => e = .returned (.tuple #[]) ∧ Bk w' rb 85 (u16V (rowL (p :: M) N)) ∧ Fx (fun i => i = rb) w w' := by
  have K0 : Kept (RwSt w w rb p M N N.length) := ⟨⟨⟨R, hRl, hR, fun j h1 h2 => by
    have : j = N.length := by omega
    subst this
    rw [hRm, List.drop_length, rst_nil2]; rfl⟩, Fx.refl _ _, Nat.le_refl _⟩⟩
  have KNx : Kept (∀ W, Fx (fun i => i = rb) w W → Bk W nb 85 (u16V (rowL M N))) := ⟨fun W hW => hNx.fx hW h1⟩
  have KB : Kept (∀ W, Fx (fun i => i = rb) w W → Bk W gb 3 (intV N)) := ⟨fun W hW => hB.fx hW h2⟩
  have e0 : IntKind.i64.wrap ((N.length : Int) - 1) = (N.length : Int) - 1 := wr64 (by omega) (by omega)
  clear hR hRm hNx hB h1 h2 hRl
  go_enter Try.func53, Try.ntmps53
  go_upto_region 1 with fail
  go_loopw [8] (fun yv wr => ∃ k : Nat, yv = .int .i64 ((k : Int) - 1) ∧ RwSt w wr rb p M N k) (fun yv _ => (intOf yv + 1).toNat)
  case atStart => exact ⟨N.length, rfl, K0.out⟩
  case round =>
    obtain ⟨k, rfl, hst⟩ := hrel
    have KSt := Kept.mk hst
    clear K0 e0
    obtain ⟨⟨R', hl', hb', hall⟩, hfx, hle⟩ := hst
    cases k with
    | zero =>
      have hge : decide (((0 : Nat) : Int) - 1 ≥ 0) = false := by decide
      have KE : Kept (Bk wr rb 85 (u16V (rowL (p :: M) N)) ∧ Fx (fun i => i = rb) w wr) := ⟨⟨by rw [← row_eq hl' (fun j hj => hall j (Nat.zero_le _) hj)]; exact hb', hfx⟩⟩
      clear hall hb' hfx
      go_wp2
      refine bodyPost_end (results_none rfl _ _ _) rfl ?_
      exact ⟨rfl, KE.out⟩
    | succ k =>
      have hky : ((k + 1 : Nat) : Int) - 1 = (k : Int) := by omega
      rw [hky]
      have hge : decide ((k : Int) ≥ 0) = true := decide_eq_true (by omega)
      have hk : k < N.length := hle
      have i0 : (0 : Int) ≤ (k : Int) := by omega
      have i1 : (k : Int) < (N.length : Int) := by omega
      have i2 : (k : Int) < ((N.length : Nat) : Int) + 1 := by omega
      have i3 : (k : Int) + 1 < ((N.length : Nat) : Int) + 1 := by omega
      have e1 : IntKind.i64.wrap ((k : Int) + 1) = (k : Int) + 1 := wr64 (by omega) (by omega)
      have e2 : IntKind.i64.wrap ((k : Int) - 1) = (k : Int) - 1 := wr64 (by omega) (by omega)
      have t1 : ((k : Int) + 1).toNat = k + 1 := by omega
      obtain ⟨q, hq⟩ : ∃ q, N[k]? = some q := ⟨_, List.getElem?_eq_getElem hk⟩
      have hdr := drop_cons hq
      have hx := KNx.out wr hfx
      have cb := (KB.out wr hfx).cell k _ (intV_get hq)
      have cn0 := hx.cell k _ (u16V_get (rowL_get M N (by omega)))
      have cn1 := hx.cell (k + 1) _ (u16V_get (rowL_get M N (by omega)))
      have cr1 := hb'.cell (k + 1) _ (u16V_get (hall (k + 1) (Nat.le_refl _) (by omega)))
      obtain ⟨u0, hu0⟩ : ∃ u0, R'[k]? = some u0 := ⟨_, List.getElem?_eq_getElem (by omega)⟩
      have cr0 := hb'.cell k _ (u16V_get hu0)
      have fr0 := hb'.frozen k
      have s1 := rst_small (M := M) (N := N) (by omega) hN k
      have s2 := rst_small (M := M) (N := N) (by omega) hN (k + 1)
      have s3 := rst_small (M := p :: M) (N := N) (by simp; omega) hN (k + 1)
      by_cases hpq : p = q
      · have hb0 : ((p : Int) == (q : Int)) = true := by simp [hpq]
        have KE : Kept (RwSt w (wr.setCell ⟨rb, k, none⟩ (.int .u16 ((rst M (N.drop (k + 1)) : Nat) : Int))) rb p M N k) := ⟨RwSt.step hl' hb' hk hall hfx (by rw [hdr, rst_cons, if_pos hpq])⟩
        clear hall hb' hfx hx hu0 hq hl' hpq s1 s2 s3 cn0 cr1 hdr
        generalize rst M (N.drop (k + 1)) = z1 at *
        go_wp2
        go_roundw
        case rel => exact ⟨k, by go_num, KE.out⟩
        case measure => simp [intOf]
      · have hb0 : ((p : Int) == (q : Int)) = false := by simp; omega
        obtain ⟨z, hz, hz2⟩ : ∃ z : Nat, (if ((rst (p :: M) (N.drop (k + 1)) : Nat) : Int) < ((rst M (N.drop k) : Nat) : Int) then ((rst (p :: M) (N.drop (k + 1)) : Nat) : Int) else ((rst M (N.drop k) : Nat) : Int)) = (z : Int) ∧ z = min (rst M (N.drop k)) (rst (p :: M) (N.drop (k + 1))) := by
          refine ⟨_, ?_, rfl⟩
          split <;> omega
        have hzs : z ≤ 2000 := by omega
        have w1 : IntKind.u16.wrap (1 + (z : Int)) = ((1 + z : Nat) : Int) := by rw [show IntKind.u16.wrap (1 + (z : Int)) = (1 + (z : Int)) % 65536 from rfl]; omega
        have KE : Kept (∀ m, RwSt w ((wr.drewN m).setCell ⟨rb, k, none⟩ (.int .u16 ((1 + z : Nat) : Int))) rb p M N k) := ⟨fun m => RwSt.step hl' (show Bk (wr.drewN m) rb _ _ from hb') hk hall (hfx.drewN m) (by rw [hz2]; conv => rhs; rw [hdr, rst_cons, if_neg hpq]; rw [← hdr])⟩
        clear hall hb' hfx hx hu0 hq hl' hpq s1 s2 s3 cn1 hdr hz2 hzs
        generalize rst M (N.drop k) = z1 at *
        generalize rst (p :: M) (N.drop (k + 1)) = z2 at *
        have Kw : Kept (IntKind.u16.wrap (1 + if z2 < z1 then (z2 : Int) else (z1 : Int)) = ((1 + z : Nat) : Int)) := ⟨by
          rw [show (if z2 < z1 then (z2 : Int) else (z1 : Int)) = (z : Int) from by rw [← hz]; split <;> split <;> omega]
          exact w1⟩
        clear hz w1
        go_upto_region 5 with fail
        refine wp_region_last _ 14 (by kernel_rfl) (by kernel_rfl) rfl rfl ?_
        simp only [List.take_succ_cons, List.take_zero]
        repeat (first | go_big_quiet_step (fail) | quiet_step (fail))
        refine wpQuiet_nil ?_
        intro m
        go_wp2
        go_roundw
        case rel => exact ⟨k, by go_num, by rw [Kw.out]; exact KE.out m⟩
        case measure => simp [intOf]
end Go.Proofs.Ytjhcpmhjdhmjpaa
