/-
  Walks: the finder's lastLike.
-/
import Derived.Test.YtjijkcmbbccfmaaF29
namespace Go.Proofs.Ytjijkcmbbccfmaa
open Go.RowKit Go.WideMaps

set_option maxHeartbeats 1000000 in
set_option maxRecDepth 100000 in
theorem lastLike_any {W0 w : World} {fb mb : Nat} {bb : Option Nat} {pv : Value} {p : List Int} {t : Nat} (i : Nat) (h : Fd W0 w fb mb bb pv p t) (hp : Rd .u8 anyB w pv p) (ha : AllB p) (hi : i + 3 ≤ p.length) (hl : p.length ≤ 1073741824) :
    Calls Try.prog 29 #[.pointer (some ⟨fb, 0, none⟩), .int .i64 i] w fun e w' => e = .returned (.int .i64 ((lsF p i t : Int) - 1)) ∧ Below w.heap.size w w' := by
  obtain ⟨backV, bk, n, D, h1, h2, h3, h4, h5, h6, h7⟩ := h.blk
  have hlt := h.lt
  have KM : Kept (∀ w', CC w w' → w'.cell? ⟨fb, 1, none⟩ = some (.map (some mb))) := ⟨fun w' hw => by
    rw [hw.cell (p := ⟨fb, 1, none⟩) hlt.1]
    simp [World.cell?, h1]⟩
  have KT : Kept (∀ w', CC w w' → Calls Try.prog 33 #[.pointer (some ⟨fb, 0, none⟩), .int .i64 i] w' fun e w'' => e = .returned (aggF (thL p i)) ∧ CC w w'') := ⟨fun w' hw => by
    have hc0 : w'.cell? ⟨fb, 0, none⟩ = some pv := by
      rw [hw.cell (p := ⟨fb, 0, none⟩) hlt.1]
      simp [World.cell?, h1]
    exact (three_any fb pv p i w' (hp.later hw (Nat.le_refl _)) hc0 (Nat.lt_of_lt_of_le hlt.1 (Below.size hw)) hi hl).mono fun e w'' hp2 => ⟨hp2.1, hw.on hp2.2⟩⟩
  have KL : Kept (∃ x : Int, (∀ w', CC w w' → (Instr.lookup 45 (.map (some mb)) (aggF (thL p i)) true).run Try.prog w' = .ok (.tuple #[.int .i64 x, .bool (decide (0 < lsF p i t))]) w') ∧ (0 < lsF p i t → x = (lsF p i t : Int) - 1)) := ⟨by
    have key : ∀ w', CC w w' → ∃ x : Int, (Instr.lookup 45 (.map (some mb)) (aggF (thL p i)) true).run Try.prog w' = .ok (.tuple #[.int .i64 x, .bool (decide (0 < lsF p i t))]) w' ∧ D.atKey (klF (thL p i)) (.lit (.int .i64 0)) = .lit (.int .i64 x) := fun w' hw => by
      have ho := ownsMap_far h2 (hw.block _ hlt.2.1)
      obtain ⟨v, ps, hrun, hv⟩ := ho.look_ok keyed3 Try.underlying45 (zeroIF w') (plainElem_int (H := Unit) (P := Try.prog) Try.underlying3 (by decide)) (key_some _ (thL_length p i) (thL_all ha i))
      obtain ⟨c, rfl, hc, hwc⟩ := plainElem_int_inv Try.underlying3 hv
      simp only [Prod.mk.injEq] at hc
      refine ⟨c, ?_, hc.1⟩
      rw [hrun, (h4.2 i).1]
    obtain ⟨x, hx1, hx2⟩ := key w (CC.refl w)
    refine ⟨x, fun w' hw => ?_, fun h0 => ?_⟩
    · obtain ⟨x', hx1', hx2'⟩ := key w' hw
      rw [hx2] at hx2'
      simp only [DataW.lit.injEq, Lit.int.injEq, true_and] at hx2'
      rw [hx1', hx2']
    · have := (h4.2 i).2 h0
      rw [hx2] at this
      simp only [DataW.lit.injEq, Lit.int.injEq, true_and] at this
      exact this⟩
  clear h h1 h2 h3 h4 h5 h6 h7 hlt hp ha
  obtain ⟨x, hx1, hx2⟩ := KL.out
  clear KL
  have KL := Kept.mk hx1
  clear hx1
  generalize aggF (thL p i) = kv at *
  generalize lsF p i t = q at *
  go_enter Try.func29, Try.ntmps29
  go_upto_region 1 with fail
  refine wp_region_quietC (C := CC w) (by kernel_rfl) (by kernel_rfl) (Below.refl _ _).drew ?_
  go_big_quiet_step ((intro _; rfl))
  go_big_quiet_step ((intro _; rfl))
  go_big_quiet_step ((intro _; rfl))
  refine BigFrame.wpQuiet_want rfl (fun K hK => quiet_run (v := .map (some mb)) (fun W hW => by have hcm := KM.out W hW; go_simp) (hK _ ?_))
  clear hK K
  simp only [Act.put, List.setIfInBounds_toArray, List.set_cons_zero, List.set_cons_succ]
  go_big_quiet_step ((intro _; rfl))
  go_big_quiet_step ((intro _; rfl))
  go_big_quiet_step ((intro hCw; exact KT.out _ hCw))
  refine BigFrame.wpQuiet_want rfl (fun K hK => quiet_run (v := .tuple #[.int .i64 x, .bool (decide (0 < q))]) (fun W hW => by have hlk := KL.out W hW; simp [execOp, hlk, Act.eval]) (hK _ ?_))
  clear hK K
  simp only [Act.put, List.setIfInBounds_toArray, List.set_cons_zero, List.set_cons_succ]
  go_big_quiet_step ((intro _; rfl))
  go_big_quiet_step ((intro _; rfl))
  go_big_quiet_step ((intro _; rfl))
  go_big_quiet_step ((intro _; rfl))
  go_big_quiet_step ((intro _; rfl))
  refine wpQuiet_nil ?_
  intro w1 hw1
  have KB := Kept.mk hw1
  clear hw1 KM KT KL
  by_cases h0 : 0 < q
  · have hd : decide (0 < q) = true := by simp; omega
    rw [hd, hx2 h0]
    clear hx2
    go_wp2
    go_ret
    exact ⟨rfl, KB.out⟩
  · have hd : decide (0 < q) = false := by simp; omega
    have hq : q = 0 := by omega
    subst hq
    rw [hd]
    clear hx2
    go_wp2
    go_ret
    exact ⟨rfl, KB.out⟩
end Go.Proofs.Ytjijkcmbbccfmaa
