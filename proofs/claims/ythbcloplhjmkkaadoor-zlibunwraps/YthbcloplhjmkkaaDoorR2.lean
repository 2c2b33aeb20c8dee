/-
  Walks: number.
-/
import Derived.Test.YthbcloplhjmkkaaDoorR1
namespace Go.Proofs.YthbcloplhjmkkaaDoor
open Go.RowKit

theorem Rdr.cell {W0 w wr : World} {rb : Nat} {ob : Option Nat} {inV : Value} {p out : List Int} {most t : Nat} (h : Rdr W0 w rb ob inV p most out t) (hf : Fr rb none w wr) {ib io : Nat} (hib : ib < W0.heap.size) {i : Nat} {v : Value} (hc : W0.cell? ⟨ib, io + i, none⟩ = some v) : wr.cell? ⟨ib, io + i, none⟩ = some v := by
  have hb := h.hb
  have hz := h.bel.size
  rw [World.cell?_of_block (w := w) (a := ⟨ib, io + i, none⟩) (hf.block ib (by omega) (by omega) (by simp)), h.bel.cell (p := ⟨ib, io + i, none⟩) hib]
  exact hc

theorem or_join (V y : Int) (held : Nat) (h0 : 0 ≤ V) (h1 : V < 2 ^ held) (hh : held < 16) (hy0 : 0 ≤ y) (hy1 : y < 256) : bits .or .u32 V (y * 2 ^ held % 4294967296) = V + y * 2 ^ held := by
  have hp : (2 : Int) ^ held ≤ 2 ^ 15 := by
    have : (2 : Nat) ^ held ≤ 2 ^ 15 := Nat.pow_le_pow_right (by omega) (by omega)
    exact_mod_cast this
  have hp0 : (0 : Int) < 2 ^ held := Int.pow_pos (by omega)
  have hm : y * 2 ^ held ≤ 255 * 2 ^ 15 := Int.mul_le_mul (by omega) hp (by omega) (by omega)
  have hm0 : 0 ≤ y * 2 ^ held := Int.mul_nonneg hy0 (by omega)
  have hq : ((2 : Int) ^ held) = ((2 ^ held : Nat) : Int) := by simp
  have hz : (y * 2 ^ held).toNat % 2 ^ held = 0 := by
    obtain ⟨z, rfl⟩ := Int.eq_ofNat_of_zero_le hy0
    rw [hq, ← Int.natCast_mul, Int.toNat_natCast]
    exact Nat.mul_mod_left _ _
  have hl : V.toNat < 2 ^ held := by
    have : V < ((2 ^ held : Nat) : Int) := by rw [← hq]; exact h1
    omega
  simp only [Int.reducePow] at hp hm
  rw [Int.emod_eq_of_lt hm0 (by omega), u32_or V _ h0 (by omega) hm0 (by omega), Nat.or_comm, nat_join held _ _ hz hl]
  omega

theorem and_mask (V : Int) (n : Nat) (h0 : 0 ≤ V) (h1 : V < 16777216) (hn : n ≤ 16) : bits .and .u32 V ((2 ^ n - 1) % 4294967296) = V % 2 ^ n := by
  have hp : (2 : Int) ^ n ≤ 2 ^ 16 := by
    have : (2 : Nat) ^ n ≤ 2 ^ 16 := Nat.pow_le_pow_right (by omega) (by omega)
    exact_mod_cast this
  have hp0 : (0 : Int) < 2 ^ n := Int.pow_pos (by omega)
  have hq : ((2 : Int) ^ n) = ((2 ^ n : Nat) : Int) := by simp
  rw [Int.emod_eq_of_lt (by omega) (by omega), u32_and V _ h0 (by omega) (by omega) (by omega)]
  have e : ((2 : Int) ^ n - 1).toNat = 2 ^ n - 1 := by rw [hq]; omega
  rw [e, Nat.and_two_pow_sub_one_eq_mod]
  obtain ⟨x, rfl⟩ := Int.eq_ofNat_of_zero_le h0
  rw [hq, Int.toNat_natCast]
  simp

set_option maxHeartbeats 1000000 in
theorem number_any {W0 w : World} {rb : Nat} {ob : Option Nat} {inV : Value} {p out : List Int} {most t : Nat} (n : Nat) (hn : n ≤ 16) (h : Rdr W0 w rb ob inV p most out t) :
    Calls Tryd.prog 39 #[.pointer (some ⟨rb, 0, none⟩), .int .i64 n] w fun e w' => After W0 w w' rb ob inV p most out (numF p n t) e encI zeroI := by
  obtain ⟨at0, held0, outV, hB, ha, hh, hl, own, hob⟩ := h.blk
  obtain ⟨ia, ic, rfl, hnil, hlc, hcm⟩ := h.rd.form
  have hlp := h.lp
  have KH := Kept.mk h
  have KO := Kept.mk own
  have KB := Kept.mk hob
  clear h own hnil hcm hob
  go_enter Tryd.func39, Tryd.ntmps39
  go_wp2
  go_loopw [4, 5] (fun _ _ wr => ∃ at_ held : Nat, RB wr rb (.slice ia p.length ic) at_ (valF p t held) held outV most ∧ 8 * at_ = t + held ∧ at_ ≤ p.length ∧ held < n + 8 ∧ Fr rb none w wr) (fun _ _ wr => (24 - intOf ((wr.cell? ⟨rb, 3, none⟩).getD (.int .i64 0))).toNat)
  case atStart => exact ⟨at0, held0, hB, ha, hl, by omega, Fr.refl _ _ _⟩
  case round =>
    obtain ⟨at_, held, hR, hat, hle, hlt24, hfr⟩ := hrel
    have c0 := hR.c0
    have c1 := hR.c1
    have c2 := hR.c2
    have c3 := hR.c3
    have f1 := hR.fz 1
    have f2 := hR.fz 2
    have f3 := hR.fz 3
    have KR := Kept.mk hR
    have KF := Kept.mk hfr
    clear hR hfr hB
    by_cases hlt : held < n
    · by_cases hend : at_ = p.length
      · have KA := Kept.mk hend
        have heq : (at_ : Int) = (p.length : Int) := by omega
        clear hend
        go_wp2
        go_quiet (fail)
        go_wp2
        go_ret2
        have hend := KA.out
        unfold After
        unfold numF
        rw [if_neg (by omega)]
        exact ⟨rfl, (KF.out.drewN _).below KH.out.bel KH.out.hb (by simp) KH.out.bel.size, (KF.out.drewN _).wide⟩
      · have hl2 : at_ < p.length := by omega
        obtain ⟨ib, io, ic2, he, hib, -, -, -, hcells⟩ := KH.out.rd.open (by omega)
        simp only [Value.slice.injEq, true_and] at he
        obtain ⟨rfl, rfl⟩ := he
        have ci := KH.out.cell KF.out hib (hcells at_ hl2)
        have hne : ¬ (at_ : Int) = (p.length : Int) := by omega
        have hi2 : (at_ : Int) < (p.length : Int) := by omega
        have hby := KH.out.ap.getD (by omega) at_
        have hvr := valF_range p held t
        have HV : Kept (valF p t (held + 8) = valF p t held + p.getD at_ 0 * 2 ^ held) := ⟨by rw [valF_add, ← hat, valF_byte p at_ hby, Int.mul_comm]⟩
        clear hcells hend
        generalize valF p t held = V at *
        generalize p.getD at_ 0 = y at *
        go_wp2
        go_quiet (fail)
        go_wp2
        refine wp_region_last _ 23 (by kernel_rfl) (by kernel_rfl) rfl rfl ?_
        simp only [List.take_succ_cons, List.take_zero]
        repeat (go_big_quiet_step (fail))
        refine wpQuiet_nil ?_
        intro m
        go_wp2
        go_roundw
        case rel =>
          rw [or_join V y held hvr.1 hvr.2 (by omega) hby.1 hby.2, ← HV.out]
          refine ⟨at_ + 1, held + 8, ?_, by omega, by omega, by omega, ((((KF.out.drewN _).set _ _).set _ _).set _ _)⟩
          have hR : RB (wr.drewN (nq + m)) rb (.slice (some ⟨ib, io, none⟩) p.length ic) at_ V held outV most := KR.out
          exact ((hR.s2 _).s1 ((at_ + 1 : Nat) : Int)).s3 ((held + 8 : Nat) : Int)
        case measure =>
          have hR : RB (wr.drewN (nq + m)) rb (.slice (some ⟨ib, io, none⟩) p.length ic) at_ V held outV most := KR.out
          rw [(((hR.s2 _).s1 _).s3 _).c3, c3]
          simp [intOf]
          omega
    · go_wp2
      go_quiet (fail)
      go_wp2
      go_ret2
      unfold After
      unfold numF
      rw [if_pos (by omega)]
      refine ⟨?_, ⟨⟨at_, held - n, outV, ?_, by omega, by omega, hle, ?_, KB.out⟩, ?_, KH.out.hb, KH.out.ho, KH.out.rd, KH.out.ap, KH.out.ao, KH.out.lp, KH.out.hm, KH.out.lo⟩, ?_⟩
      · have e1 : bits .and .u32 (valF p t held) ((2 ^ n - 1) % 4294967296) = valF p t n := by
          have hvr := valF_range p held t
          have hp : (2 : Int) ^ held ≤ 2 ^ 24 := by
            have : (2 : Nat) ^ held ≤ 2 ^ 24 := Nat.pow_le_pow_right (by omega) (by omega)
            exact_mod_cast this
          rw [and_mask _ n hvr.1 (by omega) (by omega)]
          obtain ⟨q, rfl⟩ : ∃ q, held = n + q := ⟨held - n, by omega⟩
          exact valF_mod p t n q
        have e2 : wrap64 (valF p t n) = valF p t n := by
          have hvr := valF_range p n t
          have hp : (2 : Int) ^ n ≤ 2 ^ 16 := by
            have : (2 : Nat) ^ n ≤ 2 ^ 16 := Nat.pow_le_pow_right (by omega) (by omega)
            exact_mod_cast this
          unfold wrap64
          omega
        simp only [e1, e2]
        rfl
      · obtain ⟨q, rfl⟩ : ∃ q, held = n + q := ⟨held - n, by omega⟩
        have e3 : ((n + q : Nat) : Int) - (n : Int) = ((n + q - n : Nat) : Int) := by omega
        rw [valF_div p t n q, e3, show n + q - n = q from by omega]
        have hR : RB (wr.drewN nq) rb (.slice ia p.length ic) at_ (valF p t (n + q)) ((n + q : Nat) : Int) outV most := KR.out
        exact (hR.s2 _).s3 _
      · refine KO.out.far fun g hg => (((KF.out.drewN nq).set 2 _).set 3 _).block g (KO.out.lt g hg).2 (fun e => ?_) (by simp)
        exact KH.out.ho (by rw [← e, ← KB.out]; exact hg)
      · exact (((KF.out.drewN nq).set 2 _).set 3 _).below KH.out.bel KH.out.hb (by simp) KH.out.bel.size
      · exact (((KF.out.drewN nq).set 2 _).set 3 _).wide
end Go.Proofs.YthbcloplhjmkkaaDoor
