/-
  Walks: SameHunks.
-/
import Derived.Test.YtjhcpmhjdhmjpaaDH5
namespace Go.Proofs.Ytjhcpmhjdhmjpaa
open Go.RowKit Go.Shelf

set_option maxRecDepth 100000 in
theorem eq_cplx (d X Y : Nat) (hX : FloatKind.f64.format.order X X = some .eq) (hY : FloatKind.f64.format.order Y Y = some .eq) (W : World) : (Op.equalIn (d + 1) 45 (.complex .f64 X Y) (.complex .f64 X Y)).run Try.prog W = .ok true W := by
  unfold Op.equalIn
  simp [run_underlying Try.underlying45]
  unfold Op.floatEq
  simp [hX, hY]
set_option maxRecDepth 100000 in
theorem neq_rk (X Y U V : Nat) (hX : FloatKind.f64.format.order X X = some .eq) (hY : FloatKind.f64.format.order Y Y = some .eq) (hU : FloatKind.f64.format.order U U = some .eq) (hV : FloatKind.f64.format.order V V = some .eq) (W : World) :
    (binOp .neq 67 (.agg #[.complex .f64 X Y, .complex .f64 U V]) (.agg #[.complex .f64 X Y, .complex .f64 U V])).run Try.prog W = .ok (.bool false) W := by
  have h1 := eq_cplx 9998 X Y hX hY W
  have h2 := eq_cplx 9998 U V hU hV W
  go_simp
set_option maxHeartbeats 2000000 in
set_option maxRecDepth 100000 in
theorem sameHunks_any (v u : Value) (hs : List (Pt × Pt)) (w : World) (hv : RdRk w v hs) (hu : RdRk w u hs) (hl : hs.length ≤ 100000) (hsm : ∀ h ∈ hs, h.1.1 < 1100 ∧ h.1.2 < 1100 ∧ h.2.1 < 1100 ∧ h.2.2 < 1100) :
    Calls Try.prog 17 #[v, u] w fun e w' => e = .returned (.bool true) ∧ Below w.heap.size w w' := by
  have KV := Kept.mk hv
  have KU := Kept.mk hu
  obtain ⟨pa, pc, rfl, -⟩ := hv
  obtain ⟨qa, qc, rfl, -⟩ := hu
  have Ksm := Kept.mk hsm
  clear hsm
  go_enter Try.func17, Try.ntmps17
  go_upto_region 4 with fail
  go_loopw [13] (fun iv wr => ∃ k : Nat, k ≤ hs.length ∧ iv = .int .i64 k ∧ Below w.heap.size w wr) (fun iv _ => hs.length - (intOf iv).toNat)
  case atStart => exact ⟨0, Nat.zero_le _, rfl, Below.refl _ _⟩
  case round =>
    obtain ⟨k, hk, rfl, hbr⟩ := hrel
    have KBr := Kept.mk hbr
    by_cases hlt : k < hs.length
    · have hki : (k : Int) < (hs.length : Int) := by omega
      have n0 : (0 : Int) ≤ (k : Int) := by omega
      have e1 : IntKind.i64.wrap ((k : Int) + 1) = (k : Int) + 1 := wr64 (by omega) (by omega)
      obtain ⟨h, hh⟩ : ∃ h, hs[k]? = some h := ⟨_, List.getElem?_eq_getElem hlt⟩
      obtain ⟨s1, s2, s3, s4⟩ := Ksm.out h (List.mem_of_getElem? hh)
      have o1 := cmp_eq s1
      have o2 := cmp_eq s2
      have o3 := cmp_eq s3
      have o4 := cmp_eq s4
      obtain ⟨g1, g2⟩ := hkV_get hh
      obtain ⟨a1, c1, he1, hr1⟩ := KV.out.later hbr (Nat.le_refl _)
      obtain ⟨b1, hb1, -, hw1⟩ := hr1 (by omega)
      obtain ⟨a2, c2, he2, hr2⟩ := KU.out.later hbr (Nat.le_refl _)
      obtain ⟨b2, hb2, -, hw2⟩ := hr2 (by omega)
      have hpa : pa = some ⟨b1, 0, none⟩ := by injection he1 with h1 h2 h3; rw [h1, hb1]
      have hqa : qa = some ⟨b2, 0, none⟩ := by injection he2 with h1 h2 h3; rw [h1, hb2]
      subst hpa hqa
      have r1 := hw1 _ _ g1
      have r2 := hw1 _ _ g2
      have t1 := hw2 _ _ g1
      have t2 := hw2 _ _ g2
      unfold pt at r1 r2 t1 t2
      rw [Nat.zero_add] at r1 r2 t1 t2
      generalize fl h.1.1 = X at *
      generalize fl h.1.2 = Y at *
      generalize fl h.2.1 = U at *
      generalize fl h.2.2 = V at *
      have hne := fun W => neq_rk X Y U V o1 o2 o3 o4 W
      clear g1 g2 he1 he2 hr1 hr2 hb1 hb2 hw1 hw2 hh s1 s2 s3 s4 o1 o2 o3 o4
      go_upto_region 6 with fail
      go_quiet (fail)
      generalize hwq : World.drewN wr _ = wq
      have Kbq : Kept (Below w.heap.size w wq) := ⟨by rw [← hwq]; exact below_drewN KBr.out _⟩
      clear hwq hbr hne r1 r2 t1 t2
      go_wp2
      go_roundw
      case rel => exact ⟨k + 1, hlt, by go_num, Kbq.out⟩
      case measure => simp [intOf]; omega
    · have hki : ¬ (k : Int) < (hs.length : Int) := by omega
      clear hbr
      go_wp2
      go_ret
      exact ⟨rfl, KBr.out⟩
end Go.Proofs.Ytjhcpmhjdhmjpaa
