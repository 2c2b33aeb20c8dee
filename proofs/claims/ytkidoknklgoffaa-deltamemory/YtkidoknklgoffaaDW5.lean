/-
  Walks: the document's Apply.
-/
import Derived.Test.YtkidoknklgoffaaDW4
namespace Go.Proofs.Ytkidoknklgoffaa
open Go.RowKit

theorem step_any {W0 w : World} {tb : Nat} {dV baseV : Value} {base d out : List Int} {at_ size : Nat} (h : St W0 w tb dV out at_ 0) (htb : W0.heap.size ≤ tb) (hr : Rd .u8 anyB W0 dV d) (hb : Rd .u8 anyB W0 baseV base) (hat : at_ < d.length) (hl : d.length + 20 ≤ 140737488355328) (hlb : base.length + 20 ≤ 140737488355328) (hd : AllB d) (hs : size ≤ 1048576) (hos : out.length ≤ size) :
    Calls Try.prog 23 #[.pointer (some ⟨tb, 0, none⟩), baseV, .int .i64 size] w fun e w' => e = .returned (.tuple #[]) ∧ AfterS W0 w' tb dV out size (insF base d at_) := by
  by_cases h0 : d.getD at_ 0 = 0
  · exact step_zero h htb hr hat hl hd h0
  · by_cases h1 : d.getD at_ 0 < 128
    · exact step_ins h htb hr hat hl hd h0 h1 hs hos
    · exact step_copy h htb hr hb hat hl hlb hd (by omega) hs hos

theorem goF_lt (base : List Int) {d : List Int} (size : Nat) (out : List Int) (f : Nat) {a : Nat} (h : a < d.length) : goF base d size (f + 1) out a = match insF base d a with
      | .bad e => .bad e
      | .ok (part, b) => if size < out.length + part.length then .bad 4 else goF base d size f (out ++ part) b := by
  rw [goF, if_pos h]
  rcases insF base d a with ⟨part, b⟩ | e <;> rfl
theorem goF_ge (base : List Int) {d : List Int} (size : Nat) (out : List Int) (f : Nat) {a : Nat} (h : ¬ a < d.length) : goF base d size (f + 1) out a = if out.length < size then .bad 4 else .ok out := by rw [goF, if_neg h]

/-- How much is left to do. -/
def mOf (w : World) (tb L : Nat) : Nat :=
  match w.cell? ⟨tb, 3, none⟩, w.cell? ⟨tb, 1, none⟩ with
  | some (.int _ e), some (.int _ a) => if e = 0 then L - a.toNat + 1 else 0
  | _, _ => 0
theorem mOf_on {W0 w : World} {tb : Nat} {dV : Value} {out : List Int} {a : Nat} {E : Int} (h : St W0 w tb dV out a E) (L : Nat) : mOf w tb L = if E = 0 then L - a + 1 else 0 := by
  obtain ⟨outV, hT, -⟩ := h
  unfold mOf
  rw [hT.c3, hT.c1]
  simp

set_option maxHeartbeats 1000000 in
set_option maxRecDepth 100000 in
theorem docApply_arg {u v : Value} (w : World) (most : Int) (h : most < 0 ∨ 1048576 < most) :
    Calls Try.prog 12 #[u, v, .int .i64 most] w fun e w' => e = .returned (.tuple #[.slice none 0 0, .int .i64 1]) ∧ w' = w := by
  by_cases h0 : most < 0
  · clear h
    go_enter Try.func12, Try.ntmps12
    go_wp2
    go_ret2
    exact ⟨rfl, rfl⟩
  · have h1 : 1048576 < most := by omega
    clear h
    go_enter Try.func12, Try.ntmps12
    go_wp2
    go_ret2
    exact ⟨rfl, rfl⟩

set_option maxHeartbeats 2000000 in
set_option maxRecDepth 100000 in
theorem docApply_any {S S' : Nat → Prop} (u v : Value) (base d : List Int) (most : Nat) (w : World) (g : Rd .u8 S' w u base) (h : Rd .u8 S w v d) (hg : AllB base) (hd : AllB d) (hl : d.length + 20 ≤ 140737488355328) (hgl : base.length + 20 ≤ 140737488355328) (hm : most ≤ 1048576) :
    Calls Try.prog 12 #[u, v, .int .i64 most] w fun e w' => AfterA w w' (applF base d most) e := by
  have hm0 : decide ((most : Int) < 0) = false := by simp
  have hm1 : decide ((1048576 : Int) < (most : Int)) = false := by simp; omega
  have K1 := Kept.mk (nu_docSize v d 0 w h hd (by omega) hl)
  have KG := Kept.mk g.any
  have KH := Kept.mk h.any
  have KA := Kept.mk (And.intro hg hd)
  obtain ⟨va, vc, rfl, -, -, -⟩ := h.form
  obtain ⟨ua, uc, rfl, -, -, -⟩ := g.form
  rcases h1 : Nu.sizeS d 0 with ⟨a, p, e1⟩
  rw [h1] at K1
  by_cases he1 : e1 = 0
  · subst he1
    have hs1 := sizeS_ok h1
    have K2 := Kept.mk (nu_docSize _ d p w h hd (by omega) hl)
    by_cases ha : a = base.length
    · subst ha
      have hno : ((base.length : Int) != (base.length : Int)) = false := by simp
      rcases h2 : Nu.sizeS d p with ⟨b, p2, e2⟩
      rw [h2] at K2
      by_cases he2 : e2 = 0
      · subst he2
        have hs2 := sizeS_ok h2
        by_cases hbig : (most : Int) < b
        · have KR : Kept (applF base d most = .bad 10) := ⟨by unfold applF hdF; rw [h1]; simp only [ne_eq, not_true_eq_false, if_false]; rw [h2]; simp only [not_true_eq_false, if_false]; rw [if_pos hbig]⟩
          have hbo : decide ((most : Int) < b) = true := by simpa using hbig
          clear hbig h1 h2 h g hs1 hs2 hg hd
          go_enter Try.func12, Try.ntmps12
          go_wp2_with fail
          refine Calls.mono K1.out (fun e w1 hp => ?_)
          obtain ⟨rfl, rfl⟩ := hp
          go_wp2_with fail
          refine Calls.mono K2.out (fun e w1 hp => ?_)
          obtain ⟨rfl, rfl⟩ := hp
          go_wp2
          go_ret2
          rw [KR.out]
          exact ⟨rfl, Below.refl _ _⟩
        · obtain ⟨B, rfl⟩ := Int.eq_ofNat_of_zero_le hs2.1
          obtain ⟨P2, rfl⟩ := Int.eq_ofNat_of_zero_le (show 0 ≤ p2 by omega)
          have KR : Kept (applF base d most = goF base d B (d.length + 1) [] P2) := ⟨by unfold applF hdF; rw [h1]; simp only [ne_eq, not_true_eq_false, if_false]; rw [h2]; simp only [not_true_eq_false, if_false]; rw [if_neg hbig]; simp only [Int.toNat_natCast]⟩
          have hB : B ≤ most := by omega
          have hbn : decide (most < B) = false := by simp; omega
          have hP2 : P2 ≤ d.length := by omega
          clear hbig h1 h2 h g hs1 hs2 hg hd
          go_enter Try.func12, Try.ntmps12
          go_wp2_with fail
          refine Calls.mono K1.out (fun e w1 hp => ?_)
          obtain ⟨rfl, rfl⟩ := hp
          go_wp2_with fail
          refine Calls.mono K2.out (fun e w1 hp => ?_)
          obtain ⟨rfl, rfl⟩ := hp
          go_wp2
          have hS0 : St w1 (w1.alloc (.cells #[.slice va d.length vc, .int .i64 P2, .slice none 0 0, .int .i64 0] 47)) w1.heap.size (.slice va d.length vc) [] P2 0 :=
            ⟨.slice none 0 0, heap_alloc_new w1 _, Own.nil _ _ _ _, by simp [Value.ownBlock], (Below.refl _ w1).alloc (Nat.le_refl _) _⟩
          have KS0 := Kept.mk hS0
          clear hS0
          go_loopw [64] (fun _ wr => ∃ (f a : Nat) (E : Int) (out : List Int), St w1 wr w1.heap.size (.slice va d.length vc) out a E ∧ out.length ≤ B ∧ AllB out ∧ (E = 0 ∧ a ≤ d.length ∧ d.length - a < f ∧ goF base d B (d.length + 1) [] P2 = goF base d B f out a ∨ 0 < E ∧ E < 11 ∧ goF base d B (d.length + 1) [] P2 = .bad E)) (fun _ wr => mOf wr w1.heap.size d.length)
          case atStart => exact ⟨d.length + 1, P2, 0, [], KS0.out, by simp, AllIn.nil, Or.inl ⟨rfl, hP2, by omega, rfl⟩⟩
          case round =>
            obtain ⟨f, a, E, out, hSt, hol, hao, hE⟩ := hrel
            have KSt := Kept.mk hSt
            obtain ⟨outV, hT, how, hob, hbel⟩ := hSt
            obtain ⟨oa, oc, rfl, -, -, -⟩ := how.rd.form
            have c1 := hT.c1
            have c2 := hT.c2
            have c3 := hT.c3
            have f3 := hT.fz 3
            have KT := Kept.mk hT
            have KO := Kept.mk how
            have KBl := Kept.mk hbel
            have KAo := Kept.mk hao
            clear hT how hbel hao
            rcases hE with ⟨rfl, hal, hf, he⟩ | ⟨hE0, hE1, he⟩
            · obtain ⟨f, rfl⟩ : ∃ f', f = f' + 1 := ⟨f - 1, by omega⟩
              by_cases hlt : a < d.length
              · have hlo : decide (a < d.length) = true := by simp; omega
                have hlo2 : decide ((a : Int) < (d.length : Int)) = true := by simp; omega
                have K3 := Kept.mk (step_any (base := base) (baseV := .slice ua base.length uc) (size := B) KSt.out (Nat.le_refl _) KH.out KG.out hlt hl hgl KA.out.2 (by omega) hol)
                have KE := Kept.mk he
                have hm1 := mOf_on KSt.out d.length
                have KM := Kept.mk hm1
                clear he hm1
                go_wp2_with fail
                refine Calls.mono K3.out (fun e w3 hp => ?_)
                obtain ⟨rfl, hA⟩ := hp
                have KA3 := Kept.mk hA
                clear hA
                go_wp2
                have hA := KA3.out
                have he := KE.out
                rw [goF_lt base B out f hlt] at he
                have hmw := KM.out
                rw [if_pos trivial] at hmw
                rw [hmw]
                rcases hI : insF base d a with ⟨part, b2⟩ | er
                · have hib := insF_lt KA.out.1 KA.out.2 hlt hI
                  rw [hI] at hA he
                  unfold AfterS at hA
                  simp only [] at hA he
                  by_cases hbig : B < out.length + part.length
                  · rw [if_pos hbig] at hA he
                    obtain ⟨a3, hA⟩ := hA
                    refine ⟨⟨f, a3, 4, out, hA, hol, KAo.out, Or.inr ⟨by omega, by omega, he⟩⟩, ?_⟩
                    rw [mOf_on hA, if_neg (by omega)]
                    omega
                  · rw [if_neg hbig] at hA he
                    refine ⟨⟨f, b2, 0, out ++ part, hA, by rw [List.length_append]; omega, KAo.out.append hib.2.2, Or.inl ⟨rfl, hib.2.1, by omega, he⟩⟩, ?_⟩
                    rw [mOf_on hA, if_pos rfl]
                    omega
                · have her := insF_bad hI
                  rw [hI] at hA he
                  unfold AfterS at hA
                  simp only [] at hA he
                  obtain ⟨a3, hA⟩ := hA
                  refine ⟨⟨f, a3, er, out, hA, hol, KAo.out, Or.inr ⟨her.1, her.2, he⟩⟩, ?_⟩
                  rw [mOf_on hA, if_neg (by omega)]
                  omega
              · have hlo : decide (a < d.length) = false := by simp; omega
                rw [goF_ge base B out f hlt] at he
                by_cases hsh : out.length < B
                · rw [if_pos hsh] at he
                  have hso : ((out.length : Int) != (B : Int)) = true := by simp; omega
                  have KF : Kept (applF base d most = .bad 4) := ⟨by rw [KR.out, he]⟩
                  clear he hsh hlt
                  go_wp2
                  go_quiet (fail)
                  go_wp2
                  go_ret2
                  rw [KF.out]
                  exact ⟨rfl, below_drewN (KBl.out.setCell (Nat.le_refl _) _) _⟩
                · rw [if_neg hsh] at he
                  have hso : ((out.length : Int) != (B : Int)) = false := by simp; omega
                  have KF : Kept (applF base d most = .ok out) := ⟨by rw [KR.out, he]⟩
                  clear he hsh hlt
                  go_wp2
                  go_ret2
                  rw [KF.out]
                  exact ⟨_, rfl, KO.out, KAo.out, by omega, KBl.out⟩
            · have hEo : (E == 0) = false := by simp; omega
              have hEn : (E != 0) = true := by simp; omega
              have KF : Kept (applF base d most = .bad E) := ⟨by rw [KR.out, he]⟩
              clear he hE0 hE1
              by_cases hlt : a < d.length
              · have hlo : decide (a < d.length) = true := by simp; omega
                clear hlt
                go_wp2
                go_quiet (fail)
                go_wp2
                go_ret2
                rw [KF.out]
                exact ⟨rfl, below_drewN KBl.out _⟩
              · have hlo : decide (a < d.length) = false := by simp; omega
                clear hlt
                go_wp2
                go_quiet (fail)
                go_wp2
                go_ret2
                rw [KF.out]
                exact ⟨rfl, below_drewN KBl.out _⟩
      · have KR : Kept (applF base d most = .bad e2) := ⟨by unfold applF hdF; rw [h1]; simp only [ne_eq, not_true_eq_false, if_false]; rw [h2]; simp only []; rw [if_pos he2]⟩
        have hbo : (e2 != 0) = true := by simpa using he2
        clear he2 h1 h2 h hs1 g hg hd
        go_enter Try.func12, Try.ntmps12
        go_wp2_with fail
        refine Calls.mono K1.out (fun e w1 hp => ?_)
        obtain ⟨rfl, rfl⟩ := hp
        go_wp2_with fail
        refine Calls.mono K2.out (fun e w1 hp => ?_)
        obtain ⟨rfl, rfl⟩ := hp
        go_wp2
        go_ret2
        rw [KR.out]
        exact ⟨rfl, Below.refl _ _⟩
    · have KR : Kept (applF base d most = .bad 4) := ⟨by unfold applF hdF; rw [h1]; simp only [ne_eq, not_true_eq_false, if_false]; rw [if_pos ha]⟩
      have hbo : (a != (base.length : Int)) = true := by simpa using ha
      clear ha h1 h hs1 g hg hd
      go_enter Try.func12, Try.ntmps12
      go_wp2_with fail
      refine Calls.mono K1.out (fun e w1 hp => ?_)
      obtain ⟨rfl, rfl⟩ := hp
      go_wp2
      go_ret2
      rw [KR.out]
      exact ⟨rfl, Below.refl _ _⟩
  · have KR : Kept (applF base d most = .bad e1) := ⟨by unfold applF hdF; rw [h1]; simp only [ne_eq]; rw [if_pos he1]⟩
    have hbo : (e1 != 0) = true := by simpa using he1
    clear he1 h1 h g hg hd
    go_enter Try.func12, Try.ntmps12
    go_wp2_with fail
    refine Calls.mono K1.out (fun e w1 hp => ?_)
    obtain ⟨rfl, rfl⟩ := hp
    go_wp2
    go_ret2
    rw [KR.out]
    exact ⟨rfl, Below.refl _ _⟩
end Go.Proofs.Ytkidoknklgoffaa
