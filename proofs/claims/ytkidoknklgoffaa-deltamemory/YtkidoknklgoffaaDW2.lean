/-
  Walks: Apply.
-/
import Derived.Test.YtkidoknklgoffaaDW1
import Derived.OwnWalk
namespace Go.Proofs.Ytkidoknklgoffaa
open Go.RowKit

theorem insF_lt {base d part : List Int} {at_ b : Nat} (hg : AllB base) (hd : AllB d) (hat : at_ < d.length) (h : insF base d at_ = .ok (part, b)) : at_ < b ∧ b ≤ d.length ∧ AllB part := by
  have hby := hd.getD (by omega) at_
  unfold insF at h
  split at h
  · cases h
  · split at h
    · split at h
      · cases h
      · cases h
        exact ⟨by omega, by omega, (hd.drop _).take _⟩
    · unfold cpF at h
      split at h
      · cases h
      · rename_i p a1 h1
        have hle1 := spF_le d _ 4 0 0 (at_ + 1) p a1 (by omega) h1
        split at h
        · cases h
        · rename_i n a2 h2
          have hle2 := spF_le d _ 3 0 0 a1 n a2 hle1.2 h2
          split at h
          · cases h
          · cases h
            exact ⟨by omega, by omega, (hg.drop _).take _⟩

theorem insF_bad {base d : List Int} {at_ : Nat} {er : Int} (h : insF base d at_ = .bad er) : 0 < er ∧ er < 11 := by
  unfold insF at h
  split at h
  · cases h
    omega
  · split at h
    · split at h
      · cases h
        omega
      · cases h
    · unfold cpF at h
      split at h
      · cases h
        omega
      · split at h
        · cases h
          omega
        · split at h
          · cases h
            omega
          · cases h
theorem sizeS_bad {xs : List Int} {t a p e : Int} (h : Nu.sizeS xs t = (a, p, e)) (he : e ≠ 0) : 0 < e ∧ e < 11 := by
  unfold Nu.sizeS at h
  split at h
  · split at h <;> simp only [Prod.mk.injEq] at h <;> omega
  · rename_i h1
    simp only [Prod.mk.injEq] at h
    rcases Nu.endS_cases h1 with ⟨_, h2⟩ | ⟨_, h2⟩ <;> omega
theorem hdF_bad {n : Nat} {d : List Int} {most : Nat} {er : Int} (h : hdF n d most = .bad er) : 0 < er ∧ er < 11 := by
  unfold hdF at h
  split at h
  rename_i a p e1 h1
  split at h
  · rename_i he
    cases h
    exact sizeS_bad h1 he
  · split at h
    · cases h
      omega
    · split at h
      rename_i b p2 e2 h2
      split at h
      · rename_i he
        cases h
        exact sizeS_bad h2 he
      · split at h
        · cases h
          omega
        · cases h

/-- What Apply answers. -/
def AfterA (w w' : World) (r : An (List Int)) (e : Ending) : Prop :=
  match r with
  | .ok o => ∃ v, e = .returned (.tuple #[v, .int .i64 0]) ∧ Own .u8 5 w' w.heap.size v o ∧ AllB o ∧ o.length ≤ 1048576 ∧ Below w.heap.size w w'
  | .bad er => e = .returned (.tuple #[.slice none 0 0, .int .i64 er]) ∧ Below w.heap.size w w'

set_option maxHeartbeats 1000000 in
set_option maxRecDepth 100000 in
theorem apply_arg {u v : Value} (w : World) (most : Int) (h : most < 0 ∨ 1048576 < most) :
    Calls Try.prog 10 #[u, v, .int .i64 most] w fun e w' => e = .returned (.tuple #[.slice none 0 0, .int .i64 1]) ∧ w' = w := by
  by_cases h0 : most < 0
  · clear h
    go_enter Try.func10, Try.ntmps10
    go_wp2
    go_ret2
    exact ⟨rfl, rfl⟩
  · have h1 : 1048576 < most := by omega
    clear h
    go_enter Try.func10, Try.ntmps10
    go_wp2
    go_ret2
    exact ⟨rfl, rfl⟩

set_option maxHeartbeats 2000000 in
set_option maxRecDepth 100000 in
theorem apply_any {S S' : Nat → Prop} (u v : Value) (base d : List Int) (most : Nat) (w : World) (g : Rd .u8 S' w u base) (h : Rd .u8 S w v d) (hg : AllB base) (hd : AllB d) (hl : d.length + 20 ≤ 140737488355328) (hgl : base.length + 20 ≤ 140737488355328) (hm : most ≤ 1048576) :
    Calls Try.prog 10 #[u, v, .int .i64 most] w fun e w' => AfterA w w' (applF base d most) e := by
  obtain ⟨i0, z0, hi, hz, hs, hb0, hc⟩ := info8
  have hm0 : decide ((most : Int) < 0) = false := by simp
  have hm1 : decide ((1048576 : Int) < (most : Int)) = false := by simp; omega
  have K1 := Kept.mk (readSizes_any v d base.length most w h hd hl (by omega) hm)
  obtain ⟨va, vc, rfl, -, -, -⟩ := h.form
  obtain ⟨ua, uc, rfl, -, -, -⟩ := g.form
  rcases hq : hdF base.length d most with ⟨size, at0⟩ | er
  · rw [hq] at K1
    have hsz : size ≤ most ∧ at0 ≤ d.length := by
      unfold hdF at hq
      split at hq
      rename_i a p e1 h1
      split at hq
      · cases hq
      · split at hq
        · cases hq
        · split at hq
          rename_i he _ b p2 e2 h2
          split at hq
          · cases hq
          · split at hq
            · cases hq
            · rename_i he2 hb2
              have he : e1 = 0 := by omega
              have he2 : e2 = 0 := by omega
              subst he he2
              have := sizeS_ok h2
              cases hq
              omega
    have KR : Kept (applF base d most = goF base d size (d.length + 1) [] at0) := ⟨by unfold applF; rw [hq]⟩
    have hb1 : i0.bytes * size ≤ 281474976710656 := by rw [hb0]; omega
    have hb2 : size ≤ maxLen := by unfold maxLen; omega
    have KG := Kept.mk g
    have KH := Kept.mk h
    have KA := Kept.mk (And.intro hg hd)
    clear hq g h hg hd
    go_enter Try.func10, Try.ntmps10
    go_wp2_with fail
    refine Calls.mono K1.out (fun e w1 hp => ?_)
    obtain ⟨rfl, rfl⟩ := hp
    unfold hdE
    go_wp2_with (first | (at_make; refine wpList_make_own _ rfl _ _ 22 rfl w1.heap.size 5 i0 z0 1 Try.underlying22 hi hz hs .i64 .i64 (size : Int) size rfl rfl rfl hb1 hb2 (Nat.le_refl _) ?_; intro w2 o2 g2; have KB2 := Kept.mk ((Below.refl w1.heap.size w1).grown g2 (Nat.le_refl _) (by intro k hk; cases hk)); have KO2 : Kept (Own .u8 5 w2 w1.heap.size (.slice (some ⟨w1.heap.size, 0, none⟩) 0 size) []) := ⟨o2⟩; clear o2 g2))
    go_loopw [9, 11] (fun a o wr => ∃ (f b : Nat) (out : List Int), a = .int .i64 b ∧ Own .u8 5 wr w1.heap.size o out ∧ AllB out ∧ out.length ≤ size ∧ b ≤ d.length ∧ d.length - b < f ∧ goF base d size (d.length + 1) [] at0 = goF base d size f out b ∧ Below w1.heap.size w1 wr) (fun a _ _ => d.length - (intOf a).toNat)
    case atStart => exact ⟨d.length + 1, at0, [], rfl, KO2.out, AllIn.nil, by simp, hsz.2, by omega, rfl, KB2.out⟩
    case round =>
      obtain ⟨f, b, out, rfl, how, hao, hol, hbl, hf, he, hbel⟩ := hrel
      obtain ⟨f, rfl⟩ : ∃ f', f = f' + 1 := ⟨f - 1, by omega⟩
      obtain ⟨oa, oc, rfl, -, -, -⟩ := how.rd.form
      have hwz := hbel.size
      have hgr := KG.out.later hbel (Nat.le_refl _)
      have hdr := KH.out.later hbel (Nat.le_refl _)
      by_cases hlt : b < d.length
      · have hlo : decide ((b : Int) < (d.length : Int)) = true := by simp; omega
        have K2 := Kept.mk (readInstruction_any _ _ base d b wr hgr hdr KA.out.2 hlt hl hgl)
        have KO := Kept.mk how
        have KBl := Kept.mk hbel
        have KE := Kept.mk he
        have KAo := Kept.mk hao
        clear how hbel he hgr hdr hao
        go_wp2_with fail
        refine Calls.mono K2.out (fun e w3 hp => ?_)
        obtain ⟨hp, rfl⟩ := hp
        rcases hR : insF base d b with ⟨part, b2⟩ | er <;> rw [hR] at hp
        · have hib := insF_lt KA.out.1 KA.out.2 hlt hR
          have hE2 : goF base d size (f + 1) out b = if size < out.length + part.length then .bad 4 else goF base d size f (out ++ part) b2 := by rw [goF, if_pos hlt, hR]
          obtain ⟨pv, rfl, hrp⟩ := hp
          obtain ⟨pa, pc, rfl, -, hpl, hpm⟩ := hrp.form
          unfold maxLen at hpm
          by_cases hbig : size < out.length + part.length
          · rw [if_pos hbig] at hE2
            have hbo : decide ((size : Int) - (out.length : Int) < (part.length : Int)) = true := by simp; omega
            have KF : Kept (applF base d most = .bad 4) := ⟨by rw [KR.out, KE.out, hE2]⟩
            clear hE2 hbig hR
            go_wp2
            go_ret2
            rw [KF.out]
            exact ⟨rfl, KBl.out⟩
          · rw [if_neg hbig] at hE2
            have hbo : decide ((size : Int) - (out.length : Int) < (part.length : Int)) = false := by simp; omega
            have KE2 : Kept (goF base d size (d.length + 1) [] at0 = goF base d size f (out ++ part) b2) := ⟨by rw [KE.out, hE2]⟩
            have KRp := Kept.mk hrp
            have KAp := Kept.mk hib.2.2
            have hib1 := hib.1
            have hib2 := hib.2.1
            have hll : out.length + part.length ≤ size := by omega
            clear hE2 hbig hR hrp hib KE
            go_wp2_with (at_builtin; refine wpList_append_rd _ rfl _ _ 22 rfl .u8 anyB 1 w1.heap.size 5 i0 z0 Try.underlying22 hi hz hs hb0 hc (by omega) (.slice oa out.length oc) out rfl KO.out _ part rfl KRp.out (by omega) hwz ?_; intro v4 w4 hown hgrow hat; obtain ⟨na, nc, rfl, -, -, -⟩ := hown.rd.form; have KO4 := Kept.mk hown; have KB4 := Kept.mk (KBl.out.grown hgrow hwz (own_ge KO.out)); clear hown hgrow hat)
            go_roundw
            case rel => exact ⟨f, b2, out ++ part, rfl, by rw [← List.length_append]; exact KO4.out, KAo.out.append KAp.out, by rw [List.length_append]; exact hll, hib2, by omega, KE2.out, KB4.out⟩
            case measure => simp [intOf]; omega
        · have KF : Kept (applF base d most = .bad er) := ⟨by rw [KR.out, KE.out, goF, if_pos hlt, hR]⟩
          have her := insF_bad hR
          have hbo : (er != 0) = true := by simp; omega
          have hp : e = _ := hp
          subst hp
          clear hR her
          go_wp2
          go_ret2
          rw [KF.out]
          exact ⟨rfl, KBl.out⟩
      · have hlo : decide (b < d.length) = false := by simp; omega
        have KO := Kept.mk how
        have KBl := Kept.mk hbel
        have KAo := Kept.mk hao
        by_cases hsh : out.length < size
        · have hso : decide (out.length < size) = true := by simp; omega
          have KF : Kept (applF base d most = .bad 4) := ⟨by rw [KR.out, he, goF, if_neg hlt, if_pos hsh]⟩
          clear how hbel he hgr hdr hao hsh hlt
          go_wp2
          go_ret2
          rw [KF.out]
          exact ⟨rfl, KBl.out⟩
        · have hso : decide (out.length < size) = false := by simp; omega
          have KF : Kept (applF base d most = .ok out) := ⟨by rw [KR.out, he, goF, if_neg hlt, if_neg hsh]⟩
          clear how hbel he hgr hdr hao hsh hlt
          go_wp2
          go_ret2
          rw [KF.out]
          exact ⟨_, rfl, KO.out, KAo.out, by omega, KBl.out⟩
  · rw [hq] at K1
    have KR : Kept (applF base d most = .bad er) := ⟨by unfold applF; rw [hq]⟩
    have her := hdF_bad hq
    have hbo : (er != 0) = true := by simp; omega
    clear hq her h g hg hd
    go_enter Try.func10, Try.ntmps10
    go_wp2_with fail
    refine Calls.mono K1.out (fun e w1 hp => ?_)
    obtain ⟨rfl, rfl⟩ := hp
    unfold hdE
    go_wp2
    go_ret2
    rw [KR.out]
    exact ⟨rfl, Below.refl _ _⟩
end Go.Proofs.Ytkidoknklgoffaa
