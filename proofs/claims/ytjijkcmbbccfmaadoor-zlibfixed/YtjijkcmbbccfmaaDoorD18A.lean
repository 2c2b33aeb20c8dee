/-
  The document's reader: DocInflate, up to each way.
-/
import Derived.Test.YtjijkcmbbccfmaaDoorD17
import Derived.Test.YtjijkcmbbccfmaaDoorD15
import Derived.Test.YtjijkcmbbccfmaaDoorI2
import Derived.Test.YtjijkcmbbccfmaaDoorP2
namespace Go.Proofs.YtjijkcmbbccfmaaDoor
open Go.RowKit
set_option linter.unusedVariables false

theorem dway0 (p : List Int) (most : Nat) (out : List Int) (t : Nat) : wayF p most 0 out t = storedF p most out t := by
  unfold wayF
  rw [if_pos rfl]
theorem dway1 (p : List Int) (most : Nat) (out : List Int) (t : Nat) : wayF p most 1 out t = blockF p most (mkCd fixedL) (mkCd fixedD) (8 * p.length - t + 1) out t := by
  unfold wayF
  rw [if_neg (by decide), if_pos rfl]
theorem dway2 (p : List Int) (most : Nat) (out : List Int) (t : Nat) : wayF p most 2 out t = (tlF p t).bind fun ab t1 => blockF p most (mkCd ab.1) (mkCd ab.2) (8 * p.length - t1 + 1) out t1 := by
  unfold wayF
  rw [if_neg (by decide), if_neg (by decide), if_pos rfl, told_tl]
  rcases tlF p t with ⟨ab, t1⟩ | er <;> dsimp only [Rs.bind]
theorem dway3 (p : List Int) (most : Nat) (out : List Int) (t : Nat) : wayF p most 3 out t = .bad .form := by
  unfold wayF
  rw [if_neg (by decide), if_neg (by decide), if_neg (by decide)]

theorem dstoredR {W0 w : World} {rb : Nat} {ob : Option Nat} {inV : Value} {p out : List Int} {most t : Nat} (h : Bts W0 w rb ob inV p most out t 0) :
    Calls Tryd.prog 28 #[.pointer (some ⟨rb, 0, none⟩)] w fun e w' => AfterV W0 w w' rb ob inV p most (storedF p most out t) e := by
  rcases hn : dnum p ((t + 7) / 8 * 8) 0 16 with ⟨n, t2, E2⟩
  rcases hm : dnum p t2 E2 16 with ⟨m, t3, E3⟩
  have hs := dstored_same p most out t h.tle n m E2 E3 t2 t3 hn hm
  refine Calls.mono (dstored_any h n m E2 E3 t2 t3 hn hm) (fun e w' hp => ?_)
  obtain ⟨rfl, ob', hB, hM⟩ := hp
  refine ⟨ob', _, _, _, rfl, ?_, hB, hM⟩
  rcases hr : storedF p most out t with ⟨o, t'⟩ | er
  · rw [hr] at hs
    have hs' : dstGo p most n.toNat out t3 (if n + m = 65535 then E3 else dfail E3) = (o, t', 0) := hs
    rw [hs']
    exact Or.inl ⟨rfl, rfl⟩
  · rw [hr] at hs
    exact Or.inr ⟨er, rfl, hs⟩

theorem allIn_lit {a b : Int} {xs : List Int} (h : xs.all (fun x => decide (a ≤ x ∧ x < b)) = true) : AllIn a b xs := by
  intro x hx
  have := List.all_eq_true.1 h x hx
  simpa using this
theorem fixedL_in : AllIn 0 16 fixedL := allIn_lit (by kernel_rfl)
theorem fixedD_in : AllIn 0 16 fixedD := allIn_lit (by kernel_rfl)
theorem fixedL_len : fixedL.length = 288 := by kernel_rfl
theorem fixedD_len : fixedD.length = 32 := by kernel_rfl

/-- Behind a block: the stream goes on, or ends. -/
def goF (l : Int) (F : Rs (List Int)) (o : List Int) (t : Nat) : Rs (List Int) := if l = 0 then F else .ok o t
theorem goF_zero (F : Rs (List Int)) (o : List Int) (t : Nat) : goF 0 F o t = F := by
  unfold goF
  rw [if_pos rfl]
theorem goF_one {l : Int} (h : l ≠ 0) (F : Rs (List Int)) (o : List Int) (t : Nat) : goF l F o t = .ok o t := by
  unfold goF
  rw [if_neg h]

theorem stream_k (p : List Int) (most f : Nat) (out : List Int) (t : Nat) : streamF p most (f + 1) out t = (numF p 1 t).bind fun l t1 => (numF p 2 t1).bind fun y t2 => (wayF p most y out t2).bind fun o t3 => goF l (streamF p most f o t3) o t3 := by
  rw [streamF]
  unfold headF
  rcases numF p 1 t with ⟨l, t1⟩ | er
  · dsimp only [Rs.bind]
    rcases numF p 2 t1 with ⟨y, t2⟩ | er
    · dsimp only [Rs.bind]
      rcases wayF p most y out t2 with ⟨o, t3⟩ | er <;> rfl
    · rfl
  · rfl

set_option maxHeartbeats 1000000 in
set_option maxRecDepth 100000 in
theorem docInflate_arg {v : Value} (w : World) (most : Int) (h : most < 0 ∨ 1048576 < most) :
    Calls Tryd.prog 12 #[v, .int .i64 most] w fun e w' => e = .returned (.tuple #[.slice none 0 0, .int .i64 0, .int .i64 1]) ∧ w' = w := by
  by_cases h0 : most < 0
  · clear h
    go_enter Tryd.func12, Tryd.ntmps12
    go_wp2
    go_ret3
    exact ⟨rfl, rfl⟩
  · have h1 : 1048576 < most := by omega
    clear h
    go_enter Tryd.func12, Tryd.ntmps12
    go_wp2
    go_ret3
    exact ⟨rfl, rfl⟩

set_option maxHeartbeats 4000000 in
set_option maxRecDepth 100000 in
/-- Up to each way, and to the end. -/
def diA (va : Option Addr) (vc : Nat) (p : List Int) (most : Nat) (w : World) (R : Rs (List Int)) : PSigma fun G0 : Prop => PSigma fun G1 : Prop => PSigma fun G2 : Prop => PSigma fun G3 : Prop => PSigma fun G4 : Prop =>
    p.length ≤ 70368744177664 → most ≤ 1048576 → Bts w (w.alloc (.cells #[.slice va p.length vc, .int .i64 0, .slice none 0 0, .int .i64 most, .int .i64 0] 45)) w.heap.size none (.slice va p.length vc) p most [] 0 0 → PreD R (goF 0 (streamF p most (8 * p.length + 1) [] 0) [] 0) 0 → G0 → G1 → G2 → G3 → G4 →
    Calls Tryd.prog 12 #[.slice va p.length vc, .int .i64 most] w fun e w' => AfterI w w' R e := by
  apply PSigma.mk
  case snd =>
  apply PSigma.mk
  case snd =>
  apply PSigma.mk
  case snd =>
  apply PSigma.mk
  case snd =>
  apply PSigma.mk
  case snd =>
  intro hl hm hB hst HG0 HG1 HG2 HG3 HG4
  have KG0 := Kept.mk HG0
  have KG1 := Kept.mk HG1
  have KG2 := Kept.mk HG2
  have KG3 := Kept.mk HG3
  have KG4 := Kept.mk HG4
  clear HG0 HG1 HG2 HG3 HG4
  have hm0 : ¬ (most : Int) < 0 := by omega
  have hm1 : ¬ (1048576 : Int) < (most : Int) := by omega
  have KB0 := Kept.mk hB
  have KST0 := Kept.mk hst
  clear hB hst
  go_enter Tryd.func12, Tryd.ntmps12
  go_wp2
  go_loopw [8, 9, 10, 11, 12, 13] (fun s8 _ _ _ _ _ wr => ∃ (l : Int) (f tk : Nat) (o : List Int) (ob' : Option Nat) (Ek : Int), s8 = .int .i64 l ∧ (0 ≤ l ∧ l ≤ 1) ∧ 8 * p.length - tk + 1 ≤ f ∧ PreD R (goF l (streamF p most f o tk) o tk) Ek ∧ Bts w wr w.heap.size ob' (.slice va p.length vc) p most o tk Ek) (fun s8 _ _ _ _ _ wr => eOf wr w.heap.size * ((1 - intOf s8).toNat * (8 * p.length - tOf wr w.heap.size + 1)))
  case atStart => exact ⟨0, 8 * p.length + 1, 0, [], none, 0, rfl, by omega, by omega, KST0.out, KB0.out⟩
  case round =>
    clear KST0 KB0
    obtain ⟨l, f, tk, o, ob', Ek, rfl, hl01, hf, hst, hB⟩ := hrel
    have cE := hB.cE
    have htk := hB.tle
    have hrb := hB.rb_lt
    have KST := Kept.mk hst
    have KB := Kept.mk hB
    clear hst hB
    by_cases hl0 : l = 0
    · subst hl0
      by_cases hEk : Ek = 0
      · have hRk := preD_on KST.out hEk
        subst hEk
        obtain ⟨f, rfl⟩ : ∃ f', f = f' + 1 := ⟨f - 1, by omega⟩
        rw [goF_zero, stream_k] at hRk
        obtain ⟨R1, hR1, hn1⟩ := preD_bind (show PreD R ((numF p 1 tk).bind _) 0 from Or.inl ⟨rfl, hRk⟩)
        have hR1e := preD_on hR1 rfl
        have K1 := Kept.mk (dbitR hR1 KB.out)
        have KN1 := Kept.mk hn1
        have KR1 := Kept.mk hR1e
        have KF := Kept.mk hf
        clear hRk hR1 hn1 hR1e KST hl01 hf
        go_wp2_with fail
        refine Calls.mono K1.out (fun e w1 hp => ?_)
        obtain ⟨l1, t1, E1, rfl, hl1, hS1, hB1, -⟩ := hp
        have hl1b : 0 ≤ l1 ∧ l1 ≤ 1 := hl1
        obtain ⟨R2, hR2, hn2⟩ := preD_bind (show PreD R ((numF p 2 t1).bind _) E1 from KN1.out _ _ _ hS1)
        have ht1 : E1 = 0 → t1 = tk + 1 := fun e => by
          rcases hS1 with ⟨h1, -⟩ | ⟨er, -, h2⟩
          · rw [KR1.out] at h1
            exact numF_at h1
          · exact absurd (h2.symm.trans e) (er_ne er)
        have KT1 := Kept.mk ht1
        have K2 := Kept.mk (dnumR 2 (by omega) hR2 hB1)
        have KN2 := Kept.mk hn2
        have KP2 := Kept.mk hR2
        clear hR2 hn2 ht1 hS1 hB1 K1 KN1 KR1
        go_wp2_with fail
        refine Calls.mono K2.out (fun e w2 hp => ?_)
        obtain ⟨y, t2, E2, rfl, hy, hS2, hB2, -⟩ := hp
        simp only [Int.reducePow] at hy
        have cE2 := hB2.cE
        have KX2 := Kept.mk (KN2.out _ _ _ hS2)
        have KT2 : Kept (E2 = 0 → t2 = tk + 3) := ⟨fun e => by
          rcases hS2 with ⟨h1, -⟩ | ⟨er, -, h2⟩
          · rcases KP2.out with ⟨h3, h4⟩ | ⟨er, h3, -⟩
            · rw [h4] at h1
              have h5 := numF_at h1
              have h6 := KT1.out h3
              omega
            · rw [h3] at h1
              cases h1
          · exact absurd (h2.symm.trans e) (er_ne er)⟩
        have KB2 := Kept.mk hB2
        clear hS2 hB2 KN2 KP2 K2 KT1
        by_cases hE2 : E2 = 0
        · have hRk := preD_on KX2.out hE2
          have ht2 := KT2.out hE2
          subst hE2
          obtain ⟨R3, hR3, hn3⟩ := preD_bind (show PreD R ((wayF p most y o t2).bind _) 0 from Or.inl ⟨rfl, hRk⟩)
          have hR3e := preD_on hR3 rfl
          have KX3 := Kept.mk hn3
          have KR3 := Kept.mk hR3e
          clear hRk hR3 hn3 hR3e KX2 KT2
          have KW : Kept (∀ o6 t6 E6, StD R3 o6 t6 E6 → E6 = 0 → t2 ≤ t6) := ⟨fun o6 t6 E6 hS e => by
            rcases hS with ⟨h1, -⟩ | ⟨er, -, h2⟩
            · rw [KR3.out] at h1
              exact (wayF_ok h1).1
            · exact absurd (h2.symm.trans e) (er_ne er)⟩
          have hy4 : y = 0 ∨ y = 1 ∨ y = 2 ∨ y = 3 := by omega
          clear hy
          rcases hy4 with rfl | rfl | rfl | rfl
          · rename_i Q0 K2 hK2 Q1 K1 hK1 K0 hK0
            revert hl hm Q0 K2 hm0 hm1 wr u9 u10 u11 u12 u13 u24 u25 u26 u27 u28 u29 u30 u31 u32 u33 u34 u35 u36 u37 u38 u39 u40 u41 u42 u43 u44 u45 u46 u47 u48 u49 u50 u51 u52 u53 u54 u55 u56 u57 u58 u59 u60 u61 u62 u63 u64 u65 u66 u67 u68 u69 tk o ob' f Q1 l1 K1 K0 w2 t2 R3
            exact KG0.out
          · rename_i Q0 K2 hK2 Q1 K1 hK1 K0 hK0
            revert hl hm Q0 K2 hm0 hm1 wr u9 u10 u11 u12 u13 u24 u25 u26 u27 u28 u29 u30 u31 u32 u33 u34 u35 u36 u37 u38 u39 u40 u41 u42 u43 u44 u45 u46 u47 u48 u49 u50 u51 u52 u53 u54 u55 u56 u57 u58 u59 u60 u61 u62 u63 u64 u65 u66 u67 u68 u69 tk o ob' f Q1 l1 K1 K0 w2 t2 R3
            exact KG1.out
          · rename_i Q0 K2 hK2 Q1 K1 hK1 K0 hK0
            revert hl hm Q0 K2 hm0 hm1 wr u9 u10 u11 u12 u13 u24 u25 u26 u27 u28 u29 u30 u31 u32 u33 u34 u35 u36 u37 u38 u39 u40 u41 u42 u43 u44 u45 u46 u47 u48 u49 u50 u51 u52 u53 u54 u55 u56 u57 u58 u59 u60 u61 u62 u63 u64 u65 u66 u67 u68 u69 tk o ob' f Q1 l1 K1 K0 w2 t2 R3
            exact KG2.out
          · rename_i Q0 K2 hK2 Q1 K1 hK1 K0 hK0
            revert hl hm Q0 K2 hm0 hm1 wr u9 u10 u11 u12 u13 u24 u25 u26 u27 u28 u29 u30 u31 u32 u33 u34 u35 u36 u37 u38 u39 u40 u41 u42 u43 u44 u45 u46 u47 u48 u49 u50 u51 u52 u53 u54 u55 u56 u57 u58 u59 u60 u61 u62 u63 u64 u65 u66 u67 u68 u69 tk o ob' f Q1 l1 K1 K0 w2 t2 R3
            exact KG3.out
        · obtain ⟨er, her1, her2⟩ := preD_off KX2.out hE2
          have KE := Kept.mk her1
          have KE2 := Kept.mk her2
          clear her1 her2
          go_wp2
          go_quiet (fail)
          go_wp2
          go_ret3
          rw [KE.out]
          exact ⟨by have hh := KE2.out; subst hh; rfl, below_drewN KB2.out.bel _⟩
      · obtain ⟨er, her1, her2⟩ := preD_off KST.out hEk
        have KE := Kept.mk her1
        have KE2 := Kept.mk her2
        clear her1 her2
        go_wp2
        go_quiet (fail)
        go_wp2
        go_ret3
        rw [KE.out]
        exact ⟨by have hh := KE2.out; subst hh; rfl, below_drewN KB.out.bel _⟩
    · have hl1 : l = 1 := by omega
      subst hl1
      by_cases hEk : Ek = 0
      · rename_i Q0 K2 hK2
        revert hl hm Q0 K2 hm0 hm1 wr u9 u10 u11 u12 u13 u24 u25 u26 u27 u28 u29 u30 u31 u32 u33 u34 u35 u36 u37 u38 u39 u40 u41 u42 u43 u44 u45 u46 u47 u48 u49 u50 u51 u52 u53 u54 u55 u56 u57 u58 u59 u60 u61 u62 u63 u64 u65 u66 u67 u68 u69 f tk o ob' Ek
        exact KG4.out
      · obtain ⟨er, her1, her2⟩ := preD_off KST.out hEk
        have KE := Kept.mk her1
        have KE2 := Kept.mk her2
        clear her1 her2
        go_wp2
        go_quiet (fail)
        go_wp2
        go_ret3
        rw [KE.out]
        exact ⟨by have hh := KE2.out; subst hh; rfl, below_drewN KB.out.bel _⟩
end Go.Proofs.YtjijkcmbbccfmaaDoor
