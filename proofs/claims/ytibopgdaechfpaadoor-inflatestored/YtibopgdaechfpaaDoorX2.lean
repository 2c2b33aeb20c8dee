/-
  Walks: the law InflateStored.
-/
import Derived.Test.YtibopgdaechfpaaDoorI2
import Derived.Test.YtibopgdaechfpaaDoorS1
namespace Go.Proofs.YtibopgdaechfpaaDoor
open Go.RowKit

/-- v is a slice of slices of bytes that reads as rows. -/
def RdRows (w : World) (v : Value) (rows : List (List Int)) : Prop :=
  ∃ a c, v = .slice a rows.length c ∧ (0 < rows.length → ∃ b off, a = some ⟨b, off, none⟩ ∧ b < w.heap.size ∧ ∀ r, r < rows.length → ∃ va, w.cell? ⟨b, off + r, none⟩ = some va ∧ Rd .u8 anyB w va (rows.getD r []) ∧ AllB (rows.getD r []))

/-- Two slices of the call's own, apart. -/
structure Two (w0 wr : World) (q1 q2 : Value) (P A : List Int) : Prop where
  o1 : Own .u8 5 wr w0.heap.size q1 P
  o2 : Own .u8 5 wr w0.heap.size q2 A
  ne : ∀ g, q1.ownBlock = some g → q2.ownBlock ≠ some g
  bel : Below w0.heap.size w0 wr
theorem Two.app1 {w0 wr X w1 : World} {q1 q2 v : Value} {P A P' : List Int} (h : Two w0 wr q1 q2 P A) (hX : Below wr.heap.size wr X) (hg : X.grownBy w1 q1.ownBlock) (ho : Own .u8 5 w1 w0.heap.size v P') (hat : v.ownBlock = q1.ownBlock ∨ v.ownBlock = some X.heap.size) : Two w0 w1 v q2 P' A := by
  have hz := hX.size
  refine ⟨ho, h.o2.far fun g hgb => ?_, fun g hgb e2 => ?_, ?_⟩
  · have hl := (h.o2.lt g hgb).2
    rw [hg.block g (by omega) (fun e => h.ne g e.symm hgb), hX.block g hl]
  · have hl := (h.o2.lt g e2).2
    rcases hat with e | e
    · exact h.ne g (by rw [← e]; exact hgb) e2
    · rw [e] at hgb; simp at hgb; omega
  · exact (h.bel.trans (hX.mono h.bel.size)).grown hg (by have := h.bel.size; omega) (fun k e => (h.o1.lt k e).1)
theorem Two.app2 {w0 wr X w1 : World} {q1 q2 v : Value} {P A A' : List Int} (h : Two w0 wr q1 q2 P A) (hX : Below wr.heap.size wr X) (hg : X.grownBy w1 q2.ownBlock) (ho : Own .u8 5 w1 w0.heap.size v A') (hat : v.ownBlock = q2.ownBlock ∨ v.ownBlock = some X.heap.size) : Two w0 w1 q1 v P A' := by
  have h' : Two w0 wr q2 q1 A P := ⟨h.o2, h.o1, fun g e2 e1 => h.ne g e1 e2, h.bel⟩
  have := h'.app1 hX hg ho hat
  exact ⟨this.o2, this.o1, fun g e1 e2 => this.ne g e2 e1, this.bel⟩

theorem encF_cons (x : List Int) (rest : List (List Int)) : encF (x :: rest) = blkF (if rest = [] then 1 else 0) x ++ encF rest := by
  cases rest with
  | nil => simp [encF]
  | cons y r => rw [encF, if_neg (by simp)]

theorem blkF_all (l : Int) (x : List Int) (hl : 0 ≤ l ∧ l < 256) (hx : AllB x) : AllB (blkF l x) := by
  unfold blkF
  refine AllIn.append (fun y hy => ?_) hx
  simp only [List.mem_cons, List.not_mem_nil, or_false] at hy
  omega
theorem encF_len : ∀ (rs : List (List Int)), rs.length ≤ (encF rs).length
  | [] => by simp
  | x :: r => by
    have := encF_len r
    rw [encF_cons, List.length_append, blkF_length]
    simp only [List.length_cons]
    omega
theorem xor_u8 (y : Int) (h0 : 0 ≤ y) (h1 : y < 256) : bits .xor .u8 IntKind.u8.max y = 255 - y := by
  have e : IntKind.u8.max = 255 := by decide
  rw [e, u8_xor 255 y (by omega) (by omega) h0 h1]
  obtain ⟨z, rfl⟩ := Int.eq_ofNat_of_zero_le h0
  have := (by decide +kernel : ∀ y : Fin 256, 255 ^^^ y.val = 255 - y.val) ⟨z, by omega⟩
  simp only [Int.toNat_natCast, show (255 : Int).toNat = 255 from rfl] at this ⊢
  rw [this]
  omega

set_option maxHeartbeats 4000000 in
set_option maxRecDepth 100000 in
theorem stored_walk (v : Value) (rows : List (List Int)) (w : World) (hT : Tab w) (hv : RdRows w v rows) :
    Calls Tryd.prog 5 #[v] w fun e w' => e = .returned (.bool true) ∧ Below w.heap.size w w' := by
  obtain ⟨i0, z0, hi, hz, hs, hb, hc⟩ := info8
  obtain ⟨a, c, rfl, hrows⟩ := hv
  have KA := Kept.mk (awake_any w hT)
  have KT := Kept.mk hT
  have KRW := Kept.mk hrows
  clear hT hrows
  by_cases h0 : rows.length = 0
  · have h0i : (rows.length : Int) = 0 := by omega
    clear h0
    go_enter Tryd.func5, Tryd.ntmps5
    go_wp2_with fail
    refine Calls.mono KA.out (fun e w1 hp => ?_)
    obtain ⟨rfl, hb1⟩ := hp
    go_wp2
    go_ret
    exact ⟨rfl, hb1⟩
  · have h0i : ¬ (rows.length : Int) = 0 := by omega
    have hne : ¬ rows = [] := fun e => h0 (by rw [e]; rfl)
    have hbq : ((rows.length : Int) == 0) = false := beq_eq_false_iff_ne.2 h0i
    by_cases h20 : (20 : Int) < (rows.length : Int)
    · go_enter Tryd.func5, Tryd.ntmps5
      go_wp2_with fail
      refine Calls.mono KA.out (fun e w1 hp => ?_)
      obtain ⟨rfl, hb1⟩ := hp
      go_wp2
      go_ret
      exact ⟨rfl, hb1⟩
    · obtain ⟨b, off, rfl, hbl, hcells⟩ := KRW.out (by omega)
      have KC := Kept.mk hcells
      clear hcells KRW
      go_enter Tryd.func5, Tryd.ntmps5
      go_wp2_with fail
      refine Calls.mono KA.out (fun e w1 hp => ?_)
      obtain ⟨rfl, hb1⟩ := hp
      have KB1 := Kept.mk hb1
      have hz1 := hb1.size
      clear hb1
      go_wp2_with fail
      have KH0 := Kept.mk h0
      have K20 := Kept.mk h20
      have KNE := Kept.mk hne
      clear h0 h0i h20 hne hbq
      go_loopw [3, 4, 24, 2, 5, 6, 7, 8] (fun s3 s4 s24 _ _ _ _ _ wr => ∃ (j : Nat) (q1 q2 : Value) (P A : List Int), q1 = s3 ∧ q2 = s4 ∧ s24 = .int .i64 j ∧ j ≤ rows.length ∧ P ++ encF (rows.drop j) = encF rows ∧ A ++ (rows.drop j).flatten = rows.flatten ∧ P.length ≤ 1005 * j ∧ A.length ≤ 1000 * j ∧ AllB P ∧ AllB A ∧ (∀ i, i < j → (rows.getD i []).length ≤ 1000) ∧ Two w1 wr q1 q2 P A) (fun _ _ s24 _ _ _ _ _ _ => rows.length - (intOf s24).toNat)
      case atStart => exact ⟨0, _, _, [], [], rfl, rfl, rfl, by omega, by simp, by simp, by simp, by simp, AllIn.nil, AllIn.nil, (fun i hi => by omega), Own.nil _ _ _ _, Own.nil _ _ _ _, (fun g e => by simp [Value.ownBlock] at e), Below.refl _ _⟩
      case round =>
        obtain ⟨j, q1, q2, P, A, rfl, rfl, rfl, hj, hP, hA, hPl, hAl, hPB, hAB, hsm, hTw⟩ := hrel
        have hzr := hTw.bel.size
        have KP := Kept.mk hP
        have KAA := Kept.mk hA
        have KPB := Kept.mk hPB
        have KAB := Kept.mk hAB
        have KSM := Kept.mk hsm
        have KTW := Kept.mk hTw
        clear hP hA hPB hAB hsm hTw
        by_cases hlt : j < rows.length
        · have hlti : (j : Int) < (rows.length : Int) := by omega
          obtain ⟨va, hcell, hrd, hxB⟩ := KC.out j hlt
          have KBw : Kept (Below w.heap.size w wr) := ⟨KB1.out.trans (KTW.out.bel.mono hz1)⟩
          have hcj : wr.cell? ⟨b, off + j, none⟩ = some va := by rw [KBw.out.cell (p := ⟨b, off + j, none⟩) hbl]; exact hcell
          have hdr : rows.drop j = rows.getD j [] :: rows.drop (j + 1) := by
            rw [List.drop_eq_getElem_cons hlt]
            simp [List.getD, List.getElem?_eq_getElem hlt]
          have KDR := Kept.mk hdr
          have KX := Kept.mk hrd
          have KXB := Kept.mk hxB
          obtain ⟨x, hx⟩ : ∃ x, rows.getD j [] = x := ⟨_, rfl⟩
          rw [hx] at KDR KX KXB
          have KGX := Kept.mk hx
          obtain ⟨xa, xc, rfl, -, -, -⟩ := KX.out.form
          clear hcell hrd hxB hdr hx
          by_cases hbig : (1000 : Int) < (x.length : Int)
          · go_wp2
            go_ret
            exact ⟨rfl, KBw.out⟩
          · by_cases hl : j + 1 = rows.length
            · have hli : (rows.length : Int) - 1 = (j : Int) := by omega
              have hxa := xor_u8 ((x.length : Int) % 256) (by omega) (by omega)
              have hxb := xor_u8 ((x.length : Int) / 256) (by omega) (by omega)
              have hxc : bits .xor .u8 (if IntKind.u8.signed = true then -1 else IntKind.u8.max) ((x.length : Int) % 256) = 255 - (x.length : Int) % 256 := hxa
              have hxd : bits .xor .u8 (if IntKind.u8.signed = true then -1 else IntKind.u8.max) ((x.length : Int) / 256) = 255 - (x.length : Int) / 256 := hxb
              have hxl : x.length ≤ 1000 := by omega
              have hr20 : rows.length ≤ 20 := by have := K20.out; omega
              have hrd := Kept.mk (Rd.lit .u8 wr [1, (x.length : Int) % 256, (x.length : Int) / 256, 255 - (x.length : Int) % 256, 255 - (x.length : Int) / 256] 5 (by simp))
              have how := Kept.mk (KTW.out.o1.alloc (.cells (cellsK .u8 [1, (x.length : Int) % 256, (x.length : Int) / 256, 255 - (x.length : Int) % 256, 255 - (x.length : Int) / 256]).toArray 5))
              go_wp2_with (first
                | (at_builtin; refine wpList_append_rd _ rfl _ _ 22 rfl .u8 (fun g => g = wr.heap.size) 1 w1.heap.size 5 i0 z0 Tryd.underlying22 hi hz hs hb hc (by omega) q1 P rfl how.out _ [1, (x.length : Int) % 256, (x.length : Int) / 256, 255 - (x.length : Int) % 256, 255 - (x.length : Int) / 256] rfl hrd.out (by simp; omega) (by simp; omega) ?_; intro v1 w2 hown hgrow hat; have KTW1 := Kept.mk (KTW.out.app1 ((Below.refl _ wr).alloc (Nat.le_refl _) _) hgrow hown hat); have hz2 := KTW1.out.bel.size; clear hown hgrow hat)
                | (at_builtin; refine wpList_append_rd _ rfl _ _ 22 rfl .u8 anyB 1 w1.heap.size 5 i0 z0 Tryd.underlying22 hi hz hs hb hc (by omega) v1 (P ++ [1, (x.length : Int) % 256, (x.length : Int) / 256, 255 - (x.length : Int) % 256, 255 - (x.length : Int) / 256]) rfl KTW1.out.o1 _ x rfl (KX.out.later (KB1.out.trans (KTW1.out.bel.mono hz1)) (Nat.le_refl _)) (by simp; omega) hz2 ?_; intro v2 w3 hown hgrow hat; have KTW2 := Kept.mk (KTW1.out.app1 (Below.refl _ _) hgrow hown hat); have hz3 := KTW2.out.bel.size; clear hown hgrow hat)
                | (at_builtin; refine wpList_append_rd _ rfl _ _ 22 rfl .u8 anyB 1 w1.heap.size 5 i0 z0 Tryd.underlying22 hi hz hs hb hc (by omega) q2 A rfl KTW2.out.o2 _ x rfl (KX.out.later (KB1.out.trans (KTW2.out.bel.mono hz1)) (Nat.le_refl _)) (by omega) hz3 ?_; intro v3 w4 hown hgrow hat; have KTW3 := Kept.mk (KTW2.out.app2 (Below.refl _ _) hgrow hown hat); clear hown hgrow hat))
              go_roundw
              case rel =>
                have hbk : [1, (x.length : Int) % 256, (x.length : Int) / 256, 255 - (x.length : Int) % 256, 255 - (x.length : Int) / 256] ++ x = blkF 1 x := by
                  unfold blkF
                  rw [show (x.length : Int) / 256 % 256 = (x.length : Int) / 256 from by omega]
                refine ⟨j + 1, v2, v3, P ++ [1, (x.length : Int) % 256, (x.length : Int) / 256, 255 - (x.length : Int) % 256, 255 - (x.length : Int) / 256] ++ x, A ++ x, rfl, rfl, by go_num, by omega, ?_, ?_, by simp; omega, by simp; omega, ?_, KAB.out.append KXB.out, ?_, KTW3.out⟩
                · rw [List.append_assoc P _ x, hbk, List.append_assoc, ← KP.out, KDR.out, encF_cons, if_pos (List.drop_of_length_le (by omega))]
                · rw [List.append_assoc, ← KAA.out, KDR.out]
                  rfl
                · rw [List.append_assoc, hbk]
                  exact KPB.out.append (blkF_all 1 x (by omega) KXB.out)
                · intro i hi2
                  rcases Nat.lt_or_ge i j with hij | hij
                  · exact KSM.out i hij
                  · obtain rfl : i = j := by omega
                    rw [KGX.out]
                    omega
              case measure => simp [intOf]; omega
            · have hli : ¬ (j : Int) = (rows.length : Int) - 1 := by omega
              have hlb : ((j : Int) == (rows.length : Int) - 1) = false := beq_eq_false_iff_ne.2 hli
              have hxa := xor_u8 ((x.length : Int) % 256) (by omega) (by omega)
              have hxb := xor_u8 ((x.length : Int) / 256) (by omega) (by omega)
              have hxc : bits .xor .u8 (if IntKind.u8.signed = true then -1 else IntKind.u8.max) ((x.length : Int) % 256) = 255 - (x.length : Int) % 256 := hxa
              have hxd : bits .xor .u8 (if IntKind.u8.signed = true then -1 else IntKind.u8.max) ((x.length : Int) / 256) = 255 - (x.length : Int) / 256 := hxb
              have hxl : x.length ≤ 1000 := by omega
              have hr20 : rows.length ≤ 20 := by have := K20.out; omega
              have hrd := Kept.mk (Rd.lit .u8 wr [0, (x.length : Int) % 256, (x.length : Int) / 256, 255 - (x.length : Int) % 256, 255 - (x.length : Int) / 256] 5 (by simp))
              have how := Kept.mk (KTW.out.o1.alloc (.cells (cellsK .u8 [0, (x.length : Int) % 256, (x.length : Int) / 256, 255 - (x.length : Int) % 256, 255 - (x.length : Int) / 256]).toArray 5))
              go_wp2_with (first
                | (at_builtin; refine wpList_append_rd _ rfl _ _ 22 rfl .u8 (fun g => g = wr.heap.size) 1 w1.heap.size 5 i0 z0 Tryd.underlying22 hi hz hs hb hc (by omega) q1 P rfl how.out _ [0, (x.length : Int) % 256, (x.length : Int) / 256, 255 - (x.length : Int) % 256, 255 - (x.length : Int) / 256] rfl hrd.out (by simp; omega) (by simp; omega) ?_; intro v1 w2 hown hgrow hat; have KTW1 := Kept.mk (KTW.out.app1 ((Below.refl _ wr).alloc (Nat.le_refl _) _) hgrow hown hat); have hz2 := KTW1.out.bel.size; clear hown hgrow hat)
                | (at_builtin; refine wpList_append_rd _ rfl _ _ 22 rfl .u8 anyB 1 w1.heap.size 5 i0 z0 Tryd.underlying22 hi hz hs hb hc (by omega) v1 (P ++ [0, (x.length : Int) % 256, (x.length : Int) / 256, 255 - (x.length : Int) % 256, 255 - (x.length : Int) / 256]) rfl KTW1.out.o1 _ x rfl (KX.out.later (KB1.out.trans (KTW1.out.bel.mono hz1)) (Nat.le_refl _)) (by simp; omega) hz2 ?_; intro v2 w3 hown hgrow hat; have KTW2 := Kept.mk (KTW1.out.app1 (Below.refl _ _) hgrow hown hat); have hz3 := KTW2.out.bel.size; clear hown hgrow hat)
                | (at_builtin; refine wpList_append_rd _ rfl _ _ 22 rfl .u8 anyB 1 w1.heap.size 5 i0 z0 Tryd.underlying22 hi hz hs hb hc (by omega) q2 A rfl KTW2.out.o2 _ x rfl (KX.out.later (KB1.out.trans (KTW2.out.bel.mono hz1)) (Nat.le_refl _)) (by omega) hz3 ?_; intro v3 w4 hown hgrow hat; have KTW3 := Kept.mk (KTW2.out.app2 (Below.refl _ _) hgrow hown hat); clear hown hgrow hat))
              go_roundw
              case rel =>
                have hbk : [0, (x.length : Int) % 256, (x.length : Int) / 256, 255 - (x.length : Int) % 256, 255 - (x.length : Int) / 256] ++ x = blkF 0 x := by
                  unfold blkF
                  rw [show (x.length : Int) / 256 % 256 = (x.length : Int) / 256 from by omega]
                refine ⟨j + 1, v2, v3, P ++ [0, (x.length : Int) % 256, (x.length : Int) / 256, 255 - (x.length : Int) % 256, 255 - (x.length : Int) / 256] ++ x, A ++ x, rfl, rfl, by go_num, by omega, ?_, ?_, by simp; omega, by simp; omega, ?_, KAB.out.append KXB.out, ?_, KTW3.out⟩
                · rw [List.append_assoc P _ x, hbk, List.append_assoc, ← KP.out, KDR.out, encF_cons, if_neg (fun e => by have := congrArg List.length e; simp at this; omega)]
                · rw [List.append_assoc, ← KAA.out, KDR.out]
                  rfl
                · rw [List.append_assoc, hbk]
                  exact KPB.out.append (blkF_all 0 x (by omega) KXB.out)
                · intro i hi2
                  rcases Nat.lt_or_ge i j with hij | hij
                  · exact KSM.out i hij
                  · obtain rfl : i = j := by omega
                    rw [KGX.out]
                    omega
              case measure => simp [intOf]; omega
        · obtain rfl : j = rows.length := by omega
          have hr20 : rows.length ≤ 20 := by have := K20.out; omega
          have hPe : P = encF rows := by
            have := KP.out
            rwa [List.drop_length, encF, List.append_nil] at this
          have hAe : A = rows.flatten := by
            have := KAA.out
            rwa [List.drop_length, List.flatten_nil, List.append_nil] at this
          have KQ := Kept.mk (infl_stored (M := 20000) (hPe ▸ KPB.out) KNE.out (fun y hy => by obtain ⟨i, hi2, rfl⟩ := List.mem_iff_getElem.1 hy; have := KSM.out i hi2; simp [List.getD, List.getElem?_eq_getElem hi2] at this; omega) (by rw [← hAe]; omega) (by have := encF_len rows; omega))
          rw [← hPe, ← hAe] at KQ
          obtain ⟨pa, pc, rfl, -, -, -⟩ := KTW.out.o1.rd.form
          have KI := Kept.mk (inflate_any _ P 20000 wr (KT.out.far (KB1.out.trans (KTW.out.bel.mono hz1))) KTW.out.o1.rd KPB.out (by omega) (by omega))
          rw [KQ.out] at KI
          simp only [AfterI, show (8 * P.length + 7) / 8 = P.length from by omega] at KI
          clear hPe hAe
          go_wp2_with fail
          refine Calls.mono KI.out (fun e w5 hp => ?_)
          obtain ⟨v5, rfl, ho5, -, -, hb5⟩ := hp
          have KS := Kept.mk (same_any _ _ A A w5 ho5.rd (KTW.out.o2.later hb5 (Nat.le_refl _)).rd KAB.out KAB.out)
          rw [show decide (A = A) = true from decide_eq_true rfl] at KS
          have KB5 : Kept (Below w.heap.size w w5) := ⟨(KB1.out.trans (KTW.out.bel.mono hz1)).trans (hb5.mono (by omega))⟩
          clear ho5 hb5
          go_wp2_with fail
          refine Calls.mono KS.out (fun e w6 hp => ?_)
          obtain ⟨rfl, hw6⟩ := hp
          subst hw6
          go_wp2
          go_ret
          exact ⟨rfl, KB5.out⟩
end Go.Proofs.YtibopgdaechfpaaDoor
