/-
  The walk of DeflateBack.
-/
import Derived.Test.YtjijkcmbbccfmaaDoorRT
import Derived.Test.YtjijkcmbbccfmaaDoorI2
import Derived.Test.YtjijkcmbbccfmaaDoorD18
import Derived.Test.YtjijkcmbbccfmaaDoorF37
namespace Go.Proofs.YtjijkcmbbccfmaaDoor
open Go.RowKit

/-- Where the law asks nothing. -/
def outB (p more : List Int) (way : Int) : Prop := 5000 < p.length ∨ 100 < more.length ∨ way < 0 ∨ 2 < way

set_option maxHeartbeats 4000000 in
set_option maxRecDepth 100000 in
theorem back_out (v u : Value) (p more : List Int) (way : Int) (w : World) (h : Rd .u8 anyB w v p) (k : Rd .u8 anyB w u more) (ho : outB p more way) :
    Calls Tryd.prog 3 #[v, u, .int .i64 way] w fun e w' => e = .returned (.bool true) ∧ Below w.heap.size w w' := by
  have KW := Kept.mk (awake4_any w)
  obtain ⟨va, vc, rfl, -, -, -⟩ := h.form
  obtain ⟨ua, uc, rfl, -, -, -⟩ := k.form
  clear h k
  by_cases h1 : 5000 < p.length
  · have h1p : (5000 : Int) < (p.length : Int) := by omega
    clear ho
    go_enter Tryd.func3, Tryd.ntmps3
    go_wp2_with fail
    refine Calls.mono KW.out (fun e w1 hp => ?_)
    obtain ⟨rfl, hb1⟩ := hp
    have KB1 := Kept.mk hb1
    clear hb1
    go_wp2
    go_ret
    exact ⟨rfl, KB1.out⟩
  · have h1p : ¬ (5000 : Int) < (p.length : Int) := by omega
    by_cases h2 : 100 < more.length
    · have h2p : (100 : Int) < (more.length : Int) := by omega
      clear ho
      go_enter Tryd.func3, Tryd.ntmps3
      go_wp2_with fail
      refine Calls.mono KW.out (fun e w1 hp => ?_)
      obtain ⟨rfl, hb1⟩ := hp
      have KB1 := Kept.mk hb1
      clear hb1
      go_wp2
      go_ret
      exact ⟨rfl, KB1.out⟩
    · have h2p : ¬ (100 : Int) < (more.length : Int) := by omega
      by_cases h3 : way < 0
      · clear ho
        go_enter Tryd.func3, Tryd.ntmps3
        go_wp2_with fail
        refine Calls.mono KW.out (fun e w1 hp => ?_)
        obtain ⟨rfl, hb1⟩ := hp
        have KB1 := Kept.mk hb1
        clear hb1
        go_wp2
        go_ret
        exact ⟨rfl, KB1.out⟩
      · have h4 : 2 < way := by
          unfold outB at ho
          omega
        clear ho
        go_enter Tryd.func3, Tryd.ntmps3
        go_wp2_with fail
        refine Calls.mono KW.out (fun e w1 hp => ?_)
        obtain ⟨rfl, hb1⟩ := hp
        have KB1 := Kept.mk hb1
        clear hb1
        go_wp2
        go_ret
        exact ⟨rfl, KB1.out⟩

set_option maxHeartbeats 4000000 in
set_option maxRecDepth 100000 in
theorem back_walk (v u : Value) (p more : List Int) (way : Int) (w : World) (hT : Tab w) (h : Rd .u8 anyB w v p) (k : Rd .u8 anyB w u more) (ha : AllB p) (hm : AllB more) :
    Calls Tryd.prog 3 #[v, u, .int .i64 way] w fun e w' => e = .returned (.bool true) ∧ Below w.heap.size w w' := by
  by_cases ho : outB p more way
  · exact back_out v u p more way w h k ho
  · unfold outB at ho
    have hpl : p.length ≤ 5000 := by omega
    have hml : more.length ≤ 100 := by omega
    have hw0 : ¬ way < 0 := by omega
    have hw2 : ¬ 2 < way := by omega
    clear ho
    have KW := Kept.mk (awake4_any w)
    obtain ⟨i0, z0, hi, hz, hs, hb0, hc⟩ := info8
    obtain ⟨va, vc, rfl, -, -, -⟩ := h.form
    obtain ⟨ua, uc, rfl, -, -, -⟩ := k.form
    have KH := Kept.mk h
    have KK := Kept.mk k
    have KA := Kept.mk (And.intro ha hm)
    have KT := Kept.mk hT
    have hok := dflF_ok (p := p) (way := way) (by omega) (by omega) (by omega)
    have KD : Kept (∀ v2 w2, Rd .u8 anyB w2 v2 p → Calls Tryd.prog 9 #[v2, .int .i64 way] w2 fun e w' => ∃ v', e = .returned (.tuple #[v', .int .i64 0]) ∧ Own .u8 5 w' w2.heap.size v' (dfF p way) ∧ Below w2.heap.size w2 w') := ⟨fun v2 w2 h2 => by
      have d := deflate_any v2 p way w2 h2 ha
      rw [hok] at d
      exact d⟩
    obtain ⟨t, ht, htl⟩ := infl_df (most := p.length) way ha hm (Nat.le_refl _)
    have hSl := dfF_length (p := p) (by omega) way
    have KSa := Kept.mk (dfF_all ha way)
    have KI := Kept.mk ht
    have hti : (((t + 7) / 8 : Nat) : Int) = ((dfF p way).length : Int) := by omega
    have KE := Kept.mk htl
    clear h k ha hm hT hok ht htl
    generalize dfF p way = D at *
    have h1p : ¬ (5000 : Int) < (p.length : Int) := by omega
    have h2p : ¬ (100 : Int) < (more.length : Int) := by omega
    go_enter Tryd.func3, Tryd.ntmps3
    go_wp2_with fail
    refine Calls.mono KW.out (fun e w1 hp => ?_)
    obtain ⟨rfl, hb1⟩ := hp
    have K2 := Kept.mk (twin_any _ p w1 (KH.out.later hb1 (Nat.le_refl _)) (by omega))
    have KB1 := Kept.mk hb1
    clear hb1
    go_wp2_with fail
    refine Calls.mono K2.out (fun e w2 hp => ?_)
    obtain ⟨v2, rfl, ho2, hb2⟩ := hp
    have KB2 := Kept.mk (KB1.out.trans (hb2.mono KB1.out.size))
    have K3 := Kept.mk (KD.out _ w2 ho2.rd.any)
    clear hb2 ho2 K2
    go_wp2_with fail
    refine Calls.mono K3.out (fun e w3 hp => ?_)
    obtain ⟨v3, rfl, ho3, hb3⟩ := hp
    have KB3 := Kept.mk (KB2.out.trans (hb3.mono KB2.out.size))
    obtain ⟨a3, c3, rfl, -, -, -⟩ := ho3.rd.form
    have K2 := Kept.mk (twin_any _ D w3 ho3.rd (by omega))
    clear hb3 ho3 K3 KD
    go_wp2_with fail
    refine Calls.mono K2.out (fun e w4 hp => ?_)
    obtain ⟨v4, rfl, ho4, hb4⟩ := hp
    have KB4 := Kept.mk (KB3.out.trans (hb4.mono KB3.out.size))
    have KO4 := Kept.mk ho4
    have KR4 := Kept.mk (KK.out.later KB4.out (Nat.le_refl _))
    have hz4 := hb4.size
    clear hb4 ho4 K2
    go_wp2_with (at_builtin; refine wpList_append_rd _ rfl _ _ 22 rfl .u8 anyB 1 w3.heap.size 5 i0 z0 Tryd.underlying22 hi hz hs hb0 hc (by omega) _ D rfl KO4.out _ more rfl KR4.out (by omega) hz4 ?_; intro v5 w5 o5 g5 hat5; have KB5 := Kept.mk (KB4.out.grown g5 (by have := KB3.out.size; omega) (fun q hq => by have := own_ge KO4.out q hq; have := KB3.out.size; omega)); have KO5 := Kept.mk o5; have K2 := Kept.mk (twin_any _ (D ++ more) w5 o5.rd (by rw [List.length_append]; omega)); clear o5 g5 hat5)
    refine Calls.mono K2.out (fun e w6 hp => ?_)
    obtain ⟨v6, rfl, ho6, hb6⟩ := hp
    have KB6 := Kept.mk (KB5.out.trans (hb6.mono KB5.out.size))
    have KO6 := Kept.mk (KO5.out.later hb6 (Nat.le_refl _))
    have K3 := inflate_any _ (D ++ more) p.length w6 (KT.out.far KB6.out) ho6.rd (KSa.out.append KA.out.2) (by rw [List.length_append]; omega) (by omega)
    rw [KI.out] at K3
    have K3 := Kept.mk K3
    clear hb6 ho6 K2 KO5
    go_wp2_with fail
    refine Calls.mono K3.out (fun e w7 hp => ?_)
    obtain ⟨v7, rfl, ho7, -, -, hb7⟩ := hp
    have KB7 := Kept.mk (KB6.out.trans (hb7.mono KB6.out.size))
    have KO7 := Kept.mk ho7
    have K4 := docInflate_any _ (D ++ more) p.length w7 (KO6.out.later hb7 (Nat.le_refl _)).rd (KSa.out.append KA.out.2) (by rw [List.length_append]; omega) (by omega)
    rw [KI.out] at K4
    have K4 := Kept.mk K4
    clear hb7 ho7 K3 KO6
    rw [hti]
    go_wp2_with fail
    refine Calls.mono K4.out (fun e w8 hp => ?_)
    obtain ⟨v8, rfl, ho8, -, -, hb8⟩ := hp
    have KB8 := Kept.mk (KB7.out.trans (hb8.mono KB7.out.size))
    have S1 := same_any _ _ p p w8 (KO7.out.later hb8 (Nat.le_refl _)).rd (KH.out.later KB8.out (Nat.le_refl _)) KA.out.1 KA.out.1
    have S2 := same_any _ _ p p w8 ho8.rd (KH.out.later KB8.out (Nat.le_refl _)) KA.out.1 KA.out.1
    rw [decide_eq_true rfl] at S1 S2
    have S1 := Kept.mk S1
    have S2 := Kept.mk S2
    clear hb8 ho8 K4 KO7
    rw [hti]
    go_wp2_with fail
    refine Calls.mono S1.out (fun e wx hp => ?_)
    obtain ⟨rfl, rfl⟩ := hp
    go_wp2_with fail
    refine Calls.mono S2.out (fun e wx hp => ?_)
    obtain ⟨rfl, rfl⟩ := hp
    go_wp2
    go_ret
    exact ⟨rfl, KB8.out⟩
end Go.Proofs.YtjijkcmbbccfmaaDoor
