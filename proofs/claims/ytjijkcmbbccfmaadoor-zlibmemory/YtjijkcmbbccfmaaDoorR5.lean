/-
  Walks: head, toldCounts, times, length, distance.
-/
import Derived.Test.YtjijkcmbbccfmaaDoorC3
import Derived.OwnWalk
namespace Go.Proofs.YtjijkcmbbccfmaaDoor
open Go.RowKit

section
variable {W0 w : World} {rb : Nat} {ob : Option Nat} {inV : Value} {p out : List Int} {most t : Nat}
theorem numF_ok {n t : Nat} {v : Int} {t' : Nat} (h : numF p n t = .ok v t') : 0 ≤ v ∧ v < 2 ^ n ∧ t' = t + n ∧ t' ≤ 8 * p.length := by
  unfold numF at h
  split at h
  · cases h
    have := valF_range p n t
    exact ⟨this.1, this.2, rfl, by omega⟩
  · cases h
theorem number_ok (n : Nat) {v : Int} {t' : Nat} (hq : numF p n t = .ok v t') (hn : n ≤ 16) (h : Rdr W0 w rb ob inV p most out t) :
    Calls Tryd.prog 68 #[.pointer (some ⟨rb, 0, none⟩), .int .i64 n] w fun e w' => e = .returned (.tuple #[.int .i64 v, .int .i64 0]) ∧ Rdr W0 w' rb ob inV p most out t' ∧ Fr rb ob w w' := by
  have := number_any n hn h
  rw [hq] at this
  exact this
theorem number_bad (n : Nat) {er : Er} (hq : numF p n t = .bad er) (hn : n ≤ 16) (h : Rdr W0 w rb ob inV p most out t) :
    Calls Tryd.prog 68 #[.pointer (some ⟨rb, 0, none⟩), .int .i64 n] w fun e w' => e = .returned (.tuple #[.int .i64 0, .int .i64 er.v]) ∧ Below W0.heap.size W0 w' ∧ Fr rb ob w w' := by
  have := number_any n hn h
  rw [hq] at this
  exact this
end

def encH (a : Int × Int) (e : Int) : Value := .tuple #[.int .i64 a.1, .int .i64 a.2, .int .i64 e]
def zeroH (e : Int) : Value := .tuple #[.int .i64 0, .int .i64 0, .int .i64 e]

set_option maxHeartbeats 1000000 in
set_option maxRecDepth 100000 in
theorem head_any {W0 w : World} {rb : Nat} {ob : Option Nat} {inV : Value} {p out : List Int} {most t : Nat} (h : Rdr W0 w rb ob inV p most out t) :
    Calls Tryd.prog 47 #[.pointer (some ⟨rb, 0, none⟩)] w fun e w' => After W0 w w' rb ob inV p most out (headF p t) e encH zeroH := by
  rcases hq : numF p 1 t with ⟨l, t1⟩ | er
  · have K1 := Kept.mk (number_ok 1 hq (by omega) h)
    rcases hq2 : numF p 2 t1 with ⟨y, t2⟩ | er2
    · have K2 : Kept (∀ w1, Rdr W0 w1 rb ob inV p most out t1 → _) := ⟨fun w1 h1 => number_ok 2 hq2 (by omega) h1⟩
      have KE : Kept (headF p t = .ok (l, y) t2) := ⟨by unfold headF; rw [hq]; dsimp only; rw [hq2]⟩
      clear h hq hq2
      go_enter Tryd.func47, Tryd.ntmps47
      go_wp2_with fail
      refine Calls.mono K1.out (fun e w1 hp => ?_)
      obtain ⟨rfl, hR, hF⟩ := hp
      have C2 := Kept.mk (K2.out w1 hR)
      have R1 := Kept.mk hR
      have F1 := Kept.mk hF
      clear hR hF
      go_wp2_with fail
      refine Calls.mono C2.out (fun e w2 hp => ?_)
      obtain ⟨rfl, hR, hF⟩ := hp
      have R2 := Kept.mk hR
      have F2 := Kept.mk hF
      clear hR hF
      go_wp2
      go_ret3
      unfold After
      rw [KE.out]
      exact ⟨rfl, R2.out, (F1.out).trans F2.out⟩
    · have K2 : Kept (∀ w1, Rdr W0 w1 rb ob inV p most out t1 → _) := ⟨fun w1 h1 => number_bad 2 hq2 (by omega) h1⟩
      have KE : Kept (headF p t = .bad er2) := ⟨by unfold headF; rw [hq]; dsimp only; rw [hq2]⟩
      have her := er2.rng
      have hne : ¬ er2.v = 0 := by omega
      clear h hq hq2
      go_enter Tryd.func47, Tryd.ntmps47
      go_wp2_with fail
      refine Calls.mono K1.out (fun e w1 hp => ?_)
      obtain ⟨rfl, hR, hF⟩ := hp
      have C2 := Kept.mk (K2.out w1 hR)
      have R1 := Kept.mk hR
      have F1 := Kept.mk hF
      clear hR hF
      go_wp2_with fail
      refine Calls.mono C2.out (fun e w2 hp => ?_)
      obtain ⟨rfl, hR, hF⟩ := hp
      have R2 := Kept.mk hR
      have F2 := Kept.mk hF
      clear hR hF
      go_wp2
      go_ret3
      unfold After
      rw [KE.out]
      exact ⟨rfl, R2.out, (F1.out).trans F2.out⟩
  · have K1 := Kept.mk (number_bad 1 hq (by omega) h)
    have KE : Kept (headF p t = .bad er) := ⟨by unfold headF; rw [hq]⟩
    have her := er.rng
    have hne : ¬ er.v = 0 := by omega
    clear h hq
    go_enter Tryd.func47, Tryd.ntmps47
    go_wp2_with fail
    refine Calls.mono K1.out (fun e w1 hp => ?_)
    obtain ⟨rfl, hR, hF⟩ := hp
    have R1 := Kept.mk hR
    have F1 := Kept.mk hF
    clear hR hF
    go_wp2
    go_ret3
    unfold After
    rw [KE.out]
    exact ⟨rfl, R1.out, F1.out⟩

set_option maxHeartbeats 1000000 in
set_option maxRecDepth 100000 in
theorem times_any {W0 w : World} {rb : Nat} {ob : Option Nat} {inV : Value} {p out : List Int} {most t : Nat} (s : Int) (hs0 : 16 ≤ s) (hs1 : s ≤ 18) (h : Rdr W0 w rb ob inV p most out t) :
    Calls Tryd.prog 87 #[.pointer (some ⟨rb, 0, none⟩), .int .i64 s] w fun e w' => After W0 w w' rb ob inV p most out (timesF p s t) e encI zeroI := by
  rcases (by omega : s = 16 ∨ s = 17 ∨ s = 18) with rfl | rfl | rfl
  · rcases hq : numF p 2 t with ⟨l, t1⟩ | er
    · have K1 := Kept.mk (number_ok 2 hq (by omega) h)
      obtain ⟨l0, l1, -, -⟩ := numF_ok hq
      have KE : Kept (timesF p 16 t = .ok (3 + l) t1) := ⟨by simp only [timesF, Int.reduceEq, if_false, hq]⟩
      simp only [Int.reducePow] at l1
      clear h hq
      go_enter Tryd.func87, Tryd.ntmps87
      go_wp2_with fail
      refine Calls.mono K1.out (fun e w1 hp => ?_)
      obtain ⟨rfl, hR, hF⟩ := hp
      have R1 := Kept.mk hR
      have F1 := Kept.mk hF
      clear hR hF
      go_wp2
      go_ret2
      unfold After
      rw [KE.out]
      exact ⟨rfl, R1.out, F1.out⟩
    · have K1 := Kept.mk (number_bad 2 hq (by omega) h)
      have KE : Kept (timesF p 16 t = .bad er) := ⟨by simp only [timesF, Int.reduceEq, if_false, hq]⟩
      have her := er.rng
      have hne : ¬ er.v = 0 := by omega
      clear h hq
      go_enter Tryd.func87, Tryd.ntmps87
      go_wp2_with fail
      refine Calls.mono K1.out (fun e w1 hp => ?_)
      obtain ⟨rfl, hR, hF⟩ := hp
      have R1 := Kept.mk hR
      have F1 := Kept.mk hF
      clear hR hF
      go_wp2
      go_ret2
      unfold After
      rw [KE.out]
      exact ⟨rfl, R1.out, F1.out⟩
  · rcases hq : numF p 3 t with ⟨l, t1⟩ | er
    · have K1 := Kept.mk (number_ok 3 hq (by omega) h)
      obtain ⟨l0, l1, -, -⟩ := numF_ok hq
      have KE : Kept (timesF p 17 t = .ok (3 + l) t1) := ⟨by simp only [timesF, Int.reduceEq, if_false, if_true, hq]⟩
      simp only [Int.reducePow] at l1
      clear h hq
      go_enter Tryd.func87, Tryd.ntmps87
      go_wp2_with fail
      refine Calls.mono K1.out (fun e w1 hp => ?_)
      obtain ⟨rfl, hR, hF⟩ := hp
      have R1 := Kept.mk hR
      have F1 := Kept.mk hF
      clear hR hF
      go_wp2
      go_ret2
      unfold After
      rw [KE.out]
      exact ⟨rfl, R1.out, F1.out⟩
    · have K1 := Kept.mk (number_bad 3 hq (by omega) h)
      have KE : Kept (timesF p 17 t = .bad er) := ⟨by simp only [timesF, Int.reduceEq, if_false, if_true, hq]⟩
      have her := er.rng
      have hne : ¬ er.v = 0 := by omega
      clear h hq
      go_enter Tryd.func87, Tryd.ntmps87
      go_wp2_with fail
      refine Calls.mono K1.out (fun e w1 hp => ?_)
      obtain ⟨rfl, hR, hF⟩ := hp
      have R1 := Kept.mk hR
      have F1 := Kept.mk hF
      clear hR hF
      go_wp2
      go_ret2
      unfold After
      rw [KE.out]
      exact ⟨rfl, R1.out, F1.out⟩
  · rcases hq : numF p 7 t with ⟨l, t1⟩ | er
    · have K1 := Kept.mk (number_ok 7 hq (by omega) h)
      obtain ⟨l0, l1, -, -⟩ := numF_ok hq
      have KE : Kept (timesF p 18 t = .ok (11 + l) t1) := ⟨by simp only [timesF, Int.reduceEq, if_false, if_true, hq]⟩
      simp only [Int.reducePow] at l1
      clear h hq
      go_enter Tryd.func87, Tryd.ntmps87
      go_wp2_with fail
      refine Calls.mono K1.out (fun e w1 hp => ?_)
      obtain ⟨rfl, hR, hF⟩ := hp
      have R1 := Kept.mk hR
      have F1 := Kept.mk hF
      clear hR hF
      go_wp2
      go_ret2
      unfold After
      rw [KE.out]
      exact ⟨rfl, R1.out, F1.out⟩
    · have K1 := Kept.mk (number_bad 7 hq (by omega) h)
      have KE : Kept (timesF p 18 t = .bad er) := ⟨by simp only [timesF, Int.reduceEq, if_false, if_true, hq]⟩
      have her := er.rng
      have hne : ¬ er.v = 0 := by omega
      clear h hq
      go_enter Tryd.func87, Tryd.ntmps87
      go_wp2_with fail
      refine Calls.mono K1.out (fun e w1 hp => ?_)
      obtain ⟨rfl, hR, hF⟩ := hp
      have R1 := Kept.mk hR
      have F1 := Kept.mk hF
      clear hR hF
      go_wp2
      go_ret2
      unfold After
      rw [KE.out]
      exact ⟨rfl, R1.out, F1.out⟩

def encC (a : Int × Int × Int) (e : Int) : Value := .tuple #[.int .i64 a.1, .int .i64 a.2.1, .int .i64 a.2.2, .int .i64 e]
def zeroC (e : Int) : Value := .tuple #[.int .i64 0, .int .i64 0, .int .i64 0, .int .i64 e]
theorem results_tmp4 {fn : Func} {t u v x : Tmp} (h : fn.results = #[.tmp t, .tmp u, .tmp v, .tmp x]) (tmps : Array Value) (P : Program) (w : World) :
    (results fn tmps).run P w = .ok (.tuple #[tmps.getD t undef, tmps.getD u undef, tmps.getD v undef, tmps.getD x undef]) w := by
  simp [results, h]

set_option maxHeartbeats 1000000 in
set_option maxRecDepth 100000 in
theorem toldCounts_any {W0 w : World} {rb : Nat} {ob : Option Nat} {inV : Value} {p out : List Int} {most t : Nat} (h : Rdr W0 w rb ob inV p most out t) :
    Calls Tryd.prog 69 #[.pointer (some ⟨rb, 0, none⟩)] w fun e w' => After W0 w w' rb ob inV p most out (countsF p t) e encC zeroC := by
  rcases hq : numF p 5 t with ⟨a, t1⟩ | er
  · have K1 := Kept.mk (number_ok 5 hq (by omega) h)
    obtain ⟨a0, a1, -, -⟩ := numF_ok hq
    simp only [Int.reducePow] at a1
    rcases hq2 : numF p 5 t1 with ⟨b, t2⟩ | er2
    · have K2 : Kept (∀ w1, Rdr W0 w1 rb ob inV p most out t1 → _) := ⟨fun w1 h1 => number_ok 5 hq2 (by omega) h1⟩
      obtain ⟨b0, b1, -, -⟩ := numF_ok hq2
      simp only [Int.reducePow] at b1
      rcases hq3 : numF p 4 t2 with ⟨c, t3⟩ | er3
      · have K3 : Kept (∀ w1, Rdr W0 w1 rb ob inV p most out t2 → _) := ⟨fun w1 h1 => number_ok 4 hq3 (by omega) h1⟩
        by_cases ha : 29 < a
        · have KE : Kept (countsF p t = .bad .form) := ⟨by simp only [countsF, hq, hq2, hq3]; rw [if_pos (Or.inl ha)]⟩
          clear h hq hq2 hq3
          go_enter Tryd.func69, Tryd.ntmps69
          go_wp2_with fail
          refine Calls.mono K1.out (fun e w1 hp => ?_)
          obtain ⟨rfl, hR, hF⟩ := hp
          have C2 := Kept.mk (K2.out w1 hR)
          have R1 := Kept.mk hR
          have F1 := Kept.mk hF
          clear hR hF
          go_wp2_with fail
          refine Calls.mono C2.out (fun e w2 hp => ?_)
          obtain ⟨rfl, hR, hF⟩ := hp
          have C3 := Kept.mk (K3.out w2 hR)
          have R2 := Kept.mk hR
          have F2 := Kept.mk hF
          clear hR hF
          go_wp2_with fail
          refine Calls.mono C3.out (fun e w3 hp => ?_)
          obtain ⟨rfl, hR, hF⟩ := hp
          have R3 := Kept.mk hR
          have F3 := Kept.mk hF
          clear hR hF
          go_wp2
          (try simp only [Exit.inBlock, Exit.then]); refine bodyPost_ret (results_tmp4 rfl _ _ _) rfl ?_
          unfold After
          rw [KE.out]
          exact ⟨rfl, R3.out.bel, ((F1.out).trans F2.out).trans F3.out⟩
        · by_cases hb : 29 < b
          · have KE : Kept (countsF p t = .bad .form) := ⟨by simp only [countsF, hq, hq2, hq3]; rw [if_pos (Or.inr hb)]⟩
            clear h hq hq2 hq3
            go_enter Tryd.func69, Tryd.ntmps69
            go_wp2_with fail
            refine Calls.mono K1.out (fun e w1 hp => ?_)
            obtain ⟨rfl, hR, hF⟩ := hp
            have C2 := Kept.mk (K2.out w1 hR)
            have R1 := Kept.mk hR
            have F1 := Kept.mk hF
            clear hR hF
            go_wp2_with fail
            refine Calls.mono C2.out (fun e w2 hp => ?_)
            obtain ⟨rfl, hR, hF⟩ := hp
            have C3 := Kept.mk (K3.out w2 hR)
            have R2 := Kept.mk hR
            have F2 := Kept.mk hF
            clear hR hF
            go_wp2_with fail
            refine Calls.mono C3.out (fun e w3 hp => ?_)
            obtain ⟨rfl, hR, hF⟩ := hp
            have R3 := Kept.mk hR
            have F3 := Kept.mk hF
            clear hR hF
            go_wp2
            (try simp only [Exit.inBlock, Exit.then]); refine bodyPost_ret (results_tmp4 rfl _ _ _) rfl ?_
            unfold After
            rw [KE.out]
            exact ⟨rfl, R3.out.bel, ((F1.out).trans F2.out).trans F3.out⟩
          · have KE : Kept (countsF p t = .ok (a, b, c) t3) := ⟨by simp only [countsF, hq, hq2, hq3]; rw [if_neg (by omega)]⟩
            clear h hq hq2 hq3
            go_enter Tryd.func69, Tryd.ntmps69
            go_wp2_with fail
            refine Calls.mono K1.out (fun e w1 hp => ?_)
            obtain ⟨rfl, hR, hF⟩ := hp
            have C2 := Kept.mk (K2.out w1 hR)
            have R1 := Kept.mk hR
            have F1 := Kept.mk hF
            clear hR hF
            go_wp2_with fail
            refine Calls.mono C2.out (fun e w2 hp => ?_)
            obtain ⟨rfl, hR, hF⟩ := hp
            have C3 := Kept.mk (K3.out w2 hR)
            have R2 := Kept.mk hR
            have F2 := Kept.mk hF
            clear hR hF
            go_wp2_with fail
            refine Calls.mono C3.out (fun e w3 hp => ?_)
            obtain ⟨rfl, hR, hF⟩ := hp
            have R3 := Kept.mk hR
            have F3 := Kept.mk hF
            clear hR hF
            go_wp2
            (try simp only [Exit.inBlock, Exit.then]); refine bodyPost_ret (results_tmp4 rfl _ _ _) rfl ?_
            unfold After
            rw [KE.out]
            exact ⟨rfl, R3.out, ((F1.out).trans F2.out).trans F3.out⟩
      · have K3 : Kept (∀ w1, Rdr W0 w1 rb ob inV p most out t2 → _) := ⟨fun w1 h1 => number_bad 4 hq3 (by omega) h1⟩
        have KE : Kept (countsF p t = .bad er3) := ⟨by simp only [countsF, hq, hq2, hq3]⟩
        have her := er3.rng
        have hne : ¬ er3.v = 0 := by omega
        clear h hq hq2 hq3
        go_enter Tryd.func69, Tryd.ntmps69
        go_wp2_with fail
        refine Calls.mono K1.out (fun e w1 hp => ?_)
        obtain ⟨rfl, hR, hF⟩ := hp
        have C2 := Kept.mk (K2.out w1 hR)
        have R1 := Kept.mk hR
        have F1 := Kept.mk hF
        clear hR hF
        go_wp2_with fail
        refine Calls.mono C2.out (fun e w2 hp => ?_)
        obtain ⟨rfl, hR, hF⟩ := hp
        have C3 := Kept.mk (K3.out w2 hR)
        have R2 := Kept.mk hR
        have F2 := Kept.mk hF
        clear hR hF
        go_wp2_with fail
        refine Calls.mono C3.out (fun e w3 hp => ?_)
        obtain ⟨rfl, hR, hF⟩ := hp
        have R3 := Kept.mk hR
        have F3 := Kept.mk hF
        clear hR hF
        go_wp2
        (try simp only [Exit.inBlock, Exit.then]); refine bodyPost_ret (results_tmp4 rfl _ _ _) rfl ?_
        unfold After
        rw [KE.out]
        exact ⟨rfl, R3.out, ((F1.out).trans F2.out).trans F3.out⟩
    · have K2 : Kept (∀ w1, Rdr W0 w1 rb ob inV p most out t1 → _) := ⟨fun w1 h1 => number_bad 5 hq2 (by omega) h1⟩
      have KE : Kept (countsF p t = .bad er2) := ⟨by simp only [countsF, hq, hq2]⟩
      have her := er2.rng
      have hne : ¬ er2.v = 0 := by omega
      clear h hq hq2
      go_enter Tryd.func69, Tryd.ntmps69
      go_wp2_with fail
      refine Calls.mono K1.out (fun e w1 hp => ?_)
      obtain ⟨rfl, hR, hF⟩ := hp
      have C2 := Kept.mk (K2.out w1 hR)
      have R1 := Kept.mk hR
      have F1 := Kept.mk hF
      clear hR hF
      go_wp2_with fail
      refine Calls.mono C2.out (fun e w2 hp => ?_)
      obtain ⟨rfl, hR, hF⟩ := hp
      have R2 := Kept.mk hR
      have F2 := Kept.mk hF
      clear hR hF
      go_wp2
      (try simp only [Exit.inBlock, Exit.then]); refine bodyPost_ret (results_tmp4 rfl _ _ _) rfl ?_
      unfold After
      rw [KE.out]
      exact ⟨rfl, R2.out, (F1.out).trans F2.out⟩
  · have K1 := Kept.mk (number_bad 5 hq (by omega) h)
    have KE : Kept (countsF p t = .bad er) := ⟨by simp only [countsF, hq]⟩
    have her := er.rng
    have hne : ¬ er.v = 0 := by omega
    clear h hq
    go_enter Tryd.func69, Tryd.ntmps69
    go_wp2_with fail
    refine Calls.mono K1.out (fun e w1 hp => ?_)
    obtain ⟨rfl, hR, hF⟩ := hp
    have R1 := Kept.mk hR
    have F1 := Kept.mk hF
    clear hR hF
    go_wp2
    (try simp only [Exit.inBlock, Exit.then]); refine bodyPost_ret (results_tmp4 rfl _ _ _) rfl ?_
    unfold After
    rw [KE.out]
    exact ⟨rfl, R1.out, F1.out⟩

set_option maxHeartbeats 1000000 in
set_option maxRecDepth 100000 in
theorem length_any {W0 w : World} {rb : Nat} {ob : Option Nat} {inV : Value} {p out : List Int} {most t : Nat} (s : Int) (hs0 : 257 ≤ s) (hs1 : s < 288) (h : Rdr W0 w rb ob inV p most out t) :
    Calls Tryd.prog 74 #[.pointer (some ⟨rb, 0, none⟩), .int .i64 s] w fun e w' => After W0 w w' rb ob inV p most out (lengthF p s t) e encI zeroI := by
  have hd : (s - 257) / 4 = (s - 257).tdiv 4 := (Int.tdiv_eq_ediv_of_nonneg (by omega)).symm
  by_cases h1 : 285 < s
  · have KE : Kept (lengthF p s t = .bad .form) := ⟨by unfold lengthF; rw [if_pos h1]⟩
    have KH := Kept.mk h
    clear h hd
    go_enter Tryd.func74, Tryd.ntmps74
    go_wp2
    go_ret2
    unfold After
    rw [KE.out]
    exact ⟨rfl, KH.out.bel, Fr.refl _ _ _⟩
  · by_cases h2 : s = 285
    · subst h2
      have KE : Kept (lengthF p 285 t = .ok 258 t) := ⟨by unfold lengthF; rw [if_neg h1, if_pos rfl]⟩
      have KH := Kept.mk h
      clear h hd
      go_enter Tryd.func74, Tryd.ntmps74
      go_wp2
      go_ret2
      unfold After
      rw [KE.out]
      exact ⟨rfl, KH.out, Fr.refl _ _ _⟩
    · by_cases h3 : s - 257 < 8
      · have KE : Kept (lengthF p s t = .ok (3 + (s - 257)) t) := ⟨by unfold lengthF; rw [if_neg h1, if_neg h2, if_pos h3]⟩
        have KH := Kept.mk h
        clear h hd
        go_enter Tryd.func74, Tryd.ntmps74
        go_wp2
        go_ret2
        unfold After
        rw [KE.out]
        exact ⟨rfl, KH.out, Fr.refl _ _ _⟩
      · obtain ⟨m, hm⟩ : ∃ m : Nat, (s - 257) / 4 - 1 = m := ⟨((s - 257) / 4 - 1).toNat, by omega⟩
        have hm5 : m ≤ 6 := by omega
        rcases hq : numF p m t with ⟨l, t1⟩ | er
        · have K1 := Kept.mk (number_ok m hq (by omega) h)
          obtain ⟨l0, l1, -, -⟩ := numF_ok hq
          have hp : (2 : Int) ^ m ≤ 64 := pow2_le (b := 6) hm5
          have hp0 : (0 : Int) < 2 ^ m := Int.pow_pos (by omega)
          have hmu : (4 + (s - 257) % 4) * 2 ^ m ≤ 7 * 64 := Int.mul_le_mul (by omega) hp (by omega) (by omega)
          have hmu0 : 0 ≤ (4 + (s - 257) % 4) * 2 ^ m := Int.mul_nonneg (by omega) (by omega)
          have KE : Kept (lengthF p s t = .ok (3 + (4 + (s - 257) % 4) * 2 ^ m + l) t1) := ⟨by unfold lengthF; rw [if_neg h1, if_neg h2, if_neg h3, hm, Int.toNat_natCast, hq]⟩
          clear h hq hd
          go_enter Tryd.func74, Tryd.ntmps74
          go_wp2_with fail
          refine Calls.mono K1.out (fun e w1 hp => ?_)
          obtain ⟨rfl, hR, hF⟩ := hp
          have R1 := Kept.mk hR
          have F1 := Kept.mk hF
          clear hR hF
          go_wp2
          go_ret2
          unfold After
          rw [KE.out]
          exact ⟨rfl, R1.out, F1.out⟩
        · have K1 := Kept.mk (number_bad m hq (by omega) h)
          have KE : Kept (lengthF p s t = .bad er) := ⟨by unfold lengthF; rw [if_neg h1, if_neg h2, if_neg h3, hm, Int.toNat_natCast, hq]⟩
          have her := er.rng
          have hne : ¬ er.v = 0 := by omega
          clear h hq hd
          go_enter Tryd.func74, Tryd.ntmps74
          go_wp2_with fail
          refine Calls.mono K1.out (fun e w1 hp => ?_)
          obtain ⟨rfl, hR, hF⟩ := hp
          have R1 := Kept.mk hR
          have F1 := Kept.mk hF
          clear hR hF
          go_wp2
          go_ret2
          unfold After
          rw [KE.out]
          exact ⟨rfl, R1.out, F1.out⟩

section
variable {W0 w : World} {rb : Nat} {ob : Option Nat} {inV : Value} {p out : List Int} {most t : Nat} {c : Cd} {n : Int} {cV : Value}
theorem symbol_ok {v : Int} {t' : Nat} (hq : symF p c t = .ok v t') (hok : CdOk c n) (hc : CdR rb ob w cV c) (h : Rdr W0 w rb ob inV p most out t) :
    Calls Tryd.prog 50 #[.pointer (some ⟨rb, 0, none⟩), cV] w fun e w' => e = .returned (.tuple #[.int .i64 v, .int .i64 0]) ∧ Rdr W0 w' rb ob inV p most out t' ∧ Fr rb ob w w' := by
  have := symbol_any hok hc h
  rw [hq] at this
  exact this
theorem symbol_bad {er : Er} (hq : symF p c t = .bad er) (hok : CdOk c n) (hc : CdR rb ob w cV c) (h : Rdr W0 w rb ob inV p most out t) :
    Calls Tryd.prog 50 #[.pointer (some ⟨rb, 0, none⟩), cV] w fun e w' => e = .returned (.tuple #[.int .i64 0, .int .i64 er.v]) ∧ Below W0.heap.size W0 w' ∧ Fr rb ob w w' := by
  have := symbol_any hok hc h
  rw [hq] at this
  exact this
theorem symGo_ok (p syms : List Int) : ∀ (cs : List Int) (past at_ : Int) (t : Nat) (v : Int) (t' : Nat), symGo p syms cs past at_ t = .ok v t' → (v = 0 ∨ v ∈ syms) ∧ t < t' ∧ t' ≤ 8 * p.length
  | [], _, _, _, _, _, h => by simp [symGo] at h
  | c :: cs, past, at_, t, v, t', h => by
    rw [symGo] at h
    rcases hq : numF p 1 t with ⟨b, t1⟩ | er
    · rw [hq] at h
      obtain ⟨-, -, h1, h2⟩ := numF_ok hq
      dsimp only at h
      split at h
      · cases h
        refine ⟨?_, by omega, h2⟩
        rcases Nat.lt_or_ge (at_ + (2 * past + b)).toNat syms.length with hl | hl
        · right
          simp only [List.getD, List.getElem?_eq_getElem hl, Option.getD_some]
          exact List.getElem_mem hl
        · left
          simp [List.getD, List.getElem?_eq_none hl]
      · have := symGo_ok p syms cs _ _ _ _ _ h
        exact ⟨this.1, by omega, this.2.2⟩
    · rw [hq] at h
      cases h
theorem symF_ok {v : Int} {t' : Nat} (hok : CdOk c n) (hn : 0 < n) (h : symF p c t = .ok v t') : 0 ≤ v ∧ v < n ∧ t < t' ∧ t' ≤ 8 * p.length := by
  obtain ⟨h1, h2, h3⟩ := symGo_ok p c.symbols _ _ _ _ _ _ h
  rcases h1 with rfl | h1
  · exact ⟨by omega, hn, h2, h3⟩
  · have := hok.sym v h1
    exact ⟨this.1, this.2, h2, h3⟩
end

set_option maxHeartbeats 1000000 in
set_option maxRecDepth 100000 in
theorem distance_any {W0 w : World} {rb : Nat} {ob : Option Nat} {inV : Value} {p out : List Int} {most t : Nat} {c : Cd} {cv sv : Value} (hok : CdOk c 32) (hc : CdR rb ob w (.agg #[cv, sv]) c) (h : Rdr W0 w rb ob inV p most out t) :
    Calls Tryd.prog 75 #[.pointer (some ⟨rb, 0, none⟩), .agg #[cv, sv]] w fun e w' => After W0 w w' rb ob inV p most out (distF p c t) e encI zeroI := by
  have hal := (Below.refl w.heap.size w).alloc (Nat.le_refl _) (.cells #[cv, sv] 69)
  have hc1 : CdR rb ob (w.alloc (.cells #[cv, sv] 69)) (.agg #[cv, sv]) c := hc.mv ((Fr.refl rb ob w).alloc _).mv
  have h1 := h.far hal
  obtain ⟨cv', sv', hcs, hcv, hsv⟩ := hc.form
  cases hcs
  obtain ⟨ca, cc, rfl, -, -, -⟩ := hcv.form
  obtain ⟨sa, sc, rfl, -, -, -⟩ := hsv.form
  clear hcv hsv
  rcases hq : symF p c t with ⟨s, t1⟩ | er
  · have K1 := Kept.mk (symbol_ok hq hok hc1 h1)
    obtain ⟨s0, s1, -, -⟩ := symF_ok hok (by omega) hq
    by_cases g1 : 29 < s
    · have KE : Kept (distF p c t = .bad .form) := ⟨by simp only [distF, hq]; rw [if_pos g1]⟩
      clear h hq h1 hc hc1 hal hok
      go_enter Tryd.func75, Tryd.ntmps75
      go_wp2_with fail
      refine Calls.mono K1.out (fun e w1 hp => ?_)
      obtain ⟨rfl, hR, hF⟩ := hp
      have R1 := Kept.mk hR
      have F1 := Kept.mk hF
      clear hR hF
      go_wp2
      go_ret2
      unfold After
      rw [KE.out]
      exact ⟨rfl, R1.out.bel, (((Fr.refl rb ob w).alloc _)).trans F1.out⟩
    · by_cases g2 : s < 4
      · have KE : Kept (distF p c t = .ok (1 + s) t1) := ⟨by simp only [distF, hq]; rw [if_neg g1, if_pos g2]⟩
        clear h hq h1 hc hc1 hal hok
        go_enter Tryd.func75, Tryd.ntmps75
        go_wp2_with fail
        refine Calls.mono K1.out (fun e w1 hp => ?_)
        obtain ⟨rfl, hR, hF⟩ := hp
        have R1 := Kept.mk hR
        have F1 := Kept.mk hF
        clear hR hF
        go_wp2
        go_ret2
        unfold After
        rw [KE.out]
        exact ⟨rfl, R1.out, ((Fr.refl rb ob w).alloc _).trans F1.out⟩
      · obtain ⟨m, hm⟩ : ∃ m : Nat, s / 2 - 1 = m := ⟨(s / 2 - 1).toNat, by omega⟩
        have hm5 : m ≤ 13 := by omega
        rcases hq2 : numF p m t1 with ⟨l, t2⟩ | er
        · have K2 : Kept (∀ w1, Rdr W0 w1 rb ob inV p most out t1 → _) := ⟨fun w1 h1 => number_ok m hq2 (by omega) h1⟩
          obtain ⟨l0, l1, -, -⟩ := numF_ok hq2
          have hp : (2 : Int) ^ m ≤ 8192 := pow2_le (b := 13) hm5
          have hp0 : (0 : Int) < 2 ^ m := Int.pow_pos (by omega)
          have hmu : (2 + s % 2) * 2 ^ m ≤ 3 * 8192 := Int.mul_le_mul (by omega) hp (by omega) (by omega)
          have hmu0 : 0 ≤ (2 + s % 2) * 2 ^ m := Int.mul_nonneg (by omega) (by omega)
          have KE : Kept (distF p c t = .ok (1 + (2 + s % 2) * 2 ^ m + l) t2) := ⟨by simp only [distF, hq]; rw [if_neg g1, if_neg g2, hm, Int.toNat_natCast, hq2]⟩
          clear h hq h1 hc hc1 hal hok hq2
          go_enter Tryd.func75, Tryd.ntmps75
          go_wp2_with fail
          refine Calls.mono K1.out (fun e w1 hp => ?_)
          obtain ⟨rfl, hR, hF⟩ := hp
          have C2 := Kept.mk (K2.out w1 hR)
          have R1 := Kept.mk hR
          have F1 := Kept.mk hF
          clear hR hF
          go_wp2_with fail
          refine Calls.mono C2.out (fun e w2 hp => ?_)
          obtain ⟨rfl, hR, hF⟩ := hp
          have R2 := Kept.mk hR
          have F2 := Kept.mk hF
          clear hR hF
          go_wp2
          go_ret2
          unfold After
          rw [KE.out]
          exact ⟨rfl, R2.out, (((Fr.refl rb ob w).alloc _).trans F1.out).trans F2.out⟩
        · have K2 : Kept (∀ w1, Rdr W0 w1 rb ob inV p most out t1 → _) := ⟨fun w1 h1 => number_bad m hq2 (by omega) h1⟩
          have KE : Kept (distF p c t = .bad er) := ⟨by simp only [distF, hq]; rw [if_neg g1, if_neg g2, hm, Int.toNat_natCast, hq2]⟩
          have her := er.rng
          have hne : ¬ er.v = 0 := by omega
          clear h hq h1 hc hc1 hal hok hq2
          go_enter Tryd.func75, Tryd.ntmps75
          go_wp2_with fail
          refine Calls.mono K1.out (fun e w1 hp => ?_)
          obtain ⟨rfl, hR, hF⟩ := hp
          have C2 := Kept.mk (K2.out w1 hR)
          have R1 := Kept.mk hR
          have F1 := Kept.mk hF
          clear hR hF
          go_wp2_with fail
          refine Calls.mono C2.out (fun e w2 hp => ?_)
          obtain ⟨rfl, hR, hF⟩ := hp
          have R2 := Kept.mk hR
          have F2 := Kept.mk hF
          clear hR hF
          go_wp2
          go_ret2
          unfold After
          rw [KE.out]
          exact ⟨rfl, R2.out, ((((Fr.refl rb ob w).alloc _)).trans F1.out).trans F2.out⟩
  · have K1 := Kept.mk (symbol_bad hq hok hc1 h1)
    have KE : Kept (distF p c t = .bad er) := ⟨by simp only [distF, hq]⟩
    have her := er.rng
    have hne : ¬ er.v = 0 := by omega
    clear h hq h1 hc hc1 hal hok
    go_enter Tryd.func75, Tryd.ntmps75
    go_wp2_with fail
    refine Calls.mono K1.out (fun e w1 hp => ?_)
    obtain ⟨rfl, hR, hF⟩ := hp
    have R1 := Kept.mk hR
    have F1 := Kept.mk hF
    clear hR hF
    go_wp2
    go_ret2
    unfold After
    rw [KE.out]
    exact ⟨rfl, R1.out, (((Fr.refl rb ob w).alloc _)).trans F1.out⟩
end Go.Proofs.YtjijkcmbbccfmaaDoor
