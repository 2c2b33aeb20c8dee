/-
  A range over a function that keeps its state in a cell of its own: the statement, by the places that are yielded.
-/
import Derived.Test.YtidpdhnbnecddaaV3
import Derived.RangeFuncFrom
import Derived.RangeFuncNested
import Derived.RangeFuncBound
import Derived.RangeFuncCalls
import Derived.RangeFuncLeaves
import Derived.Shelf.Abstract
import Derived.Shelf.RegionOpen
import Derived.WalkKit
import Derived.OwnWalkIn
import Derived.TacticsInMore
import Derived.LoopNIn
import Derived.LoopIn
import Derived.Lib.Bytealg
import Derived.Lib.Bytes
import Derived.Test.YtidpdhnbnecddaaQ2
import Derived.Test.YtidpdhnbnecddaaShelf
namespace Go.Proofs.Ytidpdhnbnecddaa
open Go.RowKit Go.Shelf

/-- What the walk of a round's body owes: only the box B and blocks from E on have turned, and the caller's word holds at the next place. -/
def lnPost (I : Nat → World → Prop) (B E k : Nat) (W : World) : Exit → Act → World → Prop
  | .normal, _, W' => Fx (fun b => b = B ∨ E ≤ b) W W' ∧ I k W'
  | _, _, _ => False
/-- What the function that is ranged over owes: from place 0 on, a call of yield at each place, and its own box Bs alone turned. -/
def LnSeq (F : Fence) (n : Nat) (P : Program) (g : Nat) (lb : Array Value) (Bs n0 N : Nat) (enc : Nat → Value) (nxt : Nat → Nat) (w : World) : Prop :=
  ∀ (l : Nat) (J : Nat → World → Prop) (W : World), Below w.heap.size w W → (∀ k W1 W2, J k W1 → Fx (fun b => b = Bs) W1 W2 → J k W2) →
    (∀ k W1, k < N → J k W1 → YieldAt F (n - 1) P l #[enc k] W1 fun e W' => e = .returned (.bool true) ∧ J (nxt k) W' ∧ W'.heap[Bs]? = W1.heap[Bs]? ∧ Below n0 W1 W') →
    J 0 W → CallsIn F n P g (#[.func (.yield l) #[] #[]] ++ lb) W fun e W' => (∃ v, e = .returned v) ∧ J N W'

theorem fx_putObj (W : World) (l : Nat) (o : Obj) : Fx (fun b => b = l) W (W.putObj l o) :=
  ⟨rfl, rfl, rfl, by simp, fun k _ hk => World.putObj_heap_other hk⟩

theorem wpIn_range_ln {F : Fence} {n : Nat} {P : Program} {g : Operand} {ps : Array Tmp} {assign body : Code} {Q : Exit → Act → World → Prop} {a : Act} {w : World}
    (hro : F.round = none) (h1 : 1 ≤ n) {gf : Nat} {lb : Array Value} (hg : a.eval g = .func (.func gf) #[] lb) (hFg : F.fn gf) (eg : ∀ args w, (callFunc gf args).run P w = .ok (.enter gf args) w)
    {Bs B n0 N : Nat} {enc : Nat → Value} {nxt : Nat → Nat} (hseq : LnSeq F (n - 1) P gf lb Bs n0 N enc nxt w) (hps : ps.size = 1) (hBs : Bs < w.heap.size) (hB : B < w.heap.size) (hBB : B ≠ Bs) (hn0 : n0 ≤ B) (hn0s : n0 ≤ Bs)
    (I : Nat → World → Prop) (hI : ∀ k W W', I k W → Fx (fun b => b = Bs ∨ b = w.heap.size ∨ b = w.heap.size + 1) W W' → I k W')
    (h0 : ∀ W, Below w.heap.size w W → w.heap.size + 2 ≤ W.heap.size → I 0 W) (a1 : Nat → Act)
    (hassign : ∀ (l k : Nat) (W : World) (K : Act → World → Prop), K (a1 k) W → assign.wpIn (F.inRound l) (n - 1 - 1) P (Exit.then K (fun _ _ _ => False)) { tmps := (ps.zip #[enc k]).foldl (fun t (p, v) => t.setIfInBounds p v) a.tmps, defers := [] } W)
    (hbody : ∀ (l k : Nat) (W : World), k < N → w.heap.size + 2 ≤ W.heap.size → I k W → body.wpIn (F.inRound l) (n - 1 - 1) P (lnPost I B (w.heap.size + 2) (nxt k) W) (a1 k) W)
    (hdone : ∀ (W : World), I N W → W.heap[w.heap.size]? = some (.deferred (some [])) → Q .normal { a with defers := { target := .collected w.heap.size, args := #[] } :: a.defers } W) :
    (Code.rangeFunc g ps assign body).wpIn F n P Q a w := by
  refine wpIn_rangeFunc (fun fn hfn => ?_)
  rw [hro]
  let rec0 : LoopState → Option Code → Loop := fun st pe => { state := st, pending := pe, fn := fn, tmps := a.tmps, params := ps, assign := assign, body := body, defers := w.heap.size }
  obtain ⟨rec, hrec⟩ : ∃ rec, rec0 = rec := ⟨_, rfl⟩
  obtain ⟨W1, hW1⟩ : ∃ W1, (w.alloc (.deferred (some []))).alloc (.loop (rec .ready none)) = W1 := ⟨_, rfl⟩
  have hs1 : W1.heap.size = w.heap.size + 2 := by rw [← hW1]; simp
  have hL1 : W1.heap[w.heap.size + 1]? = some (.loop (rec .ready none)) := by
    have h := World.alloc_heap_new (w.alloc (.deferred (some []))) (.loop (rec .ready none))
    rw [World.size_alloc, hW1] at h
    exact h
  have hD1 : W1.heap[w.heap.size]? = some (.deferred (some [])) := by
    rw [← hW1, Below.heap_alloc _ _ _ (by simp)]
    exact World.alloc_heap_new w _
  have hb1 : Below w.heap.size w W1 := by rw [← hW1]; exact ((Below.refl _ w).alloc (Nat.le_refl _) _).alloc (by simp) _
  refine ⟨w.heap.size + 1, [{ target := .collected w.heap.size, args := #[] }], W1, { target := .fn (.func gf) lb, args := #[.func (.yield (w.heap.size + 1)) #[] #[]] }, W1, gf, #[.func (.yield (w.heap.size + 1)) #[] #[]] ++ lb, W1, ?_, ?_, ?_, ?_, fun _ => h1, ?_⟩
  · rw [← hW1, ← hrec]
    exact run_enterLoop_outer _ _ _ _ _
  · simp only [resolve, hg]
    simp [go_sem]
  · intro f' hf'
    simp [Target.leads] at hf'
    rw [← hf']
    exact hFg
  · simp [invoke, go_sem, eg]
  · refine (hseq (w.heap.size + 1) (fun k W => I k W ∧ w.heap.size + 2 ≤ W.heap.size ∧ W.heap[w.heap.size + 1]? = some (.loop (rec .ready none)) ∧ W.heap[w.heap.size]? = some (.deferred (some []))) W1 hb1 ?_ ?_ ⟨h0 W1 hb1 (by omega), by omega, hL1, hD1⟩).mono ?_
    · rintro k A C ⟨q1, q2, q3, q4⟩ hx
      refine ⟨hI k A C q1 (hx.weak fun i _ h => .inl h), Nat.le_trans q2 hx.size, ?_, ?_⟩
      · rw [hx.block _ (by omega) (by omega)]; exact q3
      · rw [hx.block _ (by omega) (by omega)]; exact q4
    · rintro k W hk ⟨q1, q2, q3, q4⟩
      have hy := run_yield (P := P) (args := #[enc k]) q3 (by rw [← hrec]; simp [rec0, hps])
      rw [← hrec] at hy
      refine ⟨fn, _, assign, body, hy, roundIn_of_wpIn hfn (hassign _ k W _ ⟨_, run_beginRound q3 (by rw [← hrec]), ?_⟩)⟩
      obtain ⟨W2, hW2⟩ : ∃ W2, W.putObj (w.heap.size + 1) (.loop { rec .ready none with state := .busy }) = W2 := ⟨_, rfl⟩
      have hx2 : Fx (fun b => b = w.heap.size + 1) W W2 := by rw [← hW2]; exact fx_putObj _ _ _
      have hl2 : W2.heap[w.heap.size + 1]? = some (.loop { rec .ready none with state := .busy }) := by rw [← hW2]; exact World.putObj_heap_same (by omega)
      have hd2 : W2.heap[w.heap.size]? = some (.deferred (some [])) := by rw [hx2.block _ (by omega) (by omega)]; exact q4
      have hz2 := hx2.size
      rw [hW2]
      refine wpIn_mono (hbody _ k W2 hk (by omega) (hI k W W2 q1 (hx2.weak fun i _ h => .inr (.inr h)))) ?_
      rintro e a3 W3 hp
      cases e with
      | normal =>
        obtain ⟨hx3, hi3⟩ := hp
        have hz3 := hx3.size
        have hl3 : W3.heap[w.heap.size + 1]? = some (.loop { rec .ready none with state := .busy }) := by rw [hx3.block _ (by omega) (by omega)]; exact hl2
        have hd3 : W3.heap[w.heap.size]? = some (.deferred (some [])) := by rw [hx3.block _ (by omega) (by omega)]; exact hd2
        have hr := run_endRound (P := P) none hl3
        have hx4 : Fx (fun b => b = w.heap.size + 1) W3 (W3.putObj (w.heap.size + 1) (.loop (rec .ready none))) := fx_putObj _ _ _
        refine ⟨_, _, (by rw [← hrec] at hr ⊢; exact hr), rfl, ⟨hI _ W3 _ hi3 (hx4.weak fun i _ h => .inr (.inr h)), by simp; omega, World.putObj_heap_same (by omega), ?_⟩, ?_, ?_⟩
        · rw [hx4.block _ (by omega) (by omega)]; exact hd3
        · rw [hx4.block _ (by omega) (by omega), hx3.block _ (by omega) (by omega), hx2.block _ (by omega) (by omega)]
        · exact ((hx2.below (by omega) (by omega)).trans (hx3.below (by omega) (by omega))).trans (hx4.below (by omega) (by omega))
      | ret => exact hp.elim
      | exit id => exact hp.elim
      | goto t => exact hp.elim
      | panic ch => exact hp.elim
      | outgrown => exact hp.elim
    · rintro e W2 ⟨⟨v, rfl⟩, q1, q2, q3, q4⟩
      have hpe : (rec .ready none).pending = none := by rw [← hrec]
      have hrun := run_endLoop (P := P) q3 (by rw [← hrec]; simp [rec0])
      rw [hpe] at hrun
      refine ⟨none, _, hrun, ?_⟩
      refine hdone _ (hI _ W2 _ q1 (Fx.weak (fx_putObj _ _ _) fun i _ h => .inr (.inr h))) ?_
      rw [World.putObj_heap_other (by omega)]
      exact q4


/-- How long the first line is. -/
def lnE : List Int → Nat
  | [] => 0
  | x :: r => if x = 10 then 1 else lnE r + 1
/-- The lines of a text. -/
def lnsF : List Int → List (List Int)
  | [] => []
  | x :: r => if x = 10 then [x] :: lnsF r else match lnsF r with
    | [] => [[x]]
    | l :: ls => (x :: l) :: ls
theorem lnE_le : ∀ xs : List Int, lnE xs ≤ xs.length
  | [] => Nat.le_refl _
  | x :: r => by
    have := lnE_le r
    unfold lnE
    rw [List.length_cons]
    split <;> omega
theorem lnE_pos : ∀ {xs : List Int}, xs ≠ [] → 0 < lnE xs
  | [], h => absurd rfl h
  | x :: r, _ => by unfold lnE; split <;> omega
theorem lnsF_step : ∀ {xs : List Int}, xs ≠ [] → lnsF xs = xs.take (lnE xs) :: lnsF (xs.drop (lnE xs))
  | [], h => absurd rfl h
  | x :: r, _ => by
    by_cases hx : x = 10
    · rw [lnsF, lnE, if_pos hx, if_pos hx]; simp
    · rw [lnsF, lnE, if_neg hx, if_neg hx]
      cases r with
      | nil => simp [lnsF, lnE]
      | cons y s =>
        have ih := lnsF_step (xs := y :: s) (by simp)
        rw [ih]
        simp
theorem lnsF_join : ∀ xs : List Int, (lnsF xs).flatten = xs
  | [] => rfl
  | x :: r => by
    have ih := lnsF_join r
    rw [lnsF]
    split
    · rw [List.flatten_cons, ih]; rfl
    · cases h : lnsF r with
      | nil => rw [h] at ih; simp at ih; simp [← ih]
      | cons l ls => rw [h] at ih; simp at ih ⊢; exact ih
theorem lnE_none : ∀ {xs : List Int}, (10 : Int) ∉ xs → lnE xs = xs.length
  | [], _ => rfl
  | x :: r, h => by
    have h1 : ¬ x = 10 := fun e => h (by rw [e]; exact List.mem_cons_self)
    rw [lnE, if_neg h1, lnE_none (fun e => h (List.mem_cons_of_mem _ e)), List.length_cons]
theorem byte_ten {x : Int} (h0 : 0 ≤ x) (h1 : x < 256) : (UInt8.ofNat x.toNat == (10 : Int).toNat.toUInt8) = decide (x = 10) := by
  obtain ⟨n, rfl⟩ : ∃ n : Nat, x = n := ⟨x.toNat, by omega⟩
  have hn : n < 256 := by omega
  rw [Int.toNat_natCast]
  by_cases h : n = 10
  · subst h; rfl
  · have e : ¬ (n : Int) = 10 := by omega
    rw [decide_eq_false e]
    apply beq_eq_false_iff_ne.2
    intro e2
    have := congrArg UInt8.toNat e2
    rw [UInt8.toNat_ofNat', Nat.mod_eq_of_lt (by omega)] at this
    exact h this
theorem idx_ln : ∀ {xs : List Int}, AllB xs → Lib.indexByte (Lib.bytesOf xs) (10 : Int).toNat.toUInt8 = if (10 : Int) ∈ xs then (lnE xs : Int) - 1 else -1
  | [], _ => by simp [Lib.bytesOf, Lib.indexByte]
  | x :: r, h => by
    have ih := idx_ln (xs := r) (fun y hy => h y (List.mem_cons_of_mem _ hy))
    have hx := h x List.mem_cons_self
    have hb := byte_ten hx.1 hx.2
    show Lib.indexByte (UInt8.ofNat x.toNat :: Lib.bytesOf r) _ = _
    rw [Lib.indexByte, hb, ih]
    by_cases e : x = 10
    · rw [lnE, if_pos e]; simp [e]
    · rw [lnE, if_neg e, decide_eq_false e]
      by_cases m : (10 : Int) ∈ r
      · have hp := lnE_pos (xs := r) (by intro e; rw [e] at m; cases m)
        rw [if_pos m, if_pos (List.mem_cons_of_mem _ m)]
        have e1 : ((lnE r : Int) - 1 == -1) = false := by apply beq_eq_false_iff_ne.2; omega
        rw [e1]
        simp
      · have m2 : (10 : Int) ∉ x :: r := fun h' => by
          rcases List.mem_cons.1 h' with h' | h'
          · exact e h'.symm
          · exact m h'
        rw [if_neg m, if_neg m2]
        rfl
/-- The lines, as texts. -/
def lnS (xs : List Int) : List ByteArray := (lnsF xs).map strOfNums
theorem lnS_nil : lnS [] = [] := rfl
theorem lnS_step {xs : List Int} {off : Nat} (h : off < xs.length) {M : List ByteArray} (hM : lnS xs = M ++ lnS (xs.drop off)) : lnS xs = (M ++ [strOfNums ((xs.drop off).take (lnE (xs.drop off)))]) ++ lnS (xs.drop (off + lnE (xs.drop off))) := by
  have hne : xs.drop off ≠ [] := fun e => by have := congrArg List.length e; simp at this; omega
  rw [hM]
  unfold lnS
  rw [lnsF_step hne, List.map_cons, List.drop_drop, List.append_assoc]
  rfl
theorem lnsF_len : ∀ xs : List Int, (lnsF xs).length ≤ xs.length
  | [] => Nat.le_refl _
  | x :: r => by
    have ih := lnsF_len r
    rw [lnsF]
    split
    · simp; omega
    · cases h : lnsF r with
      | nil => simp
      | cons l ls => rw [h] at ih; simp at ih ⊢; omega
theorem lnS_len (xs : List Int) : (lnS xs).length ≤ xs.length := by unfold lnS; rw [List.length_map]; exact lnsF_len xs

open Go.RowKit Go.Shelf
attribute [local go_sem] Oper.semAt_some

/-- What lies in the box, behind off bytes. -/
structure LnB (wr : World) (Bs tb to n c off : Nat) : Prop where
  le : off ≤ n
  mid : off < n → Boxed wr Bs 22 (.slice (some ⟨tb, to + off, none⟩) (n - off) (c - off))
  last : off = n → ∃ p q, Boxed wr Bs 22 (.slice p 0 q)
def boxN (Bs : Nat) (w : World) : Nat := match w.cell? ⟨Bs, 0, none⟩ with
  | some (.slice _ n _) => n
  | _ => 0
theorem boxN_eq {Bs : Nat} {w : World} {T : TypeId} {p : Option Addr} {n c : Nat} (h : Boxed w Bs T (.slice p n c)) : boxN Bs w = n := by unfold boxN; rw [h.cell]
theorem fx_set (W : World) (g : Nat) (u : Value) : Fx (fun k => k = g) W (W.setCell ⟨g, 0, none⟩ u) := Fx.setCell W g 0 u
set_option maxRecDepth 100000 in
set_option maxHeartbeats 2000000 in
theorem bytesLines_any (p : Option Addr) (n c : Nat) (w : World) : CallsIn Fence.wide 3 Try.prog 30 #[.slice p n c] w fun e w' => e = .returned (.func (.func 38) #[] #[.pointer (some ⟨w.heap.size, 0, none⟩)]) ∧ w' = w.alloc (.cells #[.slice p n c] 22) := by
  refine callsIn_of_wp Try.func30 rfl trivial ?_ rfl
  simp only [Try.ntmps30, List.size_toArray, List.length_cons, List.length_nil, Nat.reduceAdd, Nat.reduceSub, Array.replicate_succ, Array.replicate_zero, List.push_toArray, List.append_toArray, List.nil_append, List.cons_append]
  gi_wp2
  go_ret
  exact ⟨rfl, rfl⟩
theorem fx_dset (W : World) (m g : Nat) (u : Value) : Fx (fun k => k = g) W ((W.drewN m).setCell ⟨g, 0, none⟩ u) :=
  ⟨rfl, rfl, rfl, by simp [World.setCell], fun k _ hk => by rw [Below.heap_setCell _ _ _ _ hk]; rfl⟩
theorem boxed_drew {W : World} {m B : Nat} {T : TypeId} {v : Value} (h : Boxed W B T v) : Boxed (W.drewN m) B T v := h
set_option maxRecDepth 100000 in
set_option maxHeartbeats 4000000 in
theorem lines1_any (l Bs tb to c n0 : Nat) (xs : List Int) (hxs : AllB xs) (hc : xs.length ≤ c) (hcm : c ≤ maxLen) (htb : 0 < xs.length → tb < n0) (hBs : n0 ≤ Bs) (J : Nat → World → Prop) (W : World)
    (hJ : ∀ k W1 W2, J k W1 → Fx (fun b => b = Bs) W1 W2 → J k W2)
    (hY : ∀ k W1, k < xs.length → J k W1 → YieldAt Fence.wide 2 Try.prog l #[.slice (some ⟨tb, to + k, none⟩) (lnE (xs.drop k)) (lnE (xs.drop k))] W1 fun e W' => e = .returned (.bool true) ∧ J (k + lnE (xs.drop k)) W' ∧ W'.heap[Bs]? = W1.heap[Bs]? ∧ Below n0 W1 W')
    (hbx : LnB W Bs tb to xs.length c 0) (hcell : ∀ i, i < xs.length → W.cell? ⟨tb, to + i, none⟩ = some (.int .u8 (xs.getD i 0))) (h0 : J 0 W) :
    CallsIn Fence.wide 3 Try.prog 38 #[.func (.yield l) #[] #[], .pointer (some ⟨Bs, 0, none⟩)] W fun e W' => (∃ v, e = .returned v) ∧ J xs.length W' := by
  have KJ := Kept.mk hJ
  have KY := Kept.mk hY
  have KC := Kept.mk hcell
  have KX := Kept.mk hxs
  have K0 := Kept.mk hbx
  have Kh := Kept.mk h0
  clear hJ hY hcell hxs hbx h0
  refine callsIn_of_wp Try.func38 rfl trivial ?_ rfl
  simp only [Try.ntmps38, List.size_toArray, List.length_cons, List.length_nil, Nat.reduceAdd, Nat.reduceSub, Array.replicate_succ, Array.replicate_zero, List.push_toArray, List.append_toArray, List.nil_append, List.cons_append]
  gi_wp2
  gi_loopw [] (fun wr => ∃ off : Nat, LnB wr Bs tb to xs.length c off ∧ J off wr ∧ Below n0 W wr) (fun wr => boxN Bs wr)
  case atStart => exact ⟨0, K0.out, Kh.out, Below.refl _ _⟩
  case round =>
    obtain ⟨off, hb, hj, hbel⟩ := hrel
    have hle := hb.le
    by_cases hlt : off < xs.length
    · have htb := htb (by omega)
      have hbx := hb.mid hlt
      have hcl := hbx.cell
      have hfz := hbx.frozen
      have hpos : (0 : Int) < ((xs.length - off : Nat) : Int) := by omega
      have hlen : (xs.drop off).length = xs.length - off := by simp
      have hcs : ∀ i, i < xs.length - off → wr.cell? ⟨tb, to + off + i, none⟩ = some (.int .u8 ((xs.drop off).getD i 0)) := fun i hi => by
        rw [hbel.cell (p := ⟨tb, to + off + i, none⟩) htb, Nat.add_assoc, KC.out (off + i) (by omega)]
        congr 2
        simp [List.getD, List.getElem?_drop]
      have hall : AllB (xs.drop off) := KX.out.drop off
      have hidx := idx_ln hall
      have K1 := Kept.mk (Try.bytes_IndexByte tb (to + off) (xs.length - off) (c - off) (xs.drop off) 10 wr hlen hcs)
      have hep : 0 < lnE (xs.drop off) := lnE_pos (fun e => by rw [e] at hlen; simp at hlen; omega)
      have hel : lnE (xs.drop off) ≤ xs.length - off := by have := lnE_le (xs.drop off); omega
      have hnone : (10 : Int) ∉ xs.drop off → lnE (xs.drop off) = xs.length - off := fun h => by rw [lnE_none h, hlen]
      obtain ⟨e, he⟩ : ∃ e, lnE (xs.drop off) = e := ⟨_, rfl⟩
      rw [he] at hidx hep hel hnone
      rw [hidx] at K1
      have KYk : Kept (∀ W1, J off W1 → YieldAt Fence.wide 2 Try.prog l #[.slice (some ⟨tb, to + off, none⟩) e e] W1 fun e' W' => e' = .returned (.bool true) ∧ J (off + e) W' ∧ W'.heap[Bs]? = W1.heap[Bs]? ∧ Below n0 W1 W') := ⟨fun W1 h => by have := KY.out off W1 hlt h; rw [he] at this; exact this⟩
      have Kb := Kept.mk hb
      have Kj := Kept.mk hj
      have Kbel := Kept.mk hbel
      have Kbx := Kept.mk hbx
      clear hb hj hbel hbx hcs hall hidx he hlen
      by_cases h10 : (10 : Int) ∈ xs.drop off
      · rw [if_pos h10] at K1
        clear hnone h10
        have d1 : (0 : Int) ≤ (e : Int) - 1 := by omega
        gi_wp2_with (refine ⟨trivial, ?_⟩; gi_at_call 39; refine (callsIn_wide.2 K1.out).mono ?_; rintro e2 w2 ⟨rfl, rfl⟩)
        refine wpIn_wide.2 ?_
        refine wp_region_last _ 9 (by kernel_rfl) (by kernel_rfl) rfl rfl ?_
        simp only [List.take_succ_cons, List.take_zero]
        have d2 : IntKind.i64.wrap ((e : Int) - 1 + 1) = (e : Int) := by rw [show (e : Int) - 1 + 1 = (e : Int) by omega]; rw [IntKind.wrap_i64]; unfold maxLen at hcm; omega
        have d3 : (0 : Int) ≤ (e : Int) := by omega
        have d4 : (e : Int) ≤ ((c - off : Nat) : Int) := by omega
        have d5 : (e : Int) ≤ ((xs.length - off : Nat) : Int) := by omega
        have d6 : wrap64 (e : Int) = (e : Int) := by unfold maxLen at hcm; unfold wrap64; omega
        have Kar : Kept (off < xs.length ∧ e ≤ xs.length - off ∧ 0 < e ∧ xs.length ≤ c ∧ tb < n0 ∧ n0 ≤ Bs) := ⟨⟨hlt, hel, hep, hc, htb, hBs⟩⟩
        obtain ⟨n1, hn1⟩ : ∃ n1, xs.length - off = n1 := ⟨_, rfl⟩
        obtain ⟨c1, hc1⟩ : ∃ c1, c - off = c1 := ⟨_, rfl⟩
        have Kn1 := Kept.mk hn1
        have Kc1 := Kept.mk hc1
        rw [hc1] at d4
        rw [hn1] at d5
        rw [hn1, hc1] at hcl
        rw [hn1, hc1]
        clear d1 hle hlt hpos hep hel hc hcm htb hBs hn1 hc1
        by_cases hcap : c1 = e
        · subst hcap
          repeat (go_big_quiet_step (fail))
          refine wpQuiet_nil ?_
          intro m
          go_simp
          obtain ⟨fn, tmps, assign, body, hy, hR⟩ := KYk.out ((w2.drewN m).setCell ⟨Bs, 0, none⟩ (.slice (some ⟨tb, to + off, none⟩) (n1 - c1) 0)) (KJ.out off w2 _ Kj.out (fx_dset _ _ _ _))
          have Kbx2 := Kept.mk ((boxed_drew (m := m) Kbx.out).set (.slice (some ⟨tb, to + off, none⟩) (n1 - c1) 0))
          gi_wp2
          refine hR.mono ?_
          rintro e3 W3 ⟨rfl, hJ3, hB3, hb3⟩
          have Kx3 : Kept (Boxed W3 Bs 22 (.slice (some ⟨tb, to + off, none⟩) (n1 - c1) 0)) := ⟨hB3.trans Kbx2.out⟩
          have KJ3 := Kept.mk hJ3
          have Kb3 := Kept.mk ((Kbel.out.trans ((fx_dset w2 m Bs (.slice (some ⟨tb, to + off, none⟩) (n1 - c1) 0)).below (by have := Kbx.out.lt; have := Kar.out; omega) (by have := Kar.out; omega))).trans hb3)
          clear hB3 hb3 hJ3 hy hR
          gi_wp2
          go_roundw
          case rel =>
            obtain ⟨z1, z2, z3, z4, z5, z6⟩ := Kar.out
            have z7 := Kn1.out
            have z8 := Kc1.out
            exact ⟨off + c1, ⟨by omega, fun h => by omega, fun _ => ⟨_, _, by have h := Kx3.out; rw [show n1 - c1 = 0 by omega] at h; exact h⟩⟩, KJ3.out, Kb3.out⟩
          case measure =>
            obtain ⟨z1, z2, z3, z4, z5, z6⟩ := Kar.out
            rw [boxN_eq Kx3.out, boxN_eq Kbx.out]
            have z7 := Kn1.out
            omega
        · repeat (go_big_quiet_step (fail))
          refine wpQuiet_nil ?_
          intro m
          go_simp
          obtain ⟨fn, tmps, assign, body, hy, hR⟩ := KYk.out ((w2.drewN m).setCell ⟨Bs, 0, none⟩ (.slice (some ⟨tb, to + off + e, none⟩) (n1 - e) (c1 - e))) (KJ.out off w2 _ Kj.out (fx_dset _ _ _ _))
          have Kbx2 := Kept.mk ((boxed_drew (m := m) Kbx.out).set (.slice (some ⟨tb, to + off + e, none⟩) (n1 - e) (c1 - e)))
          gi_wp2
          refine hR.mono ?_
          rintro e3 W3 ⟨rfl, hJ3, hB3, hb3⟩
          have Kx3 : Kept (Boxed W3 Bs 22 (.slice (some ⟨tb, to + off + e, none⟩) (n1 - e) (c1 - e))) := ⟨hB3.trans Kbx2.out⟩
          have KJ3 := Kept.mk hJ3
          have Kb3 := Kept.mk ((Kbel.out.trans ((fx_dset w2 m Bs (.slice (some ⟨tb, to + off + e, none⟩) (n1 - e) (c1 - e))).below (by have := Kbx.out.lt; have := Kar.out; omega) (by have := Kar.out; omega))).trans hb3)
          clear hB3 hb3 hJ3 hy hR
          gi_wp2
          go_roundw
          case rel =>
            obtain ⟨z1, z2, z3, z4, z5, z6⟩ := Kar.out
            have z7 := Kn1.out
            have z8 := Kc1.out
            exact ⟨off + e, ⟨by omega, fun h => by have h3 := Kx3.out; rw [show n1 - e = xs.length - (off + e) by omega, show c1 - e = c - (off + e) by omega, Nat.add_assoc] at h3; exact h3, fun h => ⟨_, _, by have h3 := Kx3.out; rw [show n1 - e = 0 by omega] at h3; exact h3⟩⟩, KJ3.out, Kb3.out⟩
          case measure =>
            obtain ⟨z1, z2, z3, z4, z5, z6⟩ := Kar.out
            rw [boxN_eq Kx3.out, boxN_eq Kbx.out]
            have z7 := Kn1.out
            omega
      · rw [if_neg h10] at K1
        have hen := hnone h10
        subst hen
        clear hnone h10
        obtain ⟨fn, tmps, assign, body, hy, hR⟩ := KYk.out (wr.setCell ⟨Bs, 0, none⟩ (.slice none 0 0)) (KJ.out off wr _ Kj.out (fx_set _ _ _))
        have Kbx2 := Kept.mk (Kbx.out.set (.slice none 0 0))
        gi_wp2_with (refine ⟨trivial, ?_⟩; gi_at_call 39; refine (callsIn_wide.2 K1.out).mono ?_; rintro e2 w2 ⟨rfl, rfl⟩)
        refine hR.mono ?_
        rintro e3 W3 ⟨rfl, hJ3, hB3, hb3⟩
        have Kx3 : Kept (Boxed W3 Bs 22 (.slice none 0 0)) := ⟨hB3.trans Kbx2.out⟩
        have KJ3 := Kept.mk hJ3
        have Kb3 := Kept.mk ((Kbel.out.trans ((fx_set w2 Bs (.slice none 0 0)).below (by have := Kbx.out.lt; omega) (by omega))).trans hb3)
        clear hB3 hb3 hJ3 hy hR
        gi_wp2
        go_roundw
        case rel => exact ⟨off + (xs.length - off), ⟨by omega, fun h => by omega, fun _ => ⟨_, _, Kx3.out⟩⟩, KJ3.out, Kb3.out⟩
        case measure => rw [boxN_eq Kx3.out, boxN_eq Kbx.out]; omega
    · obtain rfl : off = xs.length := by omega
      obtain ⟨p, q, hbx⟩ := hb.last rfl
      have hcl := hbx.cell
      have Kj := Kept.mk hj
      clear hb hj hbel hbx
      gi_wp2
      go_end0
      exact ⟨⟨_, rfl⟩, Kj.out⟩
end Go.Proofs.Ytidpdhnbnecddaa
