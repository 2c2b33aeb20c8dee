/-
  The document's Least, Header, DocHeader.
-/
import Derived.Test.YtkbalngddlhlpaaGreatDoorO9
import Derived.Test.YtkbalngddlhlpaaGreatDoorQ3
namespace Go.Proofs.YtkbalngddlhlpaaGreatDoor
open Go.RowKit

def lsF (l e : Int) : Int := if e ≠ 0 ∧ (l = 0 ∨ e < l) then e else l
set_option maxHeartbeats 1000000 in
set_option maxRecDepth 100000 in
theorem least_two (a b : Int) (g : Nat) (w : World) (hr : w.heap[g]? = some (.cells #[.int .i64 a, .int .i64 b] 23)) :
    Calls Tryz.prog 79 #[.slice (some ⟨g, 0, none⟩) 2 2] w fun e w' => e = .returned (.int .i64 (lsF (lsF 0 a) b)) ∧ w' = w := by
  have c0 : w.cell? ⟨g, 0, none⟩ = some (.int .i64 a) := by rw [cell_of_row w g 0 _ _ (0, 0) hr]; rfl
  have c1 : w.cell? ⟨g, 1, none⟩ = some (.int .i64 b) := by rw [cell_of_row w g 1 _ _ (0, 0) hr]; rfl
  clear hr
  have S : ∀ l e : Int, lsF l e = if e = 0 then l else if l = 0 then e else if e < l then e else l := by
    intro l e
    unfold lsF
    by_cases h1 : e = 0
    · rw [if_neg (by omega), if_pos h1]
    · rw [if_neg h1]
      by_cases h2 : l = 0
      · rw [if_pos (by omega), if_pos h2]
      · rw [if_neg h2]
        by_cases h3 : e < l
        · rw [if_pos (by omega), if_pos h3]
        · rw [if_neg (by omega), if_neg h3]
  have KS := Kept.mk S
  clear S
  go_enter Tryz.func79, Tryz.ntmps79
  go_wp2
  go_loopw [3, 5, 8] (fun lv _ kv wr => wr = w ∧ ((kv = .int .i64 0 ∧ lv = .int .i64 0) ∨ (kv = .int .i64 1 ∧ lv = .int .i64 (lsF 0 a)) ∨ (kv = .int .i64 2 ∧ lv = .int .i64 (lsF (lsF 0 a) b)))) (fun _ _ kv _ => 2 - (intOf kv).toNat)
  case atStart => exact ⟨rfl, Or.inl ⟨rfl, rfl⟩⟩
  case round =>
    obtain ⟨rfl, ⟨rfl, rfl⟩ | ⟨rfl, rfl⟩ | ⟨rfl, rfl⟩⟩ := hrel
    · by_cases ha : a = 0
      · have KE : Kept (lsF 0 a = 0) := ⟨by rw [KS.out, if_pos ha]⟩
        subst ha
        clear c1
        go_wp2
        go_roundw
        case rel => exact ⟨trivial, Or.inr (Or.inl ⟨rfl, by rw [KE.out]⟩)⟩
        case measure => simp [intOf]
      · have KE : Kept (lsF 0 a = a) := ⟨by rw [KS.out, if_neg ha, if_pos rfl]⟩
        have hb : (a != 0) = true := by simpa using ha
        clear c1 ha
        go_wp2
        go_roundw
        case rel => exact ⟨trivial, Or.inr (Or.inl ⟨rfl, by rw [KE.out]⟩)⟩
        case measure => simp [intOf]
    · generalize lsF 0 a = l at *
      by_cases ha : b = 0
      · have KE : Kept (lsF l b = l) := ⟨by rw [KS.out, if_pos ha]⟩
        subst ha
        clear c0
        go_wp2
        go_roundw
        case rel => exact ⟨trivial, Or.inr (Or.inr ⟨rfl, by rw [KE.out]⟩)⟩
        case measure => simp [intOf]
      · have hb : (b != 0) = true := by simpa using ha
        by_cases h2 : l = 0
        · have KE : Kept (lsF l b = b) := ⟨by rw [KS.out, if_neg ha, if_pos h2]⟩
          subst h2
          clear c0 ha
          go_wp2
          go_roundw
          case rel => exact ⟨trivial, Or.inr (Or.inr ⟨rfl, by rw [KE.out]⟩)⟩
          case measure => simp [intOf]
        · have hl : (l == 0) = false := by simpa using h2
          by_cases h3 : b < l
          · have KE : Kept (lsF l b = b) := ⟨by rw [KS.out, if_neg ha, if_neg h2, if_pos h3]⟩
            clear c0 ha h2
            go_wp2
            go_roundw
            case rel => exact ⟨trivial, Or.inr (Or.inr ⟨rfl, by rw [KE.out]⟩)⟩
            case measure => simp [intOf]
          · have KE : Kept (lsF l b = l) := ⟨by rw [KS.out, if_neg ha, if_neg h2, if_neg h3]⟩
            clear c0 ha h2
            go_wp2
            go_roundw
            case rel => exact ⟨trivial, Or.inr (Or.inr ⟨rfl, by rw [KE.out]⟩)⟩
            case measure => simp [intOf]
    · clear c0 c1
      go_wp2
      go_ret
      exact ⟨rfl, rfl⟩


theorem quiet_load_mid {P : Program} {C : World → Prop} {K : Act → Prop} {o : Oper} {a : Act} (ty : TypeId) (x : Operand) (ho : o.op = .load ty x)
    (b off : Nat) (hx : a.eval x = .pointer (some ⟨b, off, none⟩)) (cs : List Value) (d : TypeDesc) (hc : ∀ w, C w → w.rangeAt b off cs)
    (hu : P.underlying ty = some d) (hd : d.isRow = true) (hi : (P.info? ty).map (·.size) = some cs.length) (hk : K (a.put o.dst (.agg cs.toArray))) : o.quiet P a C K :=
  quiet_run (fun w hw => by
    unfold execOp
    simp only [ho, hx, Instr.loadAt, Instr.sureAddr, Sem.run_bind, Sem.run_pure, Result.andThen_ok, run_loadVar_mid w b off ty cs d (hc w hw) hu hd hi]) hk

theorem lsF_eq (l e : Int) : lsF l e = if e = 0 then l else if l = 0 then e else if e < l then e else l := by
  unfold lsF
  by_cases h1 : e = 0
  · rw [if_neg (by omega), if_pos h1]
  · rw [if_neg h1]
    by_cases h2 : l = 0
    · rw [if_pos (by omega), if_pos h2]
    · rw [if_neg h2]
      by_cases h3 : e < l
      · rw [if_pos (by omega), if_pos h3]
      · rw [if_neg (by omega), if_neg h3]
theorem take_fold (l : List Int) {k : Nat} (h : k < l.length) : (l.take (k + 1)).foldl lsF 0 = lsF ((l.take k).foldl lsF 0) (l.getD k 0) := by
  rw [List.take_add_one, List.getElem?_eq_getElem h, List.foldl_append]
  simp [List.getD, List.getElem?_eq_getElem h]
set_option maxHeartbeats 1000000 in
set_option maxRecDepth 100000 in
theorem least_any (l : List Int) (g : Nat) (w : World) (hr : w.heap[g]? = some (.cells (cellsK .i64 l).toArray 23)) (hl : l.length ≤ 1000) :
    Calls Tryz.prog 79 #[.slice (some ⟨g, 0, none⟩) l.length l.length] w fun e w' => e = .returned (.int .i64 (l.foldl lsF 0)) ∧ w' = w := by
  have KC : Kept (∀ i, i < l.length → w.cell? ⟨g, i, none⟩ = some (.int .i64 (l.getD i 0))) := ⟨fun i hi => by
    rw [cell_of_row w g i _ _ (0, 0) hr]
    unfold cellsK
    simp [List.getD, List.getElem?_eq_getElem hi]⟩
  clear hr
  go_enter Tryz.func79, Tryz.ntmps79
  go_wp2
  go_loop [3, 8] (fun lv kv => ∃ k : Nat, k ≤ l.length ∧ kv = .int .i64 k ∧ lv = .int .i64 ((l.take k).foldl lsF 0)) (fun _ kv => l.length - (intOf kv).toNat)
  case atStart => exact ⟨0, Nat.zero_le _, rfl, rfl⟩
  case round =>
    obtain ⟨k, hk, rfl, rfl⟩ := hrel
    by_cases hlt : k < l.length
    · have hki : (k : Int) < (l.length : Int) := by omega
      have hc := KC.out k hlt
      have KF := Kept.mk (take_fold l hlt)
      have e2 : IntKind.i64.wrap ((k : Int) + 1) = (k : Int) + 1 := by rw [IntKind.wrap_i64]; omega
      generalize l.getD k 0 = e at *
      generalize (l.take k).foldl lsF 0 = m at *
      by_cases h1 : e = 0
      · have KE : Kept (lsF m e = m) := ⟨by rw [lsF_eq, if_pos h1]⟩
        have b1 : (e != 0) = false := by simpa using h1
        clear h1
        go_wp2
        go_round
        case rel => exact ⟨k + 1, by omega, by go_num, by rw [KF.out, KE.out]⟩
        case measure => simp [intOf]; omega
      · have b1 : (e != 0) = true := by simpa using h1
        by_cases h2 : m = 0
        · have KE : Kept (lsF m e = e) := ⟨by rw [lsF_eq, if_neg h1, if_pos h2]⟩
          have b2 : (m == 0) = true := by simpa using h2
          clear h1 h2
          go_wp2
          go_round
          case rel => exact ⟨k + 1, by omega, by go_num, by rw [KF.out, KE.out]⟩
          case measure => simp [intOf]; omega
        · have b2 : (m == 0) = false := by simpa using h2
          by_cases h3 : e < m
          · have KE : Kept (lsF m e = e) := ⟨by rw [lsF_eq, if_neg h1, if_neg h2, if_pos h3]⟩
            have b3 : decide (e < m) = true := decide_eq_true h3
            clear h1 h2 h3
            go_wp2
            go_round
            case rel => exact ⟨k + 1, by omega, by go_num, by rw [KF.out, KE.out]⟩
            case measure => simp [intOf]; omega
          · have KE : Kept (lsF m e = m) := ⟨by rw [lsF_eq, if_neg h1, if_neg h2, if_neg h3]⟩
            have b3 : decide (e < m) = false := decide_eq_false h3
            clear h1 h2 h3
            go_wp2
            go_round
            case rel => exact ⟨k + 1, by omega, by go_num, by rw [KF.out, KE.out]⟩
            case measure => simp [intOf]; omega
    · have hki : ¬ (k : Int) < (l.length : Int) := by omega
      have KF : Kept ((l.take k).foldl lsF 0 = l.foldl lsF 0) := ⟨by rw [List.take_of_length_le (by omega)]⟩
      generalize (l.take k).foldl lsF 0 = m at *
      go_wp2
      go_ret
      exact ⟨by rw [← KF.out]; rfl, rfl⟩

theorem fold_setE (off : Nat) : ∀ (L : List Value) (k : Nat) (C : Array Value), (L.zipIdx k).foldl (fun cs (x : Value × Nat) => cs.setIfInBounds (off + x.2) x.1) C = Sh.setL C (off + k) L
  | [], _, _ => rfl
  | v :: L, k, C => by
    rw [List.zipIdx_cons, List.foldl_cons, fold_setE off L (k + 1)]
    rfl
theorem setE_mid : ∀ (vs pre mid suf : List Value), mid.length = vs.length → Sh.setL (pre ++ mid ++ suf).toArray pre.length vs = (pre ++ vs ++ suf).toArray
  | [], pre, mid, suf, h => by
    have : mid = [] := List.eq_nil_of_length_eq_zero (by simpa using h)
    subst this
    rfl
  | v :: vs, pre, mid, suf, h => by
    cases mid with
    | nil => simp at h
    | cons s mid =>
      have e : (pre ++ s :: mid ++ suf).toArray.setIfInBounds pre.length v = ((pre ++ [v]) ++ mid ++ suf).toArray := by simp
      have ih := setE_mid vs (pre ++ [v]) mid suf (by simpa using h)
      rw [Sh.setL, e]
      simp only [List.length_append, List.length_singleton] at ih
      rw [ih]
      simp
theorem fillE_cons (place : Nat → Option (Nat × Nat)) (i : Nat) (v : Value) (rest : List (Nat × Value)) (pre mid suf cs : List Value) (hp : place i = some (pre.length, mid.length)) (hc : v.cells = cs.toArray) (hl : cs.length = mid.length) :
    Instr.fill place (pre ++ mid ++ suf).toArray ((i, v) :: rest) = Instr.fill place (pre ++ cs ++ suf).toArray rest := by
  have h1 : v.cells.size = mid.length := by rw [hc, List.size_toArray, hl]
  have h2 : ¬ (v.cells.size ≠ mid.length || pre.length + v.cells.size > (pre ++ mid ++ suf).toArray.size) = true := by
    rw [h1]
    simp
  have h3 : v.cells.zipIdx.foldl (fun cs (x : Value × Nat) => cs.setIfInBounds (pre.length + x.2) x.1) (pre ++ mid ++ suf).toArray = (pre ++ cs ++ suf).toArray := by
    have := fold_setE pre.length cs 0 (pre ++ mid ++ suf).toArray
    rw [Nat.add_zero, setE_mid cs pre mid suf hl.symm] at this
    rw [← this, hc, ← Array.foldl_toList]
    simp
  rw [← h3]
  conv => lhs; rw [Instr.fill]
  rw [hp]
  simp only
  rw [if_neg h2]
namespace An
open Go
section
variable {P : Program} {md : Region.Mode} {ops : Array Oper} {Q : Exit → Act → World → Prop} {fuel : Nat} {listed : Array Bool} {a : Act} {w : World} {i j : Nat} {o o' : Oper}
theorem wpAny_one (hr : Region.ready md ops listed = [i]) (ho : ops[i]? = some o) (hw : Region.wanted o (yielded ops a.tmps) = true)
    (h : ∀ K : Act → World → Prop, (∀ a' w', wpAny P md ops Q fuel (listed.setIfInBounds i true) a' w' → K a' w') → Oper.wp P o a w K Q) : wpAny P md ops Q (fuel + 1) listed a w := by
  refine wpAny_all hr (by simp) fun k hk => ?_
  obtain rfl : k = i := by simpa using hk
  unfold wpOp
  simp only [ho]
  rw [if_pos hw]
  exact .inl (h _ fun _ _ h => h)
end
end An


theorem oeqF_cons {P : Program} {w : World} {d : Nat} {X Y : Array Value} {f : Field} {fs : List Field} {x y : Value} {b : Bool} {R : Bool} (hn : (f.name == "_") = false) (hx : (part f.type X f.offset).run P w = .ok x w) (hy : (part f.type Y f.offset).run P w = .ok y w) (he : (Op.equalIn d f.type x y).run P w = .ok b w) (h : (Op.eqFields d X Y fs).run P w = .ok R w) :
    (Op.eqFields d X Y (f :: fs)).run P w = .ok (b && R) w := by
  have m : f.name ≠ "_" := by simpa using hn
  rw [Op.eqFields, if_pos m, Sem.run_bind, hx, Result.andThen_ok, Sem.run_bind, hy, Result.andThen_ok, Sem.run_bind, he, Result.andThen_ok]
  cases b
  · simp
  · simpa using h
theorem run_eqItems_sameE {P : Program} (w : World) (d : Nat) (e : TypeId) (q : IntKind) (hu : P.underlying e = some (.int q)) (hpk : P.plainKey e = true) (xs : List Int) :
    ∀ (is : List Nat), (∀ i ∈ is, i < xs.length) → (Op.eqItems (d + 1) e 1 (cellsK q xs).toArray (cellsK q xs).toArray is).run P w = .ok true w
  | [], _ => by simp [Op.eqItems]
  | i :: is, h => by
    have h1 := h i (by simp)
    have hp := run_part_plain (P := P) (w := w) hpk (show (cellsK q xs).toArray[i * 1]? = _ by rw [Nat.mul_one, List.getElem?_toArray]; exact cellsK_at h1)
    have he := run_equalIn_int (P := P) w d e q q (xs.getD i 0) (xs.getD i 0) hu
    have ih := run_eqItems_sameE w d e q hu hpk xs is (fun j hj => h j (by simp [hj]))
    simp only [Op.eqItems, Sem.run_bind, hp, he, Result.andThen_ok]
    simp only [BEq.rfl, Bool.not_true, Bool.false_eq_true, if_false]
    exact ih
theorem eq_idE (w : World) (d : Nat) {xs : List Int} (hx : xs.length = 32) : (Op.equalIn (d + 2) 31 (.agg (cellsK .u8 xs).toArray) (.agg (cellsK .u8 xs).toArray)).run Tryz.prog w = .ok true w := by
  obtain ⟨i, _, hi, _⟩ := info8
  have hce : Tryz.prog.cellsOf 5 = 1 := by kernel_rfl
  have h := run_eqItems_sameE (P := Tryz.prog) w d 5 .u8 Tryz.underlying5 (by kernel_rfl) xs (List.range 32) (fun i hi => by have := List.mem_range.1 hi; omega)
  rw [show d + 2 = (d + 1) + 1 from rfl, run_equalIn_array (P := Tryz.prog) w (d + 1) _ _ Tryz.underlying31 hi, hce, h]
set_option maxRecDepth 100000 in
theorem agg_idE (w : World) : (isAgg 31).run Tryz.prog w = .ok true w := by kernel_rfl
set_option maxRecDepth 100000 in
theorem size_idE (w : World) : (Go.sizeOf 31).run Tryz.prog w = .ok 32 w := by kernel_rfl
set_option maxRecDepth 100000 in
theorem pk_int : Tryz.prog.plainKey 3 = true := by kernel_rfl
set_option maxRecDepth 100000 in
theorem pk_str : Tryz.prog.plainKey 9 = true := by kernel_rfl
theorem oeqF_same {P : Program} {w : World} {d : Nat} {X : Array Value} : ∀ (fs : List Field) (L : List (Bool × Nat × Nat)), fs.map (fun f => (f.name == "_", f.type, f.offset)) = L →
    (∀ q ∈ L, q.1 = false ∧ ∃ x, (part q.2.1 X q.2.2).run P w = .ok x w ∧ (Op.equalIn d q.2.1 x x).run P w = .ok true w) → (Op.eqFields d X X fs).run P w = .ok true w
  | [], _, _, _ => by simp [Op.eqFields]
  | f :: fs, L, hm, h => by
    subst hm
    obtain ⟨h1, x, h2, h3⟩ := h _ (List.mem_cons_self)
    exact oeqF_cons h1 h2 h2 h3 (oeqF_same fs _ rfl fun q hq => h q (List.mem_cons_of_mem _ hq))
theorem exec_eqlE {P : Program} (t : TypeId) (hg : P.eqGuardType P.depth t = false) {a : Act} {o : Oper} {x y : Operand} {t' : TypeId} (ho : o.op = .binOp .eql t x y t') {X Y : Array Value} (hx : a.eval x = .agg X) (hy : a.eval y = .agg Y) {q : Bool} {W : World} (hE : (Op.equalIn 10000 t (.agg X) (.agg Y)).run P W = .ok q W) : (execOp a.eval o).run P W = .ok (.value (.bool q)) W := by
  unfold execOp
  rw [ho]
  simp only [hx, hy, Sem.run_bind, run_eqGuard_agg W .eql t x y X Y hg, Result.andThen_ok, run_eql_struct W t X Y, hE, Sem.run_pure]
theorem wp_exec {P : Program} {op : Oper} {a : Act} {w : World} {K : Act → World → Prop} {Q : Exit → Act → World → Prop} {v : Value} (h : (execOp a.eval op).run P w = .ok (.value v) w) (hk : K (a.put op.dst v) w) : op.wp P a w K Q := by
  unfold Oper.wp
  rw [h]
  exact hk
end Go.Proofs.YtkbalngddlhlpaaGreatDoor
