/-
  number, firstSlot.
-/
import Derived.Test.YthkaohkondkhgaaDoorI8
namespace Go.Proofs.YthkaohkondkhgaaDoor
open Go.RowKit

theorem bigT_bound {xs : List Int} (hA : AllIn 0 256 xs) (t : Nat) : ∀ n, 0 ≤ Nu.bigT xs t n ∧ Nu.bigT xs t n < 256 ^ n := by
  intro n
  have key : ∀ (l : List Int), AllIn 0 256 l → ∀ a : Int, 0 ≤ a → ∀ m : Int, 0 ≤ m → a < m → 0 ≤ Nu.bigV a l ∧ Nu.bigV a l < m * 256 ^ l.length := by
    intro l
    induction l with
    | nil => intro _ a h0 m _ h1; simpa [Nu.bigV] using ⟨h0, h1⟩
    | cons x l ih =>
      intro hl a h0 m hm h1
      have hx := hl x List.mem_cons_self
      have := ih (fun y hy => hl y (List.mem_cons_of_mem _ hy)) (a * 256 + x) (by omega) (m * 256) (by omega) (by omega)
      unfold Nu.bigV
      rw [List.length_cons, Int.pow_succ]
      rw [Int.mul_assoc, Int.mul_comm 256 (256 ^ l.length)] at this
      exact this
  unfold Nu.bigT
  have h := key ((xs.drop t).take n) (AllIn.take (hA.drop t) n) 0 (by omega) 1 (by omega) (by omega)
  have hle : ((xs.drop t).take n).length ≤ n := by simp; omega
  rw [Int.one_mul] at h
  refine ⟨h.1, Int.lt_of_lt_of_le h.2 ?_⟩
  have := Nat.pow_le_pow_right (show 0 < 256 by omega) hle
  have h2 : ∀ k : Nat, ((256 ^ k : Nat) : Int) = (256 : Int) ^ k := fun k => Int.natCast_pow 256 k
  rw [← h2, ← h2]
  exact Int.ofNat_le.2 this
set_option maxHeartbeats 1000000 in
set_option maxRecDepth 100000 in
theorem number_any {S : Nat → Prop} (v : Value) (xs : List Int) (t n : Nat) (w : World) (h : Rd .u8 S w v xs) (hA : AllIn 0 256 xs) (hn : 1 ≤ n) (hn4 : n ≤ 4) (ht : t + n ≤ xs.length) (hl : xs.length + 20 ≤ 140737488355328) :
    Calls Tryd.prog 73 #[v, .int .i64 t, .int .i64 n] w fun e w' => e = .returned (.int .i64 (Nu.bigT xs t n)) ∧ w' = w := by
  obtain ⟨b, off, c, rfl, hlt, hlc, hcm, -, hc⟩ := h.open (by omega)
  have KC := Kept.mk (Nu.big_ok b off c xs t n w hn (by omega) ht hl hA hc)
  have hbd := bigT_bound hA t n
  have hp : (256 : Int) ^ n ≤ 4294967296 := by
    rcases (by omega : n = 1 ∨ n = 2 ∨ n = 3 ∨ n = 4) with rfl | rfl | rfl | rfl <;> decide
  have hw : IntKind.i64.wrap (Nu.bigT xs t n) = Nu.bigT xs t n := wr64 (by omega) (by omega)
  clear h hc hbd hp
  generalize Nu.bigT xs t n = T at *
  go_enter Tryd.func73, Tryd.ntmps73
  go_wp2_with fail
  refine Calls.mono KC.out (fun e w1 hp => ?_)
  obtain ⟨rfl, rfl⟩ := hp
  go_wp2
  go_ret
  exact ⟨rfl, rfl⟩
/-- Where a slot's path ends. -/
def endF (xs : List Int) : Nat := min xs.length (74 + (Nu.bigT xs 72 2).toNat % 4096)
/-- The slot at the front of bytes. -/
def fsF (xs : List Int) : SlC := ⟨strOfNums ((xs.take (endF xs)).drop 74), (Nu.bigT xs 72 2) / 4096, Nu.bigT xs 24 4, (xs.take 72).drop 40, Nu.bigT xs 36 4, Nu.bigT xs 8 4⟩
def zS : SlC := ⟨⟨#[]⟩, 0, 0, List.replicate 32 0, 0, 0⟩
theorem zS_ok : zS.ok := ⟨rfl, (fun x hx => by unfold zS at hx; simp at hx; omega), by unfold i64B zS; decide, by unfold i64B zS; decide, by unfold i64B zS; decide, by unfold i64B zS; decide, by unfold zS; decide⟩
theorem zS_cells : (#[.string ⟨#[]⟩, .int .i64 0, .int .i64 0, .int .u8 0, .int .u8 0, .int .u8 0, .int .u8 0, .int .u8 0, .int .u8 0, .int .u8 0, .int .u8 0, .int .u8 0, .int .u8 0, .int .u8 0, .int .u8 0, .int .u8 0, .int .u8 0, .int .u8 0, .int .u8 0, .int .u8 0, .int .u8 0, .int .u8 0, .int .u8 0, .int .u8 0, .int .u8 0, .int .u8 0, .int .u8 0, .int .u8 0, .int .u8 0, .int .u8 0, .int .u8 0, .int .u8 0, .int .u8 0, .int .u8 0, .int .u8 0, .int .i64 0, .int .i64 0] : Array Value) = zS.l.toArray := rfl
/-- The block of a slot of noughts. -/
theorem box_zero (w : World) : ∃ w0, w.alloc (.cells #[.string ⟨#[]⟩, .int .i64 0, .int .i64 0, .int .u8 0, .int .u8 0, .int .u8 0, .int .u8 0, .int .u8 0, .int .u8 0, .int .u8 0, .int .u8 0, .int .u8 0, .int .u8 0, .int .u8 0, .int .u8 0, .int .u8 0, .int .u8 0, .int .u8 0, .int .u8 0, .int .u8 0, .int .u8 0, .int .u8 0, .int .u8 0, .int .u8 0, .int .u8 0, .int .u8 0, .int .u8 0, .int .u8 0, .int .u8 0, .int .u8 0, .int .u8 0, .int .u8 0, .int .u8 0, .int .u8 0, .int .u8 0, .int .i64 0, .int .i64 0] 41) = w0 ∧ Below w.heap.size w w0 ∧ w0.heap.size = w.heap.size + 1 ∧ w0.heap[w.heap.size]? = some (.cells zS.l.toArray 41) :=
  ⟨_, rfl, (Below.refl _ _).alloc (Nat.le_refl _) _, by simp, heap_alloc_new w _⟩
theorem fold_setE (off : Nat) : ∀ (L : List Value) (k : Nat) (C : Array Value), (L.zipIdx k).foldl (fun cs (x : Value × Nat) => cs.setIfInBounds (off + x.2) x.1) C = Sh.setL C (off + k) L
  | [], _, _ => rfl
  | v :: L, k, C => by
    rw [List.zipIdx_cons, List.foldl_cons, fold_setE off L (k + 1)]
    rfl
theorem setE_mid : ∀ (vs pre mid suf : List Value), mid.length = vs.length → Sh.setL (pre ++ mid ++ suf).toArray pre.length vs = (pre ++ vs ++ suf).toArray
  | [], pre, mid, suf, h => by
    have : mid = [] := List.eq_nil_of_length_eq_zero (by simpa using h)
    subst this
    rfl
  | v :: vs, pre, mid, suf, h => by
    cases mid with
    | nil => simp at h
    | cons s mid =>
      have e : (pre ++ s :: mid ++ suf).toArray.setIfInBounds pre.length v = ((pre ++ [v]) ++ mid ++ suf).toArray := by simp
      have ih := setE_mid vs (pre ++ [v]) mid suf (by simpa using h)
      rw [Sh.setL, e]
      simp only [List.length_append, List.length_singleton] at ih
      rw [ih]
      simp
theorem fillE_cons (place : Nat → Option (Nat × Nat)) (i : Nat) (v : Value) (rest : List (Nat × Value)) (pre mid suf cs : List Value) (hp : place i = some (pre.length, mid.length)) (hc : v.cells = cs.toArray) (hl : cs.length = mid.length) :
    Instr.fill place (pre ++ mid ++ suf).toArray ((i, v) :: rest) = Instr.fill place (pre ++ cs ++ suf).toArray rest := by
  have h1 : v.cells.size = mid.length := by rw [hc, List.size_toArray, hl]
  have h2 : ¬ (v.cells.size ≠ mid.length || pre.length + v.cells.size > (pre ++ mid ++ suf).toArray.size) = true := by
    rw [h1]
    simp
  have h3 : v.cells.zipIdx.foldl (fun cs (x : Value × Nat) => cs.setIfInBounds (pre.length + x.2) x.1) (pre ++ mid ++ suf).toArray = (pre ++ cs ++ suf).toArray := by
    have := fold_setE pre.length cs 0 (pre ++ mid ++ suf).toArray
    rw [Nat.add_zero, setE_mid cs pre mid suf hl.symm] at this
    rw [← this, hc, ← Array.foldl_toList]
    simp
  rw [← h3]
  conv => lhs; rw [Instr.fill]
  rw [hp]
  simp only
  rw [if_neg h2]
theorem results_row1 {P : Program} {fn : Func} {p : Tmp} {ty : TypeId} (h : fn.results = #[.cell p ty]) (tmps : Array Value) (w : World) (g : Nat) (t : TypeId) (cs : Array Value) (fr : Nat × Nat) (d : TypeDesc)
    (hp : tmps.getD p undef = .pointer (some ⟨g, 0, none⟩)) (hg : w.heap[g]? = some (.cells cs t fr)) (hu : P.underlying ty = some d) (hd : (match d with | .struct _ | .array _ _ => true | _ => false) = true) (hi : (P.info? ty).map (·.size) = some cs.size) :
    (results fn tmps).run P w = .ok (.agg cs) w := by
  have hp' : tmps[p]?.getD undef = .pointer (some ⟨g, 0, none⟩) := by rw [← Array.getD_eq_getD_getElem?]; exact hp
  simp only [results, h]
  simp [hp']
  simp only [asAddr, Sem.run_pure, Result.andThen_ok, run_loadVar_row w g t ty cs fr d hg hu hd hi]
set_option maxRecDepth 100000 in
/-- Bytes cut out. -/
theorem cut_mid (g L c lo hi : Nat) (h1 : lo ≤ hi) (h2 : hi ≤ c) (h3 : lo < c) (off : Nat) (W : World) : (Instr.sliceAt 25 (.slice (some ⟨g, off, none⟩) L c) (some (.int .i64 lo)) (some (.int .i64 hi)) none).run Tryd.prog W = .ok (.slice (some ⟨g, off + lo, none⟩) (hi - lo) (c - lo)) W := by
  have hs : (sizeOf (Tryd.prog.elem 25)).run Tryd.prog W = .ok 1 W := rfl
  rw [run_sliceAt_slice (P := Tryd.prog) W 25 _ _ _ _ Tryd.underlying25, run_slice_lh (P := Tryd.prog) W 25 (some ⟨g, off, none⟩) L c Tryd.underlying25 .i64 .i64 lo hi (by omega) (by omega) (by omega), hs]
  have hne : ¬ c = lo := by omega
  simp [sliced, Result.andThen, hne, add_plain]
set_option maxRecDepth 100000 in
theorem arrayAt_id (g off c : Nat) (W : World) : (Instr.arrayAt 39 (.slice (some ⟨g, off, none⟩) 32 c)).run Tryd.prog W = .ok (.pointer (some ⟨g, off, none⟩)) W := by
  unfold Instr.arrayAt
  simp [run_underlying Tryd.underlying39]
set_option maxRecDepth 100000 in
theorem builtZ (X0 X1 X2 X3 X4 X5 : Value) : Tryd.prog.built 41 [(0, X0), (1, X1), (2, X2), (3, X3), (4, X4), (5, X5)] = Instr.fill ((#[(0, 1), (1, 1), (2, 1), (3, 32), (35, 1), (36, 1)] : Array (Nat × Nat))[·]?) zS.l.toArray [(0, X0), (1, X1), (2, X2), (3, X3), (4, X4), (5, X5)] := by kernel_rfl
theorem fillZ_six (e : SlC) (h : e.ids.length = 32) : Instr.fill ((#[(0, 1), (1, 1), (2, 1), (3, 32), (35, 1), (36, 1)] : Array (Nat × Nat))[·]?) zS.l.toArray [(0, .string e.pt), (1, .int .i64 e.st), (2, .int .i64 e.md), (3, .agg (cellsK .u8 e.ids).toArray), (4, .int .i64 e.sz), (5, .int .i64 e.tm)] = some e.l.toArray := by
  have e0 : zS.l = [] ++ [Value.string ⟨#[]⟩] ++ (Value.int .i64 0 :: Value.int .i64 0 :: (cellsK .u8 (List.replicate 32 0) ++ [Value.int .i64 0, Value.int .i64 0])) := rfl
  rw [e0, fillE_cons _ 0 _ _ [] [Value.string ⟨#[]⟩] _ [Value.string e.pt] rfl rfl rfl]
  have e1 : [] ++ [Value.string e.pt] ++ (Value.int .i64 0 :: Value.int .i64 0 :: (cellsK .u8 (List.replicate 32 0) ++ [Value.int .i64 0, Value.int .i64 0])) = [Value.string e.pt] ++ [Value.int .i64 0] ++ (Value.int .i64 0 :: (cellsK .u8 (List.replicate 32 0) ++ [Value.int .i64 0, Value.int .i64 0])) := rfl
  rw [e1, fillE_cons _ 1 _ _ [Value.string e.pt] [Value.int .i64 0] _ [Value.int .i64 e.st] rfl rfl rfl]
  have e2 : [Value.string e.pt] ++ [Value.int .i64 e.st] ++ (Value.int .i64 0 :: (cellsK .u8 (List.replicate 32 0) ++ [Value.int .i64 0, Value.int .i64 0])) = [Value.string e.pt, Value.int .i64 e.st] ++ [Value.int .i64 0] ++ (cellsK .u8 (List.replicate 32 0) ++ [Value.int .i64 0, Value.int .i64 0]) := rfl
  rw [e2, fillE_cons _ 2 _ _ [Value.string e.pt, Value.int .i64 e.st] [Value.int .i64 0] _ [Value.int .i64 e.md] rfl rfl rfl]
  have e3 : [Value.string e.pt, Value.int .i64 e.st] ++ [Value.int .i64 e.md] ++ (cellsK .u8 (List.replicate 32 0) ++ [Value.int .i64 0, Value.int .i64 0]) = [Value.string e.pt, Value.int .i64 e.st, Value.int .i64 e.md] ++ cellsK .u8 (List.replicate 32 0) ++ [Value.int .i64 0, Value.int .i64 0] := by simp
  rw [e3, fillE_cons _ 3 _ _ [Value.string e.pt, Value.int .i64 e.st, Value.int .i64 e.md] (cellsK .u8 (List.replicate 32 0)) _ (cellsK .u8 e.ids) rfl rfl (by rw [cellsK_length, cellsK_length, h]; rfl)]
  have e4 : [Value.string e.pt, Value.int .i64 e.st, Value.int .i64 e.md] ++ cellsK .u8 e.ids ++ [Value.int .i64 0, Value.int .i64 0] = ([Value.string e.pt, Value.int .i64 e.st, Value.int .i64 e.md] ++ cellsK .u8 e.ids) ++ [Value.int .i64 0] ++ [Value.int .i64 0] := by simp
  rw [e4, fillE_cons _ 4 _ _ ([Value.string e.pt, Value.int .i64 e.st, Value.int .i64 e.md] ++ cellsK .u8 e.ids) [Value.int .i64 0] _ [Value.int .i64 e.sz] (by rw [List.length_append, cellsK_length, h]; rfl) rfl rfl]
  have e5 : ([Value.string e.pt, Value.int .i64 e.st, Value.int .i64 e.md] ++ cellsK .u8 e.ids) ++ [Value.int .i64 e.sz] ++ [Value.int .i64 0] = ([Value.string e.pt, Value.int .i64 e.st, Value.int .i64 e.md] ++ cellsK .u8 e.ids ++ [Value.int .i64 e.sz]) ++ [Value.int .i64 0] ++ [] := by simp
  rw [e5, fillE_cons _ 5 _ _ ([Value.string e.pt, Value.int .i64 e.st, Value.int .i64 e.md] ++ cellsK .u8 e.ids ++ [Value.int .i64 e.sz]) [Value.int .i64 0] [] [Value.int .i64 e.tm] (by rw [List.length_append, List.length_append, cellsK_length, h]; rfl) rfl rfl]
  unfold Instr.fill SlC.l
  simp
set_option maxHeartbeats 1000000 in
set_option maxRecDepth 100000 in
theorem firstSlot_any {S : Nat → Prop} (v : Value) (xs : List Int) (w : World) (h : Rd .u8 S w v xs) (hA : AllIn 0 256 xs) (h80 : 80 ≤ xs.length) (hl : xs.length ≤ 3000000) :
    Calls Tryd.prog 55 #[v] w fun e w' => e = .returned (.agg (fsF xs).l.toArray) ∧ Below w.heap.size w w' := by
  obtain ⟨b, off, c, rfl, hlt, hlc, hcm, -, hc⟩ := h.open (by omega)
  obtain ⟨w0, hw0, hB0, hz0, hb0⟩ := box_zero w
  have h0 := h.later hB0 (Nat.le_refl _)
  have KN8 : Kept (∀ m, Calls Tryd.prog 73 #[.slice (some ⟨b, off, none⟩) xs.length c, .int .i64 8, .int .i64 4] (w0.drewN m) fun e w' => e = .returned (.int .i64 (Nu.bigT xs 8 4)) ∧ w' = w0.drewN m) := ⟨fun m => number_any _ xs 8 4 (w0.drewN m) (show Rd .u8 S (w0.drewN m) _ xs from h0) hA (by omega) (by omega) (by omega) (by omega)⟩
  have KN24 : Kept (∀ m, Calls Tryd.prog 73 #[.slice (some ⟨b, off, none⟩) xs.length c, .int .i64 24, .int .i64 4] (w0.drewN m) fun e w' => e = .returned (.int .i64 (Nu.bigT xs 24 4)) ∧ w' = w0.drewN m) := ⟨fun m => number_any _ xs 24 4 (w0.drewN m) (show Rd .u8 S (w0.drewN m) _ xs from h0) hA (by omega) (by omega) (by omega) (by omega)⟩
  have KN36 : Kept (∀ m, Calls Tryd.prog 73 #[.slice (some ⟨b, off, none⟩) xs.length c, .int .i64 36, .int .i64 4] (w0.drewN m) fun e w' => e = .returned (.int .i64 (Nu.bigT xs 36 4)) ∧ w' = w0.drewN m) := ⟨fun m => number_any _ xs 36 4 (w0.drewN m) (show Rd .u8 S (w0.drewN m) _ xs from h0) hA (by omega) (by omega) (by omega) (by omega)⟩
  have hcb := bigT_bound hA 72 2
  obtain ⟨C, hC⟩ : ∃ C : Nat, Nu.bigT xs 72 2 = (C : Int) := ⟨(Nu.bigT xs 72 2).toNat, by omega⟩
  have KC : Kept (Calls Tryd.prog 73 #[.slice (some ⟨b, off, none⟩) xs.length c, .int .i64 72, .int .i64 2] w0 fun e w' => e = .returned (.int .i64 (C : Int)) ∧ w' = w0) := ⟨by rw [← hC]; exact number_any _ xs 72 2 w0 h0 hA (by omega) (by omega) (by omega) (by omega)⟩
  rw [hC] at hcb
  have hC2 : C < 65536 := by omega
  have hE : endF xs ≤ xs.length ∧ 74 ≤ endF xs := by unfold endF; omega
  have hEi : min (xs.length : Int) (74 + (C : Int) % 4096) = (endF xs : Int) := by
    unfold endF
    rw [hC]
    omega
  obtain ⟨E, hEq⟩ : ∃ E, endF xs = E := ⟨_, rfl⟩
  rw [hEq] at hE hEi
  obtain ⟨a1, ha1, hrd1⟩ := h0.piece (i := 74) (j := E) hE.2 hE.1
  have hx : ¬ xs = [] := by intro h; rw [h] at h80; simp at h80
  obtain rfl : a1 = some ⟨b, off + 74, none⟩ := by rcases ha1 b off rfl with h | h; exact h; exact absurd h hx
  obtain ⟨a2, ha2, hrd2⟩ := h0.piece (i := 40) (j := 72) (by omega) (by omega)
  obtain rfl : a2 = some ⟨b, off + 40, none⟩ := by rcases ha2 b off rfl with h | h; exact h; exact absurd h hx
  have KSt : Kept (∀ m, (convert 25 9 (.slice (some ⟨b, off + 74, none⟩) (E - 74) (c - 74))).run Tryd.prog (w0.drewN m) = .ok (.string (strOfNums ((xs.take E).drop 74))) (w0.drewN m)) := ⟨fun m => Rd.str Tryd.underlying25 Tryd.underlying5 (show Rd .u8 S (w0.drewN m) _ _ from hrd1) 9 Tryd.underlying9⟩
  have hidl : ((xs.take 72).drop 40).length = 32 := by rw [List.length_drop, List.length_take]; omega
  have KId : Kept (∀ W, (∃ m, W = w0.drewN m) → W.rangeAt b (off + 40) (cellsK .u8 ((xs.take 72).drop 40))) := ⟨fun W hW j u hu => by
    obtain ⟨m, rfl⟩ := hW
    obtain ⟨hj, rfl⟩ := cellsK_get hu
    obtain ⟨b', off', c', hv', -, -, -, -, hcc⟩ := hrd2.open (by omega)
    simp at hv'
    obtain ⟨⟨rfl, rfl⟩, -⟩ := hv'
    exact hcc j hj⟩
  have KIdI : Kept ((Tryd.prog.info? 39).map (·.size) = some (cellsK .u8 ((xs.take 72).drop 40)).length) := ⟨by rw [cellsK_length, hidl]; exact info_id⟩
  have KCt1 : Kept (∀ W, (Instr.sliceAt 25 (.slice (some ⟨b, off, none⟩) xs.length c) (some (.int .i64 74)) (some (.int .i64 (E : Int))) none).run Tryd.prog W = .ok (.slice (some ⟨b, off + 74, none⟩) (E - 74) (c - 74)) W) := ⟨fun W => cut_mid b xs.length c 74 E hE.2 (by omega) (by omega) off W⟩
  have KCt2 : Kept (∀ W, (Instr.sliceAt 25 (.slice (some ⟨b, off, none⟩) xs.length c) (some (.int .i64 40)) (some (.int .i64 72)) none).run Tryd.prog W = .ok (.slice (some ⟨b, off + 40, none⟩) 32 (c - 40)) W) := ⟨fun W => cut_mid b xs.length c 40 72 (by omega) (by omega) (by omega) off W⟩
  have KB : Kept (∀ W, (Instr.build 41 #[(0, .string (strOfNums ((xs.take E).drop 74))), (1, .int .i64 ((C : Int) / 4096)), (2, .int .i64 (Nu.bigT xs 24 4)), (3, .agg (cellsK .u8 ((xs.take 72).drop 40)).toArray), (4, .int .i64 (Nu.bigT xs 36 4)), (5, .int .i64 (Nu.bigT xs 8 4))]).run Tryd.prog W = .ok (.agg (fsF xs).l.toArray) W) := ⟨fun W => run_build (P := Tryd.prog) W 41 _ _ (by
    have h1 := fillZ_six (fsF xs) hidl
    have h2 := builtZ (.string (fsF xs).pt) (.int .i64 (fsF xs).st) (.int .i64 (fsF xs).md) (.agg (cellsK .u8 (fsF xs).ids).toArray) (.int .i64 (fsF xs).sz) (.int .i64 (fsF xs).tm)
    rw [h1] at h2
    unfold fsF at h2 ⊢
    rw [hEq, hC] at h2 ⊢
    exact h2)⟩
  have KFl : Kept ((fsF xs).l.toArray.size = 37) := ⟨by rw [List.size_toArray]; unfold SlC.l; simp [cellsK]; exact hidl⟩
  have KFi : Kept ((Tryd.prog.info? 41).map (·.size) = some (fsF xs).l.toArray.size) := ⟨by rw [KFl.out]; exact infoZ37⟩
  have KFo : Kept ((fsF xs).l.toArray.all (·.oneCell') = true) := ⟨by rw [Array.all_eq_true_iff_forall_mem]; intro x hx; exact SlC.ones _ x (by simpa using hx)⟩
  have Kb0 := Kept.mk hb0
  have KB0 := Kept.mk hB0
  clear hcb hrd1 hrd2 ha1 ha2 hx hb0 hB0 h h0 hc hA
  generalize (fsF xs).l.toArray = FL at *
  generalize strOfNums ((xs.take E).drop 74) = PT at *
  generalize cellsK .u8 ((xs.take 72).drop 40) = IDC at *
  generalize Nu.bigT xs 8 4 = T8 at *
  generalize Nu.bigT xs 24 4 = T24 at *
  generalize Nu.bigT xs 36 4 = T36 at *
  go_enter Tryd.func55, Tryd.ntmps55
  go_wp2_with fail
  try rw [hw0]
  refine Calls.mono KC.out (fun e w1 hp => ?_)
  obtain ⟨rfl, rfl⟩ := hp
  clear KC hw0
  go_upto_region 3 with fail
  try rw [hEi]
  refine wp_region_last _ 17 (by kernel_rfl) (by kernel_rfl) rfl rfl ?_
  simp only [List.take_succ_cons, List.take_zero]
  go_big_quiet_step (fail)
  go_big_quiet_step (fail)
  refine wpQuiet_slice 25 _ _ _ _ rfl rfl KCt1.out ?_
  simp only [Act.put, List.setIfInBounds_toArray, List.set_cons_zero, List.set_cons_succ]
  refine BigFrame.wpQuiet_want rfl (fun K hK => quiet_run (v := .string PT) (fun W hW => by obtain ⟨m, rfl⟩ := hW; unfold execOp; simp only [Sem.run_bind]; exact congrArg (fun r => Result.andThen r _) (KSt.out m)) (hK _ ?_))
  clear hK K
  simp only [Act.put, List.setIfInBounds_toArray, List.set_cons_zero, List.set_cons_succ]
  go_big_quiet_step (fail)
  go_big_quiet_step (fail)
  go_big_quiet_step (fail)
  go_big_quiet_step ((exact Calls.quiet_of_same (KN24.out _)))
  go_big_quiet_step (fail)
  refine wpQuiet_slice 25 _ _ _ _ rfl rfl KCt2.out ?_
  simp only [Act.put, List.setIfInBounds_toArray, List.set_cons_zero, List.set_cons_succ]
  refine BigFrame.wpQuiet_want rfl (fun K hK => quiet_run (v := .pointer (some ⟨b, off + 40, none⟩)) (fun W hW => by unfold execOp; simp only [Sem.run_bind]; exact congrArg (fun r => Result.andThen r _) (arrayAt_id b (off + 40) (c - 40) W)) (hK _ ?_))
  clear hK K
  simp only [Act.put, List.setIfInBounds_toArray, List.set_cons_zero, List.set_cons_succ]
  refine BigFrame.wpQuiet_want rfl (fun K hK => quiet_load_mid 39 _ rfl b (off + 40) rfl IDC _ KId.out Tryd.underlying39 rfl KIdI.out (hK _ ?_))
  clear hK K
  simp only [Act.put, List.setIfInBounds_toArray, List.set_cons_zero, List.set_cons_succ]
  go_big_quiet_step (fail)
  go_big_quiet_step ((exact Calls.quiet_of_same (KN36.out _)))
  go_big_quiet_step (fail)
  go_big_quiet_step ((exact Calls.quiet_of_same (KN8.out _)))
  refine BigFrame.wpQuiet_want rfl (fun K hK => quiet_run (v := .agg FL) (fun W hW => by unfold execOp; simp only [Sem.run_bind, List.map_toArray, List.map_cons, List.map_nil]; exact congrArg (fun r => Result.andThen r _) (KB.out W)) (hK _ ?_))
  clear hK K
  simp only [Act.put, List.setIfInBounds_toArray, List.set_cons_zero, List.set_cons_succ]
  refine wpQuiet_nil ?_
  intro m
  refine wp_store_row 41 _ _ rfl w.heap.size FL rfl rfl 41 _ (show (w1.drewN m).heap[w.heap.size]? = _ from Kb0.out) KFi.out (by rw [KFl.out]; rfl) KFo.out ?_
  have Krow : Kept (((w1.drewN m).setRow w.heap.size FL).heap[w.heap.size]? = some (.cells FL 41 (0, 0))) := ⟨setRow_heap (w1.drewN m) w.heap.size _ _ _ _ (show (w1.drewN m).heap[w.heap.size]? = _ from Kb0.out)⟩
  have KBe := Kept.mk (below_setRow (below_drewN KB0.out m) (Nat.le_refl _) FL)
  generalize (w1.drewN m).setRow w.heap.size FL = W9 at *
  simp only [Act.put]
  go_wp2
  refine bodyPost_ret (results_row1 rfl _ _ w.heap.size 41 FL (0, 0) _ rfl Krow.out Tryd.underlying41 rfl KFi.out) rfl ?_
  exact ⟨rfl, KBe.out⟩
end Go.Proofs.YthkaohkondkhgaaDoor
