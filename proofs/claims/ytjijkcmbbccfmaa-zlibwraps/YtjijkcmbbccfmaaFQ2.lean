/-
  A region that draws its order, in a class of worlds: reads and calls that make memory, then one operation; maps keyed by three bytes.
-/
import Derived.Test.YtjijkcmbbccfmaaF28
import Derived.Maps.OwnSet
import Derived.Maps.Ext
import Derived.Laws.Cover3
import Derived.DeepKeys4
import Derived.WideKeyArr
namespace Go.Proofs.Ytjijkcmbbccfmaa
open Go.RowKit Go.WideMaps

/-- The worlds in which all that lay in W lies as it lay. -/
def CC (W w' : World) : Prop := Below W.heap.size W w'
theorem CC.refl (W : World) : CC W W := Below.refl _ _
theorem CC.on {W w' w'' : World} (h : CC W w') (hb : Below w'.heap.size w' w'') : CC W w'' := Below.trans h (hb.mono (Below.size h))
theorem CC.cell {W w' : World} (h : CC W w') {p : Addr} (hp : p.block < W.heap.size) : w'.cell? p = W.cell? p := Below.cell h hp
theorem quiet_run {P : Program} {C : World → Prop} {K : Act → Prop} {o : Oper} {a : Act} {v : Value} (h : ∀ w, C w → (execOp a.eval o).run P w = .ok (.value v) w) (hk : K (a.put o.dst v)) : o.quiet P a C K :=
  ⟨v, fun w hw => by
    unfold Oper.quietAt
    rw [h w hw]
    exact ⟨rfl, rfl⟩, hk⟩
/-- **The law** of a region whose last operation waits for all others, in a class. -/
theorem wp_region_lastC {P : Program} {C : World → Prop} {id : Nat} {Q : Exit → Act → World → Prop} {a : Act} {w : World} {l : List Oper} (o : Oper) (n : Nat) (hm : P.follows .mixedOrders = true) (hB : lastB l.toArray n = true) (ho : l[n]? = some o) (hg : o.guard = none) (hC : C { w with drawn := w.drawn + 1 })
    (h : wpQuiet P l.toArray C (fun a' => ∀ w', C w' → Oper.wp P o a' w' (fun a'' w'' => Q .normal a'' w'') Q) (l.take n) a) : (Code.region id l.toArray true).wp P Q a w := by
  simp only [lastB, Bool.and_eq_true] at hB
  obtain ⟨⟨h1, h2⟩, h3⟩ := hB
  have hz : l.length = n + 1 := by
    simp only [coverB, Bool.and_eq_true, beq_iff_eq] at h2
    simpa using h2.1
  have hlen : (l.take n).length = n := by simp; omega
  refine wp_region_any hm ?_
  have hT := wpAnyT_lex (C := C) (md := .any) (P := P) h2 h1 (l.take n) 0 (Array.replicate l.toArray.size false) a
    (by
      intro j oj _ hl
      rw [Array.getD_eq_getD_getElem?, Array.getElem?_replicate] at hl
      split at hl <;> simp at hl)
    (by
      intro j hj
      rw [hlen] at hj
      simp [hj])
    (by rw [hlen]; exact h3) h
  rw [hlen] at hT
  have := wpAny_of_T (Q' := Q) (C := C) (md := .any) (P := P) (ops := l.toArray) (n := n) (fun a' w' hw' hq => by
    unfold wpOp
    simp only [List.getElem?_toArray, ho]
    rw [if_pos (by simp [Region.wanted, hg])]
    exact .inl (hq w' hw')) n (Array.replicate l.toArray.size false) a { w with drawn := w.drawn + 1 } hC hT
  simpa [hz] using this

theorem wp_region_quietC {P : Program} {C : World → Prop} {id : Nat} {Q : Exit → Act → World → Prop} {a : Act} {w : World} {l : List Oper} (hm : P.follows .mixedOrders = true) (hB : Region.lexB .any l.toArray = true) (hC : C { w with drawn := w.drawn + 1 })
    (h : wpQuiet P l.toArray C (fun a' => ∀ w', C w' → Q .normal a' w') l a) : (Code.region id l.toArray true).wp P Q a w :=
  wp_region_quiet hm hB hC (by simpa using h)

set_option maxRecDepth 100000 in
theorem row3 : (52 : TypeId) < Try.prog.types.size := of_decide_eq_true (by kernel_rfl)
theorem wide3 : (match Try.prog.underlying 52 with | some (.array _ _) | some (.struct _) => true | _ => false) = true := by rw [Try.underlying52]
theorem laidOutF : laidOutB Try.prog = true := by kernel_rfl
set_option maxRecDepth 100000 in
theorem law3 : KeyLaw Try.prog 52 := deep_law_laid laidOutF (m := 2) (by omega) row3 (by kernel_rfl) wide3
theorem keyed3 : Maps.Keyed Try.prog 52 := Maps.Keyed.of_law law3

/-- The key that three bytes are. -/
def aggF (ks : List Int) : Value := .agg (cellsK .u8 ks).toArray
theorem keyType3 : Try.prog.keyType 52 = true := by kernel_rfl
theorem cells3 : Try.prog.cellsOf 52 = 3 := by kernel_rfl
theorem cells1F : Try.prog.cellsOf 5 = 1 := by kernel_rfl
theorem wf_u8F {x : Int} (h0 : 0 ≤ x) (h1 : x < 256) : (Lit.int .u8 x).wf = true := by
  have e1 : IntKind.u8.min = 0 := rfl
  have e2 : IntKind.u8.max = 255 := rfl
  simp only [Lit.wf, e1, e2, Bool.and_eq_true, decide_eq_true_eq]
  omega
def klF (ks : List Int) : Lit := .string (keyBytes (ks.map (Lit.int .u8)))
theorem mapM_someF {α β : Type} (f : α → Option β) (g : α → β) : ∀ (l : List α), (∀ x ∈ l, f x = some (g x)) → l.mapM f = some (l.map g)
  | [], _ => rfl
  | x :: l, h => by
    rw [List.mapM_cons, h x (by simp), mapM_someF f g l (fun y hy => h y (by simp [hy]))]
    rfl
theorem key_some (ks : List Int) (hl : ks.length = 3) (hb : AllB ks) : keyOf Try.prog 52 (aggF ks) = some (klF ks) := by
  obtain ⟨m, hm⟩ : ∃ m, Try.prog.types.size = m + 1 := ⟨_, rfl⟩
  unfold keyOf
  simp only [Try.underlying52]
  rw [if_pos (by simp [keyType3, Value.formed, Try.underlying52, cells3, aggF, cellsK, hl]), hm]
  unfold Program.keyLits
  simp only [Try.underlying52, Value.cells, aggF]
  rw [if_pos (by rw [cells3]; simp [cellsK, hl])]
  rw [mapM_someF _ (fun i => [Lit.int .u8 (ks.getD i 0)]) _ (fun i hi => ?_)]
  · unfold klF
    simp only [Option.map_some]
    congr 3
    have e : ks = (List.range 3).map (fun i => ks.getD i 0) := by
      apply List.ext_getElem?
      intro i
      by_cases hi : i < 3
      · simp [hi, List.getD, List.getElem?_eq_getElem (show i < ks.length by omega)]
      · rw [List.getElem?_eq_none (by omega), List.getElem?_eq_none (by simp; omega)]
    conv => rhs; rw [e]
    simp [List.range, List.range.loop]
  · have hi : i < 3 := by simpa using hi
    have hg := hb.getD (by omega) i
    have hc : ((cellsK .u8 ks).toArray.toList.drop (i * Try.prog.cellsOf 5)).take (Try.prog.cellsOf 5) = [.int .u8 (ks.getD i 0)] := by
      rw [cells1F, Nat.mul_one]
      have e1 : (cellsK .u8 ks).toArray.toList = cellsK .u8 ks := by simp
      rw [e1]
      have hil : i < (cellsK .u8 ks).length := by rw [cellsK_length]; omega
      rw [List.drop_eq_getElem_cons hil, List.take_succ_cons, List.take_zero]
      simp [cellsK, List.getD, List.getElem?_eq_getElem (show i < ks.length by omega)]
    rw [hc]
    unfold Program.keyLits
    simp only [Try.underlying5]
    rw [if_pos ⟨trivial, wf_u8F hg.1 hg.2⟩]
theorem key_inj {ks js : List Int} (hk : ks.length = 3) (hj : js.length = 3) (ak : AllB ks) (aj : AllB js) (h : klF ks = klF js) : ks = js := by
  have h1 := key_some ks hk ak
  have h2 := key_some js hj aj
  rw [h] at h1
  have := keyed3.inj h1 h2
  unfold aggF at this
  simp only [Value.agg.injEq] at this
  have h3 : cellsK .u8 ks = cellsK .u8 js := by simpa using this
  unfold cellsK at h3
  apply List.ext_getElem?
  intro i
  have := congrArg (fun l => l[i]?) h3
  simp only [List.getElem?_map] at this
  rcases h4 : ks[i]? with _ | a <;> rcases h5 : js[i]? with _ | b <;> rw [h4, h5] at this <;> simp at this ⊢
  exact this
theorem isKey3 {ks : List Int} (hl : ks.length = 3) (hb : AllB ks) : WideAt.IsKeyLit (klF ks) := keyed3.key (key_some ks hl hb)
theorem thL_length (p : List Int) (i : Nat) : (thL p i).length = 3 := rfl
theorem thL_all {p : List Int} (h : AllB p) (i : Nat) : AllB (thL p i) := by
  intro x hx
  unfold thL at hx
  simp only [List.mem_cons, List.not_mem_nil, or_false] at hx
  rcases hx with rfl | rfl | rfl <;> exact h.getD (by omega) _

/-- The map holds, for the three bytes of each place, the last place below t that has them. -/
def MapT (p : List Int) (t : Nat) (D : DataW Unit) : Prop :=
  Maps.IsMap D ∧ ∀ i, Maps.has D (klF (thL p i)) = decide (0 < lsF p i t) ∧ (0 < lsF p i t → D.atKey (klF (thL p i)) (.lit (.int .i64 0)) = .lit (.int .i64 ((lsF p i t : Int) - 1)))
theorem mapT_empty (p : List Int) : MapT p 0 (.map []) := ⟨Maps.isMap_empty, fun i => ⟨by simp [Maps.has, lsF], fun h => by simp [lsF] at h⟩⟩
theorem mapT_put {p : List Int} {t : Nat} {D : DataW Unit} (h : MapT p t D) (hb : AllB p) (ht : t + 3 ≤ p.length) : MapT p (t + 1) (D.put (klF (thL p t)) (.lit (.int .i64 t))) := by
  have hk := isKey3 (thL_length p t) (thL_all hb t)
  refine ⟨h.1.put _ _, fun i => ?_⟩
  by_cases he : thL p i = thL p t
  · have e1 : lsF p i (t + 1) = t + 1 := by rw [lsF, if_pos ⟨ht, he.symm⟩]
    rw [he, e1, Maps.has_put_same h.1 hk, Maps.atKey_put_same h.1 hk]
    exact ⟨by simp, fun _ => by congr 2; omega⟩
  · have e1 : lsF p i (t + 1) = lsF p i t := by rw [lsF, if_neg (fun hh => he hh.2.symm)]
    have hne : klF (thL p i) ≠ klF (thL p t) := fun e => he (key_inj (thL_length p i) (thL_length p t) (thL_all hb i) (thL_all hb t) e)
    rw [e1, Maps.has_put_other hne, Maps.atKey_put_other hne]
    exact h.2 i
theorem mapT_skip {p : List Int} {t : Nat} {D : DataW Unit} (h : MapT p t D) (ht : ¬ t + 3 ≤ p.length) : MapT p (t + 1) D := by
  refine ⟨h.1, fun i => ?_⟩
  have e1 : lsF p i (t + 1) = lsF p i t := by rw [lsF, if_neg (fun hh => ht hh.1)]
  rw [e1]
  exact h.2 i
/-- For each told place the last one ahead of it with the same three bytes. -/
def BkT (p : List Int) (t : Nat) (bk : List Int) : Prop := bk.length = p.length ∧ ∀ c, c < t → c + 3 ≤ p.length → bk.getD c 0 = (lsF p c c : Int) - 1
theorem bkT_set {p : List Int} {t : Nat} {bk : List Int} (h : BkT p t bk) (ht : t + 3 ≤ p.length) : BkT p (t + 1) (bk.set t ((lsF p t t : Int) - 1)) := by
  refine ⟨by rw [List.length_set]; exact h.1, fun c hc hc3 => ?_⟩
  have hl := h.1
  by_cases hct : c = t
  · subst hct
    simp [List.getD, show c < bk.length by omega]
  · have := h.2 c (by omega) hc3
    simp only [List.getD, List.getElem?_set] at this ⊢
    rw [if_neg (by omega)]
    exact this
theorem bkT_skip {p : List Int} {t : Nat} {bk : List Int} (h : BkT p t bk) (ht : ¬ t + 3 ≤ p.length) : BkT p (t + 1) bk := by
  refine ⟨h.1, fun c hc hc3 => ?_⟩
  by_cases hct : c = t
  · omega
  · exact h.2 c (by omega) hc3
theorem zeroIF (w : World) : (zeroValue 3).run Try.prog w = .ok (.int .i64 0) w := by kernel_rfl

/-- The finder in memory: its block, the map's and what holds the places ahead. -/
structure Fd (W0 w : World) (fb mb : Nat) (bb : Option Nat) (pv : Value) (p : List Int) (t : Nat) : Prop where
  blk : ∃ (backV : Value) (bk : List Int) (n : Nat) (D : DataW Unit), w.heap[fb]? = some (.cells #[pv, .map (some mb), backV] 48) ∧ w.ownsMap Try.prog 52 (plainElem Try.prog 3) mb n D ∧ n ≤ t ∧ MapT p t D ∧
    Own .i64 3 w W0.heap.size backV bk ∧ backV.ownBlock = bb ∧ BkT p t bk
  fge : W0.heap.size ≤ fb
  mge : W0.heap.size ≤ mb
  fm : fb ≠ mb
  fbb : bb ≠ some fb
  mbb : bb ≠ some mb
  bel : Below W0.heap.size W0 w
section
variable {W0 w : World} {fb mb : Nat} {bb : Option Nat} {pv : Value} {p : List Int} {t : Nat}
theorem ownsMap_far {w w' : World} {mb n : Nat} {D : DataW Unit} (h : w.ownsMap Try.prog 52 (plainElem Try.prog 3) mb n D) (hb : w'.heap[mb]? = w.heap[mb]?) : w'.ownsMap Try.prog 52 (plainElem Try.prog 3) mb n D := by
  obtain ⟨es, clock, h1, h2⟩ := h
  exact ⟨es, clock, by rw [hb]; exact h1, h2⟩
theorem Fd.far {w' : World} (h : Fd W0 w fb mb bb pv p t) (hf : w'.heap[fb]? = w.heap[fb]?) (hm : w'.heap[mb]? = w.heap[mb]?) (hb : ∀ k, bb = some k → w'.heap[k]? = w.heap[k]?) (hbel : Below W0.heap.size W0 w') : Fd W0 w' fb mb bb pv p t := by
  obtain ⟨backV, bk, n, D, h1, h2, h3, h4, h5, h6, h7⟩ := h.blk
  exact ⟨⟨backV, bk, n, D, by rw [hf]; exact h1, ownsMap_far h2 hm, h3, h4, h5.far fun g hg => hb g (by rw [← h6]; exact hg), h6, h7⟩, h.fge, h.mge, h.fm, h.fbb, h.mbb, hbel⟩
theorem heap_lt {w : World} {b : Nat} {o : Obj} (h : w.heap[b]? = some o) : b < w.heap.size := by
  rcases Nat.lt_or_ge b w.heap.size with h' | h'
  · exact h'
  · rw [Array.getElem?_eq_none h'] at h
    cases h
theorem Fd.lt (h : Fd W0 w fb mb bb pv p t) : fb < w.heap.size ∧ mb < w.heap.size ∧ ∀ k, bb = some k → W0.heap.size ≤ k ∧ k < w.heap.size := by
  obtain ⟨backV, bk, n, D, h1, h2, h3, h4, h5, h6, h7⟩ := h.blk
  exact ⟨heap_lt h1, h2.lt, fun k hk => h5.lt k (by rw [h6]; exact hk)⟩
theorem Fd.later {w' : World} (h : Fd W0 w fb mb bb pv p t) (hf : Below w.heap.size w w') : Fd W0 w' fb mb bb pv p t :=
  h.far (hf.block _ h.lt.1) (hf.block _ h.lt.2.1) (fun k hk => hf.block _ (h.lt.2.2 k hk).2) (h.bel.trans (hf.mono h.bel.size))
end
end Go.Proofs.Ytjijkcmbbccfmaa
