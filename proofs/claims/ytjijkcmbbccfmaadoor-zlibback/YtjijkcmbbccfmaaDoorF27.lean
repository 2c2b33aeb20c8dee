/-
  Walks: the program's common.
-/
import Derived.Test.YtjijkcmbbccfmaaDoorF21
import Derived.Maps.OwnSet
import Derived.Maps.Ext
import Derived.Laws.Cover3
import Derived.DeepKeys4
import Derived.WideKeyArr
namespace Go.Proofs.YtjijkcmbbccfmaaDoor
open Go.RowKit

set_option maxHeartbeats 1000000 in
set_option maxRecDepth 100000 in
theorem common_any (fb : Nat) (pv : Value) (p : List Int) (j i F : Nat) (w : World) (hp : Rd .u8 anyB w pv p) (c0 : w.cell? ⟨fb, 0, none⟩ = some pv) (hj : j < i) (hF : i + F ≤ p.length) (hl : p.length ≤ 1073741824) :
    Calls Tryd.prog 63 #[.pointer (some ⟨fb, 0, none⟩), .int .i64 j, .int .i64 i, .int .i64 F] w fun e w' => e = .returned (.int .i64 (cmF p F i j)) ∧ ∃ m, w' = w.drewN m := by
  obtain ⟨pa, pc, rfl, -, -, -⟩ := hp.form
  have KP := Kept.mk hp
  clear hp
  have hpl : (p.length : Int) ≤ 1073741824 := by omega
  go_enter Tryd.func63, Tryd.ntmps63
  go_wp2
  go_loopw [9] (fun nv wr => ∃ n m : Nat, nv = .int .i64 n ∧ n ≤ F ∧ n + cmF p (F - n) (i + n) (j + n) = cmF p F i j ∧ wr = w.drewN m) (fun nv _ => F - (intOf nv).toNat)
  case atStart => exact ⟨0, 0, rfl, Nat.zero_le _, by simp, rfl⟩
  case round =>
    obtain ⟨n, m, rfl, hn, he, rfl⟩ := hrel
    have KE := Kept.mk he
    clear he
    by_cases hnF : n < F
    · have hd1 : decide ((n : Int) < (F : Int)) = true := by simp; omega
      have hd11 : (n : Int) < (F : Int) := by omega
      obtain ⟨b, off, pc2, hs0, -, -, -, -, hcells⟩ := KP.out.open (by omega)
      simp only [Value.slice.injEq, true_and] at hs0
      obtain ⟨rfl, rfl⟩ := hs0
      have ci := hcells (i + n) (by omega)
      have cj := hcells (j + n) (by omega)
      have hwi : IntKind.i64.wrap ((i : Int) + (n : Int)) = (i : Int) + (n : Int) := by rw [IntKind.wrap_i64]; omega
      have hwj : IntKind.i64.wrap ((j : Int) + (n : Int)) = (j : Int) + (n : Int) := by rw [IntKind.wrap_i64]; omega
      have hx0 : (0 : Int) ≤ (i : Int) + (n : Int) := by omega
      have hy0 : (0 : Int) ≤ (j : Int) + (n : Int) := by omega
      have hii : (i : Int) + (n : Int) < (p.length : Int) := by omega
      have hjj : (j : Int) + (n : Int) < (p.length : Int) := by omega
      have hti : ((i : Int) + (n : Int)).toNat = i + n := by omega
      have htj : ((j : Int) + (n : Int)).toNat = j + n := by omega
      clear hcells
      by_cases heq : p.getD (i + n) 0 = p.getD (j + n) 0
      · have hE : Kept (n + 1 + cmF p (F - (n + 1)) (i + (n + 1)) (j + (n + 1)) = cmF p F i j) := ⟨by
          rw [← KE.out, cmF_step p (by omega) heq, show F - n - 1 = F - (n + 1) from by omega, show i + n + 1 = i + (n + 1) from by omega, show j + n + 1 = j + (n + 1) from by omega]
          omega⟩
        rw [heq] at ci
        generalize p.getD (j + n) 0 = y at *
        clear heq
        go_upto_region 2 with fail
        go_quiet (fail)
        go_wp2
        go_roundw
        case rel => exact ⟨n + 1, _, rfl, by omega, hE.out, rfl⟩
        case measure => simp [intOf]; omega
      · have hE : Kept (cmF p F i j = n) := ⟨by rw [← KE.out, cmF_stop p heq]; omega⟩
        have heq2 : ¬ p.getD (j + n) 0 = p.getD (i + n) 0 := fun e => heq e.symm
        have hd3 : (p.getD (j + n) 0 == p.getD (i + n) 0) = false := by simpa using heq2
        generalize p.getD (j + n) 0 = y at *
        generalize p.getD (i + n) 0 = x at *
        clear heq heq2
        go_upto_region 2 with fail
        go_quiet (fail)
        go_wp2
        go_ret
        exact ⟨by rw [hE.out]; rfl, ⟨_, World.drewN_drewN _ _ _⟩⟩
    · have hd1 : decide ((n : Int) < (F : Int)) = false := by simp; omega
      have hd11 : ¬ (n : Int) < (F : Int) := by omega
      have hE : Kept (cmF p F i j = n) := ⟨by
        have : F - n = 0 := by omega
        rw [← KE.out, this, cmF]
        omega⟩
      go_upto_region 2 with fail
      go_quiet (fail)
      go_wp2
      go_ret
      exact ⟨by rw [hE.out]; rfl, ⟨_, rfl⟩⟩

open Go.RowKit

/-- The three bytes at a place. -/
def thL (p : List Int) (i : Nat) : List Int := [p.getD i 0, p.getD (i + 1) 0, p.getD (i + 2) 0]
def Lk (p : List Int) (i c : Nat) : Prop := c + 3 ≤ p.length ∧ thL p c = thL p i
instance (p : List Int) (i c : Nat) : Decidable (Lk p i c) := by unfold Lk; exact inferInstance
/-- One more than the last place below c with the three bytes of i, or 0. -/
def lsF (p : List Int) (i : Nat) : Nat → Nat
  | 0 => 0
  | c + 1 => if Lk p i c then c + 1 else lsF p i c
theorem lsF_le (p : List Int) (i : Nat) : ∀ c, lsF p i c ≤ c
  | 0 => Nat.le_refl _
  | c + 1 => by
    have := lsF_le p i c
    rw [lsF]
    split <;> omega
theorem lsF_lk (p : List Int) (i : Nat) : ∀ {c d : Nat}, lsF p i c = d + 1 → Lk p i d
  | 0, d, h => by simp [lsF] at h
  | c + 1, d, h => by
    rw [lsF] at h
    by_cases hl : Lk p i c
    · rw [if_pos hl] at h
      have : c = d := by omega
      subst this
      exact hl
    · rw [if_neg hl] at h
      exact lsF_lk p i h
theorem lsF_same (p : List Int) {i j : Nat} (h : thL p i = thL p j) : ∀ c, lsF p i c = lsF p j c
  | 0 => rfl
  | c + 1 => by
    have e : Lk p i c = Lk p j c := by unfold Lk; rw [h]
    rw [lsF, lsF, lsF_same p h c]
    simp only [e]
/-- What is alike in three places is like. -/
theorem cmF_three (p : List Int) {F i j : Nat} (h : 3 ≤ cmF p F i j) : thL p j = thL p i := by
  match F with
  | 0 => simp [cmF] at h
  | 1 => have := cmF_le p 1 i j; omega
  | 2 => have := cmF_le p 2 i j; omega
  | F + 3 =>
    rw [cmF] at h
    by_cases h0 : p.getD i 0 = p.getD j 0
    · rw [if_pos h0, cmF] at h
      by_cases h1 : p.getD (i + 1) 0 = p.getD (j + 1) 0
      · rw [if_pos h1, cmF] at h
        by_cases h2 : p.getD (i + 1 + 1) 0 = p.getD (j + 1 + 1) 0
        · unfold thL
          rw [h0, h1, show i + 2 = i + 1 + 1 from rfl, h2]
        · rw [if_neg h2] at h
          omega
      · rw [if_neg h1] at h
        omega
    · rw [if_neg h0] at h
      omega
theorem three_cmF (p : List Int) {F i j : Nat} (hF : 3 ≤ F) (h : thL p j = thL p i) : 3 ≤ cmF p F i j := by
  match F with
  | 0 => omega
  | 1 => omega
  | 2 => omega
  | F + 3 =>
    unfold thL at h
    simp only [List.cons.injEq, and_true] at h
    obtain ⟨h0, h1, h2⟩ := h
    rw [cmF, if_pos h0.symm, cmF, if_pos h1.symm, cmF, if_pos h2.symm]
    omega
theorem cmF_ne (p : List Int) : ∀ {F i j n : Nat}, ¬ p.getD (i + n) 0 = p.getD (j + n) 0 → cmF p F i j ≤ n
  | 0, _, _, _, _ => Nat.zero_le _
  | F + 1, i, j, 0, h => by
    rw [cmF_stop p (i := i) (j := j) h]
    exact Nat.le_refl _
  | F + 1, i, j, n + 1, h => by
    rw [cmF]
    split
    · have := cmF_ne p (F := F) (i := i + 1) (j := j + 1) (n := n) (by rw [show i + 1 + n = i + (n + 1) from by omega, show j + 1 + n = j + (n + 1) from by omega]; exact h)
      omega
    · omega
theorem snF_lk {p : List Int} {i c : Nat} (hc : c < i) (h : 3 ≤ snF p i c) : Lk p i c := by
  have := snF_len p i c
  exact ⟨by omega, cmF_three p h⟩
theorem lk_snF {p : List Int} {i c : Nat} (hi : i + 3 ≤ p.length) (h : Lk p i c) : 3 ≤ snF p i c := three_cmF p (by omega) h.2
/-- Places with other bytes are passed over. -/
theorem mtF_skip (p : List Int) (i : Nat) : ∀ (c best far : Nat), c ≤ i → mtF p i c best far = mtF p i (lsF p i c) best far
  | 0, _, _, _ => rfl
  | c + 1, best, far, hc => by
    by_cases hl : Lk p i c
    · rw [lsF, if_pos hl]
    · rw [lsF, if_neg hl]
      rw [mtF]
      by_cases h3 : i - c ≤ 32768
      · rw [if_pos h3, if_neg (fun h => hl (snF_lk (by omega) h.1))]
        exact mtF_skip p i c best far (by omega)
      · rw [if_neg h3]
        have hle := lsF_le p i c
        cases h4 : lsF p i c with
        | zero => rfl
        | succ d => rw [mtF, if_neg (by omega)]
/-- No match is longer than there is room. -/
theorem mtF_most (p : List Int) (i : Nat) : ∀ (c best far : Nat), min 258 (p.length - i) ≤ best → mtF p i c best far = (best, far)
  | 0, _, _, _ => rfl
  | c + 1, best, far, h => by
    have : snF p i c ≤ min 258 (p.length - i) := cmF_le p _ i c
    rw [mtF]
    split
    · rw [if_neg (by omega)]
      exact mtF_most p i c best far h
    · rfl
theorem mchF_short {p : List Int} {i : Nat} (h : min 258 (p.length - i) < 3) : mchF p i = (0, 0) := by
  have key : ∀ c, mtF p i c 0 0 = (0, 0) := by
    intro c
    induction c with
    | zero => rfl
    | succ c ih =>
      have : snF p i c ≤ min 258 (p.length - i) := cmF_le p _ i c
      rw [mtF]
      split
      · rw [if_neg (by omega)]
        exact ih
      · rfl
  exact key i
theorem mchF_start (p : List Int) (i : Nat) : mtF p i (lsF p i i) 0 0 = mchF p i := (mtF_skip p i i 0 0 (Nat.le_refl _)).symm
/-- A place that is tried. -/
theorem mtF_far {p : List Int} {i d best far : Nat} (h : ¬ i - d ≤ 32768) : mtF p i (d + 1) best far = (best, far) := by rw [mtF, if_neg h]
theorem mtF_better {p : List Int} {i d best far : Nat} (hd : d < i) (h : i - d ≤ 32768) (hi : i + 3 ≤ p.length) (hl : Lk p i d) (hb : best < snF p i d) : mtF p i (d + 1) best far = mtF p i (lsF p d d) (snF p i d) (i - d) := by
  rw [mtF, if_pos h, if_pos ⟨lk_snF hi hl, hb⟩, mtF_skip p i d _ _ (by omega), lsF_same p hl.2.symm]
theorem mtF_worse {p : List Int} {i d best far : Nat} (hd : d < i) (h : i - d ≤ 32768) (hl : Lk p i d) (hb : snF p i d ≤ best) : mtF p i (d + 1) best far = mtF p i (lsF p d d) best far := by
  rw [mtF, if_pos h, if_neg (by omega), mtF_skip p i d _ _ (by omega), lsF_same p hl.2.symm]
theorem snF_ne {p : List Int} {i d best : Nat} (h : ¬ p.getD (d + best) 0 = p.getD (i + best) 0) : snF p i d ≤ best := cmF_ne p (fun e => h e.symm)

open Go.RowKit Go.WideMaps

/-- The worlds in which all that lay in W lies as it lay. -/
def CC (W w' : World) : Prop := Below W.heap.size W w'
theorem CC.refl (W : World) : CC W W := Below.refl _ _
theorem CC.on {W w' w'' : World} (h : CC W w') (hb : Below w'.heap.size w' w'') : CC W w'' := Below.trans h (hb.mono (Below.size h))
theorem CC.cell {W w' : World} (h : CC W w') {p : Addr} (hp : p.block < W.heap.size) : w'.cell? p = W.cell? p := Below.cell h hp
theorem quiet_run {P : Program} {C : World → Prop} {K : Act → Prop} {o : Oper} {a : Act} {v : Value} (h : ∀ w, C w → (execOp a.eval o).run P w = .ok (.value v) w) (hk : K (a.put o.dst v)) : o.quiet P a C K :=
  ⟨v, fun w hw => by
    unfold Oper.quietAt
    rw [h w hw]
    exact ⟨rfl, rfl⟩, hk⟩
/-- **The law** of a region whose last operation waits for all others, in a class. -/
theorem wp_region_lastC {P : Program} {C : World → Prop} {id : Nat} {Q : Exit → Act → World → Prop} {a : Act} {w : World} {l : List Oper} (o : Oper) (n : Nat) (hm : P.follows .mixedOrders = true) (hB : lastB l.toArray n = true) (ho : l[n]? = some o) (hg : o.guard = none) (hC : C { w with drawn := w.drawn + 1 })
    (h : wpQuiet P l.toArray C (fun a' => ∀ w', C w' → Oper.wp P o a' w' (fun a'' w'' => Q .normal a'' w'') Q) (l.take n) a) : (Code.region id l.toArray true).wp P Q a w := by
  simp only [lastB, Bool.and_eq_true] at hB
  obtain ⟨⟨h1, h2⟩, h3⟩ := hB
  have hz : l.length = n + 1 := by
    simp only [coverB, Bool.and_eq_true, beq_iff_eq] at h2
    simpa using h2.1
  have hlen : (l.take n).length = n := by simp; omega
  refine wp_region_any hm ?_
  have hT := wpAnyT_lex (C := C) (md := .any) (P := P) h2 h1 (l.take n) 0 (Array.replicate l.toArray.size false) a
    (by
      intro j oj _ hl
      rw [Array.getD_eq_getD_getElem?, Array.getElem?_replicate] at hl
      split at hl <;> simp at hl)
    (by
      intro j hj
      rw [hlen] at hj
      simp [hj])
    (by rw [hlen]; exact h3) h
  rw [hlen] at hT
  have := wpAny_of_T (Q' := Q) (C := C) (md := .any) (P := P) (ops := l.toArray) (n := n) (fun a' w' hw' hq => by
    unfold wpOp
    simp only [List.getElem?_toArray, ho]
    rw [if_pos (by simp [Region.wanted, hg])]
    exact .inl (hq w' hw')) n (Array.replicate l.toArray.size false) a { w with drawn := w.drawn + 1 } hC hT
  simpa [hz] using this

theorem wp_region_quietC {P : Program} {C : World → Prop} {id : Nat} {Q : Exit → Act → World → Prop} {a : Act} {w : World} {l : List Oper} (hm : P.follows .mixedOrders = true) (hB : Region.lexB .any l.toArray = true) (hC : C { w with drawn := w.drawn + 1 })
    (h : wpQuiet P l.toArray C (fun a' => ∀ w', C w' → Q .normal a' w') l a) : (Code.region id l.toArray true).wp P Q a w :=
  wp_region_quiet hm hB hC (by simpa using h)

set_option maxRecDepth 100000 in
theorem row3 : (98 : TypeId) < Tryd.prog.types.size := of_decide_eq_true (by kernel_rfl)
theorem wide3 : (match Tryd.prog.underlying 98 with | some (.array _ _) | some (.struct _) => true | _ => false) = true := by rw [Tryd.underlying98]
theorem laidOutF : laidOutB Tryd.prog = true := by kernel_rfl
set_option maxRecDepth 100000 in
theorem law3 : KeyLaw Tryd.prog 98 := deep_law_laid laidOutF (m := 2) (by omega) row3 (by kernel_rfl) wide3
theorem keyed3 : Maps.Keyed Tryd.prog 98 := Maps.Keyed.of_law law3

/-- The key that three bytes are. -/
def aggF (ks : List Int) : Value := .agg (cellsK .u8 ks).toArray
theorem keyType3 : Tryd.prog.keyType 98 = true := by kernel_rfl
theorem cells3 : Tryd.prog.cellsOf 98 = 3 := by kernel_rfl
theorem cells1F : Tryd.prog.cellsOf 5 = 1 := by kernel_rfl
theorem wf_u8F {x : Int} (h0 : 0 ≤ x) (h1 : x < 256) : (Lit.int .u8 x).wf = true := by
  have e1 : IntKind.u8.min = 0 := rfl
  have e2 : IntKind.u8.max = 255 := rfl
  simp only [Lit.wf, e1, e2, Bool.and_eq_true, decide_eq_true_eq]
  omega
def klF (ks : List Int) : Lit := .string (keyBytes (ks.map (Lit.int .u8)))
theorem mapM_someF {α β : Type} (f : α → Option β) (g : α → β) : ∀ (l : List α), (∀ x ∈ l, f x = some (g x)) → l.mapM f = some (l.map g)
  | [], _ => rfl
  | x :: l, h => by
    rw [List.mapM_cons, h x (by simp), mapM_someF f g l (fun y hy => h y (by simp [hy]))]
    rfl
theorem key_some (ks : List Int) (hl : ks.length = 3) (hb : AllB ks) : keyOf Tryd.prog 98 (aggF ks) = some (klF ks) := by
  obtain ⟨m, hm⟩ : ∃ m, Tryd.prog.types.size = m + 1 := ⟨_, rfl⟩
  unfold keyOf
  simp only [Tryd.underlying98]
  rw [if_pos (by simp [keyType3, Value.formed, Tryd.underlying98, cells3, aggF, cellsK, hl]), hm]
  unfold Program.keyLits
  simp only [Tryd.underlying98, Value.cells, aggF]
  rw [if_pos (by rw [cells3]; simp [cellsK, hl])]
  rw [mapM_someF _ (fun i => [Lit.int .u8 (ks.getD i 0)]) _ (fun i hi => ?_)]
  · unfold klF
    simp only [Option.map_some]
    congr 3
    have e : ks = (List.range 3).map (fun i => ks.getD i 0) := by
      apply List.ext_getElem?
      intro i
      by_cases hi : i < 3
      · simp [hi, List.getD, List.getElem?_eq_getElem (show i < ks.length by omega)]
      · rw [List.getElem?_eq_none (by omega), List.getElem?_eq_none (by simp; omega)]
    conv => rhs; rw [e]
    simp [List.range, List.range.loop]
  · have hi : i < 3 := by simpa using hi
    have hg := hb.getD (by omega) i
    have hc : ((cellsK .u8 ks).toArray.toList.drop (i * Tryd.prog.cellsOf 5)).take (Tryd.prog.cellsOf 5) = [.int .u8 (ks.getD i 0)] := by
      rw [cells1F, Nat.mul_one]
      have e1 : (cellsK .u8 ks).toArray.toList = cellsK .u8 ks := by simp
      rw [e1]
      have hil : i < (cellsK .u8 ks).length := by rw [cellsK_length]; omega
      rw [List.drop_eq_getElem_cons hil, List.take_succ_cons, List.take_zero]
      simp [cellsK, List.getD, List.getElem?_eq_getElem (show i < ks.length by omega)]
    rw [hc]
    unfold Program.keyLits
    simp only [Tryd.underlying5]
    rw [if_pos ⟨trivial, wf_u8F hg.1 hg.2⟩]
theorem key_inj {ks js : List Int} (hk : ks.length = 3) (hj : js.length = 3) (ak : AllB ks) (aj : AllB js) (h : klF ks = klF js) : ks = js := by
  have h1 := key_some ks hk ak
  have h2 := key_some js hj aj
  rw [h] at h1
  have := keyed3.inj h1 h2
  unfold aggF at this
  simp only [Value.agg.injEq] at this
  have h3 : cellsK .u8 ks = cellsK .u8 js := by simpa using this
  unfold cellsK at h3
  apply List.ext_getElem?
  intro i
  have := congrArg (fun l => l[i]?) h3
  simp only [List.getElem?_map] at this
  rcases h4 : ks[i]? with _ | a <;> rcases h5 : js[i]? with _ | b <;> rw [h4, h5] at this <;> simp at this ⊢
  exact this
theorem isKey3 {ks : List Int} (hl : ks.length = 3) (hb : AllB ks) : WideAt.IsKeyLit (klF ks) := keyed3.key (key_some ks hl hb)
theorem thL_length (p : List Int) (i : Nat) : (thL p i).length = 3 := rfl
theorem thL_all {p : List Int} (h : AllB p) (i : Nat) : AllB (thL p i) := by
  intro x hx
  unfold thL at hx
  simp only [List.mem_cons, List.not_mem_nil, or_false] at hx
  rcases hx with rfl | rfl | rfl <;> exact h.getD (by omega) _

/-- The map holds, for the three bytes of each place, the last place below t that has them. -/
def MapT (p : List Int) (t : Nat) (D : DataW Unit) : Prop :=
  Maps.IsMap D ∧ ∀ i, Maps.has D (klF (thL p i)) = decide (0 < lsF p i t) ∧ (0 < lsF p i t → D.atKey (klF (thL p i)) (.lit (.int .i64 0)) = .lit (.int .i64 ((lsF p i t : Int) - 1)))
theorem mapT_empty (p : List Int) : MapT p 0 (.map []) := ⟨Maps.isMap_empty, fun i => ⟨by simp [Maps.has, lsF], fun h => by simp [lsF] at h⟩⟩
theorem mapT_put {p : List Int} {t : Nat} {D : DataW Unit} (h : MapT p t D) (hb : AllB p) (ht : t + 3 ≤ p.length) : MapT p (t + 1) (D.put (klF (thL p t)) (.lit (.int .i64 t))) := by
  have hk := isKey3 (thL_length p t) (thL_all hb t)
  refine ⟨h.1.put _ _, fun i => ?_⟩
  by_cases he : thL p i = thL p t
  · have e1 : lsF p i (t + 1) = t + 1 := by rw [lsF, if_pos ⟨ht, he.symm⟩]
    rw [he, e1, Maps.has_put_same h.1 hk, Maps.atKey_put_same h.1 hk]
    exact ⟨by simp, fun _ => by congr 2; omega⟩
  · have e1 : lsF p i (t + 1) = lsF p i t := by rw [lsF, if_neg (fun hh => he hh.2.symm)]
    have hne : klF (thL p i) ≠ klF (thL p t) := fun e => he (key_inj (thL_length p i) (thL_length p t) (thL_all hb i) (thL_all hb t) e)
    rw [e1, Maps.has_put_other hne, Maps.atKey_put_other hne]
    exact h.2 i
theorem mapT_skip {p : List Int} {t : Nat} {D : DataW Unit} (h : MapT p t D) (ht : ¬ t + 3 ≤ p.length) : MapT p (t + 1) D := by
  refine ⟨h.1, fun i => ?_⟩
  have e1 : lsF p i (t + 1) = lsF p i t := by rw [lsF, if_neg (fun hh => ht hh.1)]
  rw [e1]
  exact h.2 i
/-- For each told place the last one ahead of it with the same three bytes. -/
def BkT (p : List Int) (t : Nat) (bk : List Int) : Prop := bk.length = p.length ∧ ∀ c, c < t → c + 3 ≤ p.length → bk.getD c 0 = (lsF p c c : Int) - 1
theorem bkT_set {p : List Int} {t : Nat} {bk : List Int} (h : BkT p t bk) (ht : t + 3 ≤ p.length) : BkT p (t + 1) (bk.set t ((lsF p t t : Int) - 1)) := by
  refine ⟨by rw [List.length_set]; exact h.1, fun c hc hc3 => ?_⟩
  have hl := h.1
  by_cases hct : c = t
  · subst hct
    simp [List.getD, show c < bk.length by omega]
  · have := h.2 c (by omega) hc3
    simp only [List.getD, List.getElem?_set] at this ⊢
    rw [if_neg (by omega)]
    exact this
theorem bkT_skip {p : List Int} {t : Nat} {bk : List Int} (h : BkT p t bk) (ht : ¬ t + 3 ≤ p.length) : BkT p (t + 1) bk := by
  refine ⟨h.1, fun c hc hc3 => ?_⟩
  by_cases hct : c = t
  · omega
  · exact h.2 c (by omega) hc3
theorem zeroIF (w : World) : (zeroValue 3).run Tryd.prog w = .ok (.int .i64 0) w := by kernel_rfl

/-- The finder in memory: its block, the map's and what holds the places ahead. -/
structure Fd (W0 w : World) (fb mb : Nat) (bb : Option Nat) (pv : Value) (p : List Int) (t : Nat) : Prop where
  blk : ∃ (backV : Value) (bk : List Int) (n : Nat) (D : DataW Unit), w.heap[fb]? = some (.cells #[pv, .map (some mb), backV] 94) ∧ w.ownsMap Tryd.prog 98 (plainElem Tryd.prog 3) mb n D ∧ n ≤ t ∧ MapT p t D ∧
    Own .i64 3 w W0.heap.size backV bk ∧ backV.ownBlock = bb ∧ BkT p t bk
  fge : W0.heap.size ≤ fb
  mge : W0.heap.size ≤ mb
  fm : fb ≠ mb
  fbb : bb ≠ some fb
  mbb : bb ≠ some mb
  bel : Below W0.heap.size W0 w
section
variable {W0 w : World} {fb mb : Nat} {bb : Option Nat} {pv : Value} {p : List Int} {t : Nat}
theorem ownsMap_far {w w' : World} {mb n : Nat} {D : DataW Unit} (h : w.ownsMap Tryd.prog 98 (plainElem Tryd.prog 3) mb n D) (hb : w'.heap[mb]? = w.heap[mb]?) : w'.ownsMap Tryd.prog 98 (plainElem Tryd.prog 3) mb n D := by
  obtain ⟨es, clock, h1, h2⟩ := h
  exact ⟨es, clock, by rw [hb]; exact h1, h2⟩
theorem Fd.far {w' : World} (h : Fd W0 w fb mb bb pv p t) (hf : w'.heap[fb]? = w.heap[fb]?) (hm : w'.heap[mb]? = w.heap[mb]?) (hb : ∀ k, bb = some k → w'.heap[k]? = w.heap[k]?) (hbel : Below W0.heap.size W0 w') : Fd W0 w' fb mb bb pv p t := by
  obtain ⟨backV, bk, n, D, h1, h2, h3, h4, h5, h6, h7⟩ := h.blk
  exact ⟨⟨backV, bk, n, D, by rw [hf]; exact h1, ownsMap_far h2 hm, h3, h4, h5.far fun g hg => hb g (by rw [← h6]; exact hg), h6, h7⟩, h.fge, h.mge, h.fm, h.fbb, h.mbb, hbel⟩
theorem heap_lt {w : World} {b : Nat} {o : Obj} (h : w.heap[b]? = some o) : b < w.heap.size := by
  rcases Nat.lt_or_ge b w.heap.size with h' | h'
  · exact h'
  · rw [Array.getElem?_eq_none h'] at h
    cases h
theorem Fd.lt (h : Fd W0 w fb mb bb pv p t) : fb < w.heap.size ∧ mb < w.heap.size ∧ ∀ k, bb = some k → W0.heap.size ≤ k ∧ k < w.heap.size := by
  obtain ⟨backV, bk, n, D, h1, h2, h3, h4, h5, h6, h7⟩ := h.blk
  exact ⟨heap_lt h1, h2.lt, fun k hk => h5.lt k (by rw [h6]; exact hk)⟩
theorem Fd.later {w' : World} (h : Fd W0 w fb mb bb pv p t) (hf : Below w.heap.size w w') : Fd W0 w' fb mb bb pv p t :=
  h.far (hf.block _ h.lt.1) (hf.block _ h.lt.2.1) (fun k hk => hf.block _ (h.lt.2.2 k hk).2) (h.bel.trans (hf.mono h.bel.size))
end

open Go.RowKit Go.WideMaps

set_option maxHeartbeats 1000000 in
set_option maxRecDepth 100000 in
theorem three_any (fb : Nat) (pv : Value) (p : List Int) (i : Nat) (w : World) (hp : Rd .u8 anyB w pv p) (c0 : w.cell? ⟨fb, 0, none⟩ = some pv) (hfb : fb < w.heap.size) (hi : i + 3 ≤ p.length) (hl : p.length ≤ 1073741824) :
    Calls Tryd.prog 66 #[.pointer (some ⟨fb, 0, none⟩), .int .i64 i] w fun e w' => e = .returned (aggF (thL p i)) ∧ Below w.heap.size w w' := by
  obtain ⟨b, off, pc, rfl, hb, -, -, -, hcells⟩ := hp.open (by omega)
  clear hp
  have ca := hcells i (by omega)
  have cb := hcells (i + 1) (by omega)
  have cc := hcells (i + 2) (by omega)
  have hw1 : IntKind.i64.wrap ((i : Int) + 1) = (i : Int) + 1 := by rw [IntKind.wrap_i64]; omega
  have hw2 : IntKind.i64.wrap ((i : Int) + 2) = (i : Int) + 2 := by rw [IntKind.wrap_i64]; omega
  have hy0 : (0 : Int) ≤ (i : Int) + 1 := by omega
  have hz0 : (0 : Int) ≤ (i : Int) + 2 := by omega
  have hx1 : (i : Int) < (p.length : Int) := by omega
  have hy1 : (i : Int) + 1 < (p.length : Int) := by omega
  have hz1 : (i : Int) + 2 < (p.length : Int) := by omega
  have ht1 : ((i : Int) + 1).toNat = i + 1 := by omega
  have ht2 : ((i : Int) + 2).toNat = i + 2 := by omega
  have KR : Kept (aggF (thL p i) = .agg #[.int .u8 (p.getD i 0), .int .u8 (p.getD (i + 1) 0), .int .u8 (p.getD (i + 2) 0)]) := ⟨rfl⟩
  have KB := Kept.mk ((Below.refl w.heap.size w).alloc (Nat.le_refl _) (.cells #[.int .u8 0, .int .u8 0, .int .u8 0] 98))
  have hn : w.heap[w.heap.size]? = none := by simp
  clear hcells
  generalize p.getD i 0 = x at *
  generalize p.getD (i + 1) 0 = y at *
  generalize p.getD (i + 2) 0 = z at *
  go_enter Tryd.func66, Tryd.ntmps66
  go_upto_region 1 with fail
  obtain ⟨w1, hw1e, d0, da, db, dc, hw1h, hB1⟩ : ∃ w1, w.alloc (.cells #[.int .u8 0, .int .u8 0, .int .u8 0] 98) = w1 ∧ w1.cell? ⟨fb, 0, none⟩ = some (.slice (some ⟨b, off, none⟩) p.length pc) ∧ w1.cell? ⟨b, off + i, none⟩ = some (.int .u8 x) ∧ w1.cell? ⟨b, off + (i + 1), none⟩ = some (.int .u8 y) ∧ w1.cell? ⟨b, off + (i + 2), none⟩ = some (.int .u8 z) ∧ w1.heap[w.heap.size]? = some (.cells #[.int .u8 0, .int .u8 0, .int .u8 0] 98) ∧ Below w.heap.size w w1 :=
    ⟨_, rfl, by rw [KB.out.cell (p := ⟨fb, 0, none⟩) hfb]; exact c0, by rw [KB.out.cell (p := ⟨b, off + i, none⟩) hb]; exact ca, by rw [KB.out.cell (p := ⟨b, off + (i + 1), none⟩) hb]; exact cb, by rw [KB.out.cell (p := ⟨b, off + (i + 2), none⟩) hb]; exact cc, by unfold World.alloc; exact Array.getElem?_push_size, KB.out⟩
  rw [hw1e]
  have KB1 := Kept.mk hB1
  have e0 : w1.cell? ⟨w.heap.size, 0, none⟩ = some (.int .u8 0) := by simp [World.cell?, hw1h]
  have e1 : w1.cell? ⟨w.heap.size, 1, none⟩ = some (.int .u8 0) := by simp [World.cell?, hw1h]
  have e2 : w1.cell? ⟨w.heap.size, 2, none⟩ = some (.int .u8 0) := by simp [World.cell?, hw1h]
  have f0 : w1.frozen? ⟨w.heap.size, 0, none⟩ = false := by simp [World.frozen?, hw1h]
  have f1 : w1.frozen? ⟨w.heap.size, 1, none⟩ = false := by simp [World.frozen?, hw1h]
  have f2 : w1.frozen? ⟨w.heap.size, 2, none⟩ = false := by simp [World.frozen?, hw1h]
  clear hw1h
  clear hw1e KB ca cb cc c0 hB1 hn
  refine wp_region_last _ 24 (by kernel_rfl) (by kernel_rfl) rfl rfl ?_
  simp only [List.take_succ_cons, List.take_zero]
  repeat (go_big_quiet_step (fail))
  refine wpQuiet_nil ?_
  intro m
  go_wp2
  obtain ⟨w3, hw3, g0, g1, g2, hB3⟩ : ∃ w3, (((w1.drewN m).setCell ⟨w.heap.size, 0, none⟩ (.int .u8 x)).setCell ⟨w.heap.size, 1, none⟩ (.int .u8 y)).setCell ⟨w.heap.size, 2, none⟩ (.int .u8 z) = w3 ∧ w3.cell? ⟨w.heap.size, 0, none⟩ = some (.int .u8 x) ∧ w3.cell? ⟨w.heap.size, 1, none⟩ = some (.int .u8 y) ∧ w3.cell? ⟨w.heap.size, 2, none⟩ = some (.int .u8 z) ∧ Below w.heap.size w w3 :=
    ⟨_, rfl, by go_simp, by go_simp, by go_simp, (((below_drewN KB1.out m).setCell (Nat.le_refl _) _).setCell (Nat.le_refl _) _).setCell (Nat.le_refl _) _⟩
  rw [hw3]
  have KB3 := Kept.mk hB3
  clear hw3 hB3 KB1 e0 e1 e2 f0 f1 f2 d0 da db dc
  refine bodyPost_ret (v := .agg #[.int .u8 x, .int .u8 y, .int .u8 z]) (by simp [results, Tryd.results66, go_sem, g0, g1, g2]) rfl ?_
  rw [KR.out]
  exact ⟨rfl, KB3.out⟩

open Go.RowKit Go.WideMaps

set_option maxHeartbeats 1000000 in
set_option maxRecDepth 100000 in
theorem lastLike_any {W0 w : World} {fb mb : Nat} {bb : Option Nat} {pv : Value} {p : List Int} {t : Nat} (i : Nat) (h : Fd W0 w fb mb bb pv p t) (hp : Rd .u8 anyB w pv p) (ha : AllB p) (hi : i + 3 ≤ p.length) (hl : p.length ≤ 1073741824) :
    Calls Tryd.prog 62 #[.pointer (some ⟨fb, 0, none⟩), .int .i64 i] w fun e w' => e = .returned (.int .i64 ((lsF p i t : Int) - 1)) ∧ Below w.heap.size w w' := by
  obtain ⟨backV, bk, n, D, h1, h2, h3, h4, h5, h6, h7⟩ := h.blk
  have hlt := h.lt
  have KM : Kept (∀ w', CC w w' → w'.cell? ⟨fb, 1, none⟩ = some (.map (some mb))) := ⟨fun w' hw => by
    rw [hw.cell (p := ⟨fb, 1, none⟩) hlt.1]
    simp [World.cell?, h1]⟩
  have KT : Kept (∀ w', CC w w' → Calls Tryd.prog 66 #[.pointer (some ⟨fb, 0, none⟩), .int .i64 i] w' fun e w'' => e = .returned (aggF (thL p i)) ∧ CC w w'') := ⟨fun w' hw => by
    have hc0 : w'.cell? ⟨fb, 0, none⟩ = some pv := by
      rw [hw.cell (p := ⟨fb, 0, none⟩) hlt.1]
      simp [World.cell?, h1]
    exact (three_any fb pv p i w' (hp.later hw (Nat.le_refl _)) hc0 (Nat.lt_of_lt_of_le hlt.1 (Below.size hw)) hi hl).mono fun e w'' hp2 => ⟨hp2.1, hw.on hp2.2⟩⟩
  have KL : Kept (∃ x : Int, (∀ w', CC w w' → (Instr.lookup 92 (.map (some mb)) (aggF (thL p i)) true).run Tryd.prog w' = .ok (.tuple #[.int .i64 x, .bool (decide (0 < lsF p i t))]) w') ∧ (0 < lsF p i t → x = (lsF p i t : Int) - 1)) := ⟨by
    have key : ∀ w', CC w w' → ∃ x : Int, (Instr.lookup 92 (.map (some mb)) (aggF (thL p i)) true).run Tryd.prog w' = .ok (.tuple #[.int .i64 x, .bool (decide (0 < lsF p i t))]) w' ∧ D.atKey (klF (thL p i)) (.lit (.int .i64 0)) = .lit (.int .i64 x) := fun w' hw => by
      have ho := ownsMap_far h2 (hw.block _ hlt.2.1)
      obtain ⟨v, ps, hrun, hv⟩ := ho.look_ok keyed3 Tryd.underlying92 (zeroIF w') (plainElem_int (H := Unit) (P := Tryd.prog) Tryd.underlying3 (by decide)) (key_some _ (thL_length p i) (thL_all ha i))
      obtain ⟨c, rfl, hc, hwc⟩ := plainElem_int_inv Tryd.underlying3 hv
      simp only [Prod.mk.injEq] at hc
      refine ⟨c, ?_, hc.1⟩
      rw [hrun, (h4.2 i).1]
    obtain ⟨x, hx1, hx2⟩ := key w (CC.refl w)
    refine ⟨x, fun w' hw => ?_, fun h0 => ?_⟩
    · obtain ⟨x', hx1', hx2'⟩ := key w' hw
      rw [hx2] at hx2'
      simp only [DataW.lit.injEq, Lit.int.injEq, true_and] at hx2'
      rw [hx1', hx2']
    · have := (h4.2 i).2 h0
      rw [hx2] at this
      simp only [DataW.lit.injEq, Lit.int.injEq, true_and] at this
      exact this⟩
  clear h h1 h2 h3 h4 h5 h6 h7 hlt hp ha
  obtain ⟨x, hx1, hx2⟩ := KL.out
  clear KL
  have KL := Kept.mk hx1
  clear hx1
  generalize aggF (thL p i) = kv at *
  generalize lsF p i t = q at *
  go_enter Tryd.func62, Tryd.ntmps62
  go_upto_region 1 with fail
  refine wp_region_quietC (C := CC w) (by kernel_rfl) (by kernel_rfl) (Below.refl _ _).drew ?_
  go_big_quiet_step ((intro _; rfl))
  go_big_quiet_step ((intro _; rfl))
  go_big_quiet_step ((intro _; rfl))
  refine BigFrame.wpQuiet_want rfl (fun K hK => quiet_run (v := .map (some mb)) (fun W hW => by have hcm := KM.out W hW; go_simp) (hK _ ?_))
  clear hK K
  simp only [Act.put, List.setIfInBounds_toArray, List.set_cons_zero, List.set_cons_succ]
  go_big_quiet_step ((intro _; rfl))
  go_big_quiet_step ((intro _; rfl))
  go_big_quiet_step ((intro hCw; exact KT.out _ hCw))
  refine BigFrame.wpQuiet_want rfl (fun K hK => quiet_run (v := .tuple #[.int .i64 x, .bool (decide (0 < q))]) (fun W hW => by have hlk := KL.out W hW; simp [execOp, hlk, Act.eval]) (hK _ ?_))
  clear hK K
  simp only [Act.put, List.setIfInBounds_toArray, List.set_cons_zero, List.set_cons_succ]
  go_big_quiet_step ((intro _; rfl))
  go_big_quiet_step ((intro _; rfl))
  go_big_quiet_step ((intro _; rfl))
  go_big_quiet_step ((intro _; rfl))
  go_big_quiet_step ((intro _; rfl))
  refine wpQuiet_nil ?_
  intro w1 hw1
  have KB := Kept.mk hw1
  clear hw1 KM KT KL
  by_cases h0 : 0 < q
  · have hd : decide (0 < q) = true := by simp; omega
    rw [hd, hx2 h0]
    clear hx2
    go_wp2
    go_ret
    exact ⟨rfl, KB.out⟩
  · have hd : decide (0 < q) = false := by simp; omega
    have hq : q = 0 := by omega
    subst hq
    rw [hd]
    clear hx2
    go_wp2
    go_ret
    exact ⟨rfl, KB.out⟩
end Go.Proofs.YtjijkcmbbccfmaaDoor
