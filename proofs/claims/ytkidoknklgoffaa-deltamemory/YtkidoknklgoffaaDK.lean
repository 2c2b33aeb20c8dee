/-
  Maps whose keys are arrays of sixteen bytes.
-/
import Derived.Test.YtkidoknklgoffaaDW8
import Derived.Maps.OwnSet
import Derived.Maps.Ext
import Derived.Laws.Cover3
import Derived.DeepKeys4
import Derived.WideKeyArr
namespace Go.Proofs.Ytkidoknklgoffaa
open Go.RowKit Go.WideMaps

set_option maxRecDepth 100000 in
theorem row16 : (54 : TypeId) < Try.prog.types.size := of_decide_eq_true (by kernel_rfl)
theorem wide16 : (match Try.prog.underlying 54 with | some (.array _ _) | some (.struct _) => true | _ => false) = true := by rw [Try.underlying54]
theorem laidOutD : laidOutB Try.prog = true := by kernel_rfl
theorem law16 : KeyLaw Try.prog 54 := deep_law_laid laidOutD (m := 2) (by omega) row16 (by kernel_rfl) wide16
theorem keyed16 : Maps.Keyed Try.prog 54 := Maps.Keyed.of_law law16

/-- The key that sixteen bytes are. -/
def aggF (ks : List Int) : Value := .agg (cellsK .u8 ks).toArray
theorem keyType16 : Try.prog.keyType 54 = true := by kernel_rfl
theorem cells16 : Try.prog.cellsOf 54 = 16 := by kernel_rfl
theorem cells1 : Try.prog.cellsOf 5 = 1 := by kernel_rfl
theorem wf_u8 {x : Int} (h0 : 0 ≤ x) (h1 : x < 256) : (Lit.int .u8 x).wf = true := by
  have e1 : IntKind.u8.min = 0 := rfl
  have e2 : IntKind.u8.max = 255 := rfl
  simp only [Lit.wf, e1, e2, Bool.and_eq_true, decide_eq_true_eq]
  omega
def klF (ks : List Int) : Lit := .string (keyBytes (ks.map (Lit.int .u8)))
theorem mapM_some {α β : Type} (f : α → Option β) (g : α → β) : ∀ (l : List α), (∀ x ∈ l, f x = some (g x)) → l.mapM f = some (l.map g)
  | [], _ => rfl
  | x :: l, h => by
    rw [List.mapM_cons, h x (by simp), mapM_some f g l (fun y hy => h y (by simp [hy]))]
    rfl
theorem key_some (ks : List Int) (hl : ks.length = 16) (hb : AllB ks) : keyOf Try.prog 54 (aggF ks) = some (klF ks) := by
  obtain ⟨m, hm⟩ : ∃ m, Try.prog.types.size = m + 1 := ⟨_, rfl⟩
  unfold keyOf
  simp only [Try.underlying54]
  rw [if_pos (by simp [keyType16, Value.formed, Try.underlying54, cells16, aggF, cellsK, hl]), hm]
  unfold Program.keyLits
  simp only [Try.underlying54, Value.cells, aggF]
  rw [if_pos (by rw [cells16]; simp [cellsK, hl])]
  rw [mapM_some _ (fun i => [Lit.int .u8 (ks.getD i 0)]) _ (fun i hi => ?_)]
  · unfold klF
    simp only [Option.map_some]
    congr 3
    have e : ks = (List.range 16).map (fun i => ks.getD i 0) := by
      apply List.ext_getElem?
      intro i
      by_cases hi : i < 16
      · simp [hi, List.getD, List.getElem?_eq_getElem (show i < ks.length by omega)]
      · rw [List.getElem?_eq_none (by omega), List.getElem?_eq_none (by simp; omega)]
    conv => rhs; rw [e]
    simp [List.range, List.range.loop]
  · have hi : i < 16 := by simpa using hi
    have hg := hb.getD (by omega) i
    have hc : ((cellsK .u8 ks).toArray.toList.drop (i * Try.prog.cellsOf 5)).take (Try.prog.cellsOf 5) = [.int .u8 (ks.getD i 0)] := by
      rw [cells1, Nat.mul_one]
      have e1 : (cellsK .u8 ks).toArray.toList = cellsK .u8 ks := by simp
      rw [e1]
      have hil : i < (cellsK .u8 ks).length := by rw [cellsK_length]; omega
      rw [List.drop_eq_getElem_cons hil, List.take_succ_cons, List.take_zero]
      simp [cellsK, List.getD, List.getElem?_eq_getElem (show i < ks.length by omega)]
    rw [hc]
    unfold Program.keyLits
    simp only [Try.underlying5]
    rw [if_pos ⟨trivial, wf_u8 hg.1 hg.2⟩]
theorem key_inj {ks js : List Int} (hk : ks.length = 16) (hj : js.length = 16) (ak : AllB ks) (aj : AllB js) (h : klF ks = klF js) : ks = js := by
  have h1 := key_some ks hk ak
  have h2 := key_some js hj aj
  rw [h] at h1
  have := keyed16.inj h1 h2
  unfold aggF at this
  simp only [Value.agg.injEq] at this
  have h3 : cellsK .u8 ks = cellsK .u8 js := by simpa using this
  unfold cellsK at h3
  apply List.ext_getElem?
  intro i
  have := congrArg (fun l => l[i]?) h3
  simp only [List.getElem?_map] at this
  rcases h4 : ks[i]? with _ | a <;> rcases h5 : js[i]? with _ | b <;> rw [h4, h5] at this <;> simp at this ⊢
  exact this

/-- The map holds places of blocks. -/
def MapOk (base : List Int) (D : DataW Unit) : Prop :=
  Maps.IsMap D ∧ ∀ ks : List Int, ks.length = 16 → AllB ks → Maps.has D (klF ks) = true → ∃ c : Nat, D.atKey (klF ks) (.lit (.int .i64 0)) = .lit (.int .i64 c) ∧ c + 16 ≤ base.length ∧ (base.drop c).take 16 = ks
/-- The first block stands at 0. -/
def Fst (base : List Int) (D : DataW Unit) : Prop := Maps.has D (klF (base.take 16)) = true ∧ D.atKey (klF (base.take 16)) (.lit (.int .i64 0)) = .lit (.int .i64 0)
theorem isKey16 {ks : List Int} (hl : ks.length = 16) (hb : AllB ks) : WideAt.IsKeyLit (klF ks) := keyed16.key (key_some ks hl hb)
theorem mapOk_empty (base : List Int) : MapOk base (.map []) := ⟨Maps.isMap_empty, fun ks _ _ h => by simp [Maps.has] at h⟩
theorem block_len {base : List Int} {a : Nat} (ha : a + 16 ≤ base.length) : ((base.drop a).take 16).length = 16 := by simp; omega
theorem mapOk_put {base : List Int} {D : DataW Unit} (h : MapOk base D) (hb : AllB base) {a : Nat} (ha : a + 16 ≤ base.length) : MapOk base (D.put (klF ((base.drop a).take 16)) (.lit (.int .i64 a))) := by
  have hk := isKey16 (block_len ha) ((hb.drop a).take 16)
  refine ⟨h.1.put _ _, fun ks hl hA hh => ?_⟩
  by_cases he : ks = (base.drop a).take 16
  · subst he
    exact ⟨a, Maps.atKey_put_same h.1 hk _ _, ha, rfl⟩
  · have hne : klF ks ≠ klF ((base.drop a).take 16) := fun e => he (key_inj hl (block_len ha) hA ((hb.drop a).take 16) e)
    rw [Maps.has_put_other hne] at hh
    rw [Maps.atKey_put_other hne]
    exact h.2 ks hl hA hh
theorem fst_put {base : List Int} {D : DataW Unit} (h : Fst base D) {k : Lit} (hk : Maps.has D k = false) (d : DataW Unit) : Fst base (D.put k d) := by
  have hne : klF (base.take 16) ≠ k := fun e => by
    have := h.1
    rw [e, hk] at this
    cases this
  exact ⟨by rw [Maps.has_put_other hne]; exact h.1, by rw [Maps.atKey_put_other hne]; exact h.2⟩
theorem fst_first {base : List Int} {D : DataW Unit} (h : Maps.IsMap D) (hb : AllB base) (hl : 16 ≤ base.length) : Fst base (D.put (klF (base.take 16)) (.lit (.int .i64 0))) := by
  have hk := isKey16 (ks := base.take 16) (by simp; omega) (hb.take 16)
  exact ⟨Maps.has_put_same h hk _, Maps.atKey_put_same h hk _ _⟩

theorem run_makeMap_hint (n : Int) (w : World) : (Instr.makeMap 51 (some (.int .i64 n))).run Try.prog w = .ok (.map (some w.heap.size)) (w.alloc (.map #[] 0)) := by
  simp [Instr.makeMap, run_underlying Try.underlying51, asInt, newObj]
  rfl
theorem zeroI (w : World) : (zeroValue 3).run Try.prog w = .ok (.int .i64 0) w := by kernel_rfl
end Go.Proofs.Ytkidoknklgoffaa
