/-
  Walks: appendOwn; math.Trunc at whole numbers, isWhole, inPlane.
-/
import Derived.Test.YtidpdhnbnecddaaVH
import Derived.Test.YtidpdhnbnecddaaShelf
import Derived.Laws.Externs
namespace Go.Proofs.Ytidpdhnbnecddaa
open Go.RowKit

/-- Texts in memory of the call's own. -/
def OwnT (w : World) (base : Nat) (v : Value) (L : List ByteArray) : Prop := w.ownsRow base 9 1 v L.length (L.map Value.string)
theorem OwnT.lt {w : World} {base : Nat} {v : Value} {L : List ByteArray} (h : OwnT w base v L) : ∀ g, v.ownBlock = some g → base ≤ g ∧ g < w.heap.size := by
  intro g hg
  rcases h.2 with ⟨rfl, hn⟩ | ⟨g', cap, cur, rfl, hbg, hg', hnc, hcm, hcs, htake⟩
  · cases hg
  · have : g' = g := by simpa [Value.ownBlock] using hg
    subst this
    exact ⟨hbg, (Array.getElem?_eq_some_iff.1 hg').1⟩
theorem OwnT.far {w w' : World} {base : Nat} {v : Value} {L : List ByteArray} (h : OwnT w base v L) (hb : ∀ g, v.ownBlock = some g → w'.heap[g]? = w.heap[g]?) : OwnT w' base v L := by
  refine ⟨h.1, ?_⟩
  rcases h.2 with h2 | ⟨g, cap, cur, rfl, hg, hh, r⟩
  · exact Or.inl h2
  · exact Or.inr ⟨g, cap, cur, rfl, hg, by rw [hb g rfl]; exact hh, r⟩
theorem OwnT.later {B : Nat} {w w' : World} {base : Nat} {v : Value} {L : List ByteArray} (h : OwnT w base v L) (hb : Below B w w') (hB : w.heap.size ≤ B) : OwnT w' base v L :=
  h.far fun g hg => hb.block g (Nat.lt_of_lt_of_le (h.lt g hg).2 hB)
theorem OwnT.mono {base' : Nat} {w : World} {base : Nat} {v : Value} {L : List ByteArray} (h : OwnT w base v L) (hb : base' ≤ base) : OwnT w base' v L := by
  refine ⟨h.1, ?_⟩
  rcases h.2 with h2 | ⟨g, cap, cur, hv, hg, r⟩
  · exact Or.inl h2
  · exact Or.inr ⟨g, cap, cur, hv, Nat.le_trans hb hg, r⟩
theorem OwnT.rd {w : World} {base : Nat} {v : Value} {L : List ByteArray} (h : OwnT w base v L) : RdS w v L := ownsRow_rd (base := base) (T := 9) (by rw [List.length_map]; exact h)
theorem OwnT.form {w : World} {base : Nat} {v : Value} {L : List ByteArray} (h : OwnT w base v L) : ∃ a c, v = .slice a L.length c := by
  rcases h.2 with ⟨rfl, hn⟩ | ⟨g, cap, cur, rfl, -⟩
  · exact ⟨none, 0, by rw [hn]⟩
  · exact ⟨_, _, rfl⟩
set_option maxRecDepth 100000 in
theorem info_str : ∃ i z, Try.prog.info? 9 = some i ∧ i.zero = some z ∧ i.size = 1 ∧ i.bytes = 16 ∧ z.cells.size = 1 := by
  refine ⟨_, _, rfl, rfl, rfl, rfl, rfl⟩
def tcOk (n : Nat) : Bool := match FloatKind.f64.decode (fl n) with
  | .nan _ _ => false
  | d => FloatKind.f64.encode (d.integral .zero) == fl n
set_option maxRecDepth 100000 in
theorem tc_all : (List.range 1100).all tcOk = true := by kernel_rfl
attribute [local irreducible] FloatKind.decode in
theorem tc_gen (X : Nat) (d : Ieee.Datum) (h : FloatKind.f64.decode X = d) (hn : ∀ s t, d ≠ .nan s t) (s : String) : Extern.MathFloor.toIntegral s .zero #[.float .f64 X] = pure (.float .f64 (FloatKind.f64.encode (d.integral .zero))) := by
  unfold Extern.MathFloor.toIntegral
  conv => lhs; whnf
  rw [h]
  cases d with
  | nan s t => exact absurd rfl (hn s t)
  | _ => rfl
theorem tc_run {n : Nat} (h : n < 1100) (s : String) : Extern.MathFloor.toIntegral s .zero #[.float .f64 (fl n)] = pure (.float .f64 (fl n)) := by
  have := List.all_eq_true.1 tc_all n (List.mem_range.2 h)
  unfold tcOk at this
  split at this
  · cases this
  · rename_i d hd
    rw [tc_gen (fl n) _ rfl hd s, beq_iff_eq.1 this]
set_option exponentiation.threshold 2000 in
theorem fl_cmp {x y : Nat} (hx : x < 1100) (hy : y < 1100) : FloatKind.f64.format.order (fl x) (fl y) = some (compare x y) := by
  obtain ⟨m, i, h1, h2, h3⟩ := fl_read hx
  obtain ⟨n, j, g1, g2, g3⟩ := fl_read hy
  unfold Ieee.Format.order
  rw [h1, g1]
  simp only [Ieee.Datum.order, Ieee.signed]
  obtain ⟨b, hb⟩ : ∃ b, min i j = b := ⟨_, rfl⟩
  rw [hb]
  have hb1 : b ≤ i := by omega
  have hb2 : b ≤ j := by omega
  have hb0 : -1074 ≤ b := by omega
  rw [shl_mul, shl_mul] at h3 g3
  have e1 : (i + 1074).toNat = (i - b).toNat + (b + 1074).toNat := by omega
  have e2 : (j + 1074).toNat = (j - b).toNat + (b + 1074).toNat := by omega
  rw [e1, Nat.pow_add, ← Nat.mul_assoc] at h3
  rw [e2, Nat.pow_add, ← Nat.mul_assoc] at g3
  have hp : 0 < 2 ^ (b + 1074).toNat := Nat.pow_pos (by decide)
  have hq : 0 < 2 ^ 1074 := Nat.pow_pos (by decide)
  simp only [Bool.false_eq_true, if_false, shl_mul]
  generalize m * 2 ^ (i - b).toNat = A at *
  generalize n * 2 ^ (j - b).toNat = B at *
  generalize 2 ^ (b + 1074).toNat = P at *
  generalize 2 ^ 1074 = Q at *
  congr 1
  rcases Nat.lt_trichotomy x y with hl | he | hg
  · have : A < B := Nat.lt_of_mul_lt_mul_right (a := P) (by rw [h3, g3]; exact Nat.mul_lt_mul_of_pos_right hl hq)
    rw [Nat.compare_eq_lt.2 hl, Int.compare_eq_lt.2 (by omega)]
  · subst he
    have : A = B := Nat.eq_of_mul_eq_mul_right hp (h3.trans g3.symm)
    rw [Nat.compare_eq_eq.2 rfl, Int.compare_eq_eq.2 (by omega)]
  · have : B < A := Nat.lt_of_mul_lt_mul_right (a := P) (by rw [h3, g3]; exact Nat.mul_lt_mul_of_pos_right hg hq)
    rw [Nat.compare_eq_gt.2 hg, Int.compare_eq_gt.2 (by omega)]


theorem cmp_ge {x y : Nat} (hx : x < 1100) (hy : y < 1100) (h : y ≤ x) : FloatKind.f64.format.order (fl x) (fl y) = some .gt ∨ FloatKind.f64.format.order (fl x) (fl y) = some .eq := by
  rw [fl_cmp hx hy]
  rcases Nat.lt_or_eq_of_le h with h | h
  · exact Or.inl (by rw [Nat.compare_eq_gt.2 h])
  · exact Or.inr (by rw [Nat.compare_eq_eq.2 h.symm])
theorem cmp_le {x y : Nat} (hx : x < 1100) (hy : y < 1100) (h : x ≤ y) : FloatKind.f64.format.order (fl x) (fl y) = some .lt ∨ FloatKind.f64.format.order (fl x) (fl y) = some .eq := by
  rw [fl_cmp hx hy]
  rcases Nat.lt_or_eq_of_le h with h | h
  · exact Or.inl (by rw [Nat.compare_eq_lt.2 h])
  · exact Or.inr (by rw [Nat.compare_eq_eq.2 h])
theorem cmp_eq {x : Nat} (hx : x < 1100) : FloatKind.f64.format.order (fl x) (fl x) = some .eq := by rw [fl_cmp hx hx, Nat.compare_eq_eq.2 rfl]
def sbOk (x : Nat) : Bool := (List.range (x + 1)).all fun y => floatBits .sub .f64 (fl x) (fl y) == some (fl (x - y))
set_option maxRecDepth 100000 in
theorem sb_all : (List.range 61).all sbOk = true := by kernel_rfl
theorem fl_sub {x y : Nat} (hx : x ≤ 60) (hy : y ≤ x) : floatBits .sub .f64 (fl x) (fl y) = some (fl (x - y)) := by
  have := List.all_eq_true.1 sb_all x (List.mem_range.2 (by omega))
  have := List.all_eq_true.1 this y (List.mem_range.2 (by omega))
  exact beq_iff_eq.1 this


/-- Hunks that can be read. -/
def RdHk (w : World) (v : Value) (hs : List (Pt × Pt)) : Prop :=
  ∃ a c, v = .slice a hs.length c ∧ (0 < hs.length → ∃ b o, a = some ⟨b, o, none⟩ ∧ w.rangeAt b o (hkV hs))
/-- In form, from a point on. -/
def inF (n m : Nat) : Pt → Bool → List (Pt × Pt) → Prop
  | bh, _, [] => bh.1 ≤ n ∧ bh.2 ≤ m ∧ n - bh.1 = m - bh.2
  | bh, f, h :: r => bh.1 ≤ h.1.1 ∧ bh.2 ≤ h.1.2 ∧ h.1.1 - bh.1 = h.1.2 - bh.2 ∧ (f = false → 1 ≤ h.1.1 - bh.1) ∧ h.1.1 ≤ h.2.1 ∧ h.1.2 ≤ h.2.2 ∧ h.1 ≠ h.2 ∧ h.2.1 ≤ n ∧ h.2.2 ≤ m ∧ inF n m h.2 false r
theorem hkV_get {hs : List (Pt × Pt)} {k : Nat} {h : Pt × Pt} (hk : hs[k]? = some h) : (hkV hs)[k * 2]? = some (pt h.1.1 h.1.2) ∧ (hkV hs)[k * 2 + 1]? = some (pt h.2.1 h.2.2) := by
  induction hs generalizing k with
  | nil => cases hk
  | cons x r ih =>
    cases k with
    | zero =>
      have : x = h := by simpa using hk
      subst this
      exact ⟨rfl, rfl⟩
    | succ k =>
      have hk' : r[k]? = some h := by simpa using hk
      have e1 : (k + 1) * 2 = k * 2 + 2 := by omega
      rw [e1]
      show ((hkC x) ++ hkV r)[k * 2 + 2]? = _ ∧ ((hkC x) ++ hkV r)[k * 2 + 2 + 1]? = _
      have := ih hk'
      rw [List.getElem?_append_right (by simp [hkC]), List.getElem?_append_right (by simp [hkC])]
      have e2 : k * 2 + 2 - (hkC x).length = k * 2 := by simp [hkC]
      have e3 : k * 2 + 2 + 1 - (hkC x).length = k * 2 + 1 := by simp [hkC]
      rw [e2, e3]
      exact this
theorem c_subG {x y u v : Nat} (hx : x ≤ 60) (hy : y ≤ 60) (hu : u ≤ x) (hv : v ≤ y) (w : World) :
    (binOp .sub 74 (.complex .f64 (fl x) (fl y)) (.complex .f64 (fl u) (fl v))).run Try.prog w = .ok (.complex .f64 (fl (x - u)) (fl (y - v))) w := by
  refine run_complex_sum w .sub (.inr rfl) _ _ _ _ _ _ _ _ ?_
  unfold cSumBits
  rw [fl_sub hx hu, fl_sub hy hv]
  rfl
theorem ord_lt {x y : Nat} (hx : x < 1100) (hy : y < 1100) (h : y ≤ x) : (FloatKind.f64.format.order (fl x) (fl y) == some .lt) = false := by
  rcases cmp_ge hx hy h with h | h <;> rw [h] <;> rfl
end Go.Proofs.Ytidpdhnbnecddaa
