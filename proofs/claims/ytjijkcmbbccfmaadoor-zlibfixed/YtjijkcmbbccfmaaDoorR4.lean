/-
  The plain mathematics of bits in ints.
-/
import Derived.WalkKit
import Derived.Laws.BitsAllLaws
import Derived.Test.YtjijkcmbbccfmaaDoorR1
namespace Go.Proofs.YtjijkcmbbccfmaaDoor
open Go.RowKit

theorem wrap_small (x : Int) (h0 : -9223372036854775808 ≤ x) (h1 : x < 9223372036854775808) : IntKind.i64.wrap x = x := by
  rw [IntKind.wrap_i64]
  omega
theorem i64_or_nat (a b : Nat) (ha : a < 4611686018427387904) (hb : b < 4611686018427387904) : bits .or .i64 (a : Int) (b : Int) = ((a ||| b : Nat) : Int) := by
  have hx : a ||| b < 2 ^ 62 := Nat.or_lt_two_pow (by omega) (by omega)
  show IntKind.i64.wrap ((BitVec.ofInt 64 (a : Int) ||| BitVec.ofInt 64 (b : Int)).toNat : Int) = _
  rw [BitVec.toNat_or, ofInt_u64 a (by omega), ofInt_u64 b (by omega)]
  exact wrap_small _ (by omega) (by omega)
theorem i64_and_nat (a b : Nat) (ha : a < 4611686018427387904) (hb : b < 4611686018427387904) : bits .and .i64 (a : Int) (b : Int) = ((a &&& b : Nat) : Int) := by
  have hx : a &&& b < 2 ^ 62 := Nat.and_lt_two_pow _ (by omega)
  show IntKind.i64.wrap ((BitVec.ofInt 64 (a : Int) &&& BitVec.ofInt 64 (b : Int)).toNat : Int) = _
  rw [BitVec.toNat_and, ofInt_u64 a (by omega), ofInt_u64 b (by omega)]
  exact wrap_small _ (by omega) (by omega)
theorem i64_xor_nat (a b : Nat) (ha : a < 4611686018427387904) (hb : b < 4611686018427387904) : bits .xor .i64 (a : Int) (b : Int) = ((a ^^^ b : Nat) : Int) := by
  have hx : a ^^^ b < 2 ^ 62 := Nat.xor_lt_two_pow (by omega) (by omega)
  show IntKind.i64.wrap ((BitVec.ofInt 64 (a : Int) ^^^ BitVec.ofInt 64 (b : Int)).toNat : Int) = _
  rw [BitVec.toNat_xor, ofInt_u64 a (by omega), ofInt_u64 b (by omega)]
  exact wrap_small _ (by omega) (by omega)
/-- A bit more, at the low end. -/
theorem or_bit (x b : Int) (h0 : 0 ≤ x) (h1 : x < 1073741824) (hb0 : 0 ≤ b) (hb1 : b ≤ 1) : bits .or .i64 (x * 2) b = 2 * x + b := by
  obtain ⟨a, rfl⟩ := Int.eq_ofNat_of_zero_le h0
  obtain ⟨c, rfl⟩ := Int.eq_ofNat_of_zero_le hb0
  have e : ((a : Int) * 2) = ((a * 2 : Nat) : Int) := by omega
  rw [e, i64_or_nat _ _ (by omega) (by omega), nat_join 1 (a * 2) c (by omega) (by omega)]
  omega
/-- All bits of a number of 16 bits turned over. -/
theorem xor_16 (x : Int) (h0 : 0 ≤ x) (h1 : x < 65536) : bits .xor .i64 x 65535 = 65535 - x := by
  obtain ⟨a, rfl⟩ := Int.eq_ofNat_of_zero_le h0
  have e := i64_xor_nat a 65535 (by omega) (by omega)
  have e2 : a ^^^ 65535 = 65535 - a := by
    apply Nat.eq_of_testBit_eq
    intro i
    rw [Nat.testBit_xor]
    have h3 : (65535 : Nat) = 2 ^ 16 - 1 := by decide
    rw [h3, Nat.testBit_two_pow_sub_one, show 2 ^ 16 - 1 - a = 2 ^ 16 - (a + 1) from by omega, Nat.testBit_two_pow_sub_succ (by omega)]
    by_cases hi : i < 16
    · simp [hi]
    · have : a.testBit i = false := Nat.testBit_lt_two_pow (Nat.lt_of_lt_of_le (show a < 2 ^ 16 by omega) (Nat.pow_le_pow_right (by omega) (by omega)))
      simp [hi, this]
  rw [show ((65535 : Nat) : Int) = 65535 from rfl] at e
  rw [e, e2]
  omega

open Go.RowKit

/-- Codes in order: as many symbols as the counts say, below n. -/
structure CdOk (c : Cd) (n : Int) : Prop where
  len0 : 1 ≤ c.counts.length
  len1 : c.counts.length ≤ 16
  pos : AllIn 0 1000 c.counts
  sum : c.counts.tail.sum = c.symbols.length
  sym : AllIn 0 n c.symbols
  few : c.symbols.length ≤ 1000

/-- Codes in memory, apart from the reader's blocks. -/
def Sep (rb : Nat) (ob : Option Nat) : Nat → Prop := fun b => b ≠ rb ∧ some b ≠ ob
structure CdR (rb : Nat) (ob : Option Nat) (w : World) (v : Value) (c : Cd) : Prop where
  form : ∃ cv sv, v = .agg #[cv, sv] ∧ Rd .i64 (Sep rb ob) w cv c.counts ∧ Rd .i64 (Sep rb ob) w sv c.symbols
theorem Rd.mv {k : IntKind} {rb : Nat} {ob ob' : Option Nat} {w w' : World} {v : Value} {xs : List Int} (h : Rd k (Sep rb ob) w v xs) (m : Mv rb ob ob' w w') : Rd k (Sep rb ob') w' v xs := by
  refine h.far m.fr.size fun b hb hs => ⟨⟨hs.1, ?_⟩, m.fr.block b hb hs.1 hs.2⟩
  rcases m.at_ with e | ⟨g, e, hg⟩
  · rw [e]; exact hs.2
  · rw [e]; intro e'; simp at e'; omega
theorem CdR.mv {rb : Nat} {ob ob' : Option Nat} {w w' : World} {v : Value} {c : Cd} (h : CdR rb ob w v c) (m : Mv rb ob ob' w w') : CdR rb ob' w' v c := by
  obtain ⟨cv, sv, hv, h1, h2⟩ := h.form
  exact ⟨cv, sv, hv, h1.mv m, h2.mv m⟩

theorem sum_nonneg : ∀ (l : List Int), AllIn 0 1000 l → 0 ≤ l.sum
  | [], _ => by simp
  | x :: l, h => by
    have h1 := h x (by simp)
    have h2 := sum_nonneg l (fun y hy => h y (by simp [hy]))
    simp only [List.sum_cons]
    omega

theorem numF_one (p : List Int) (t : Nat) (b : Int) (t' : Nat) (h : numF p 1 t = .ok b t') : 0 ≤ b ∧ b ≤ 1 ∧ t' = t + 1 := by
  unfold numF at h
  split at h
  · cases h
    have := valF_range p 1 t
    simp at this
    exact ⟨this.1, by omega, rfl⟩
  · cases h

set_option maxHeartbeats 2000000 in
set_option maxRecDepth 100000 in
theorem symbol_any {W0 w : World} {rb : Nat} {ob : Option Nat} {inV : Value} {p out : List Int} {most t : Nat} {c : Cd} {n : Int} {cV : Value} (hok : CdOk c n) (hc : CdR rb ob w cV c) (h : Rdr W0 w rb ob inV p most out t) :
    Calls Tryd.prog 50 #[.pointer (some ⟨rb, 0, none⟩), cV] w fun e w' => After W0 w w' rb ob inV p most out (symF p c t) e encI zeroI := by
  obtain ⟨cv, sv, rfl, hcv, hsv⟩ := hc.form
  obtain ⟨cb, co, cc, rfl, hcb, hcc, hcm, hcs, hcells⟩ := hcv.open (by have := hok.len0; omega)
  have hl0 := hok.len0
  have hl1 := hok.len1
  have hlt := h.blk
  obtain ⟨_, _, _, hB, -⟩ := hlt
  have hrb := hB.lt
  have hoblt := h.ob_ge
  have hbx : ∀ wr, Fr rb ob (w.alloc (.cells #[.slice (some ⟨cb, co, none⟩) c.counts.length cc, sv] 69)) wr → wr.cell? ⟨w.heap.size, 1, none⟩ = some sv := by
    intro wr hf
    rw [World.cell?_of_block (w := w.alloc (.cells #[.slice (some ⟨cb, co, none⟩) c.counts.length cc, sv] 69)) (a := ⟨w.heap.size, 1, none⟩) (hf.block w.heap.size (by simp) (by omega) (fun e => by have := (hoblt _ e.symm).2; omega))]
    simp
  have hw1 : Rdr W0 (w.alloc (.cells #[.slice (some ⟨cb, co, none⟩) c.counts.length cc, sv] 69)) rb ob inV p most out t := h.far ((Below.refl _ w).alloc (Nat.le_refl _) _)
  have hcel : ∀ wr, Fr rb ob (w.alloc (.cells #[.slice (some ⟨cb, co, none⟩) c.counts.length cc, sv] 69)) wr → ∀ i, i < c.counts.length → wr.cell? ⟨cb, co + i, none⟩ = some (.int .i64 (c.counts.getD i 0)) := by
    intro wr hf i hi
    rw [World.cell?_of_block (w := w) (a := ⟨cb, co + i, none⟩), hcells i hi]
    show wr.heap[cb]? = w.heap[cb]?
    rw [hf.block cb (by simp; omega) hcs.1 hcs.2, Below.heap_alloc _ _ _ hcb]
  have KX := Kept.mk hbx
  have KC := Kept.mk hcel
  have KH := Kept.mk h
  have K1 := Kept.mk hw1
  have KK := Kept.mk hok
  have KS := Kept.mk hsv
  clear hbx hcel h hw1 hok hc hcv hcells hB hsv hcs
  by_cases hc1 : cc = 1
  · subst hc1
    have hl : c.counts.length = 1 := by omega
    have KL := Kept.mk hl
    have hx : ¬ (0 : Int) < ((c.counts.length - 1 : Nat) : Int) := by omega
    clear hl
    go_enter Tryd.func50, Tryd.ntmps50
    go_wp2
    go_loopw [16] (fun i wr => i = .int .i64 0 ∧ wr = w.alloc (.cells #[.slice (some ⟨cb, co, none⟩) c.counts.length 1, sv] 69)) (fun _ _ => 0)
    case atStart => exact ⟨rfl, rfl⟩
    case round =>
      obtain ⟨rfl, rfl⟩ := hrel
      go_wp2
      go_ret2
      unfold After
      have e : symF p c t = .bad .form := by
        unfold symF
        have : c.counts.tail = [] := List.eq_nil_of_length_eq_zero (by simp [KL.out])
        rw [this, symGo]
      rw [e]
      exact ⟨rfl, KH.out.bel.alloc KH.out.bel.size _, (Fr.refl rb ob w).alloc _⟩
  · go_enter Tryd.func50, Tryd.ntmps50
    go_wp2
    go_loopw [6, 7, 16] (fun s6 s7 s16 wr => ∃ (k tk : Nat) (past at_ : Int), k ≤ c.counts.length - 1 ∧ s6 = .int .i64 past ∧ s7 = .int .i64 at_ ∧ s16 = .int .i64 k ∧ 0 ≤ past ∧ past < 2 ^ k ∧ 0 ≤ at_ ∧ at_ + (c.counts.tail.drop k).sum = c.symbols.length ∧ symGo p c.symbols (c.counts.tail.drop k) past at_ tk = symF p c t ∧ Rdr W0 wr rb ob inV p most out tk ∧ Fr rb ob (w.alloc (.cells #[.slice (some ⟨cb, co, none⟩) c.counts.length cc, sv] 69)) wr) (fun _ _ s16 _ => c.counts.length - 1 - (intOf s16).toNat)
    case atStart => exact ⟨0, t, 0, 0, by omega, rfl, rfl, rfl, by omega, by simp, by omega, by rw [List.drop_zero, KK.out.sum]; simp, by rw [List.drop_zero]; rfl, K1.out, Fr.refl _ _ _⟩
    case round =>
      obtain ⟨k, tk, past, at_, hk, rfl, rfl, rfl, hp0, hp1, ha0, hsum, hsym, hR, hF⟩ := hrel
      have KR := Kept.mk hR
      have KF := Kept.mk hF
      have KSY := Kept.mk hsym
      have KSU := Kept.mk hsum
      clear hR hF hsym hsum
      have hpk : (2 : Int) ^ k ≤ 32768 := by
        have : (2 : Nat) ^ k ≤ 2 ^ 15 := Nat.pow_le_pow_right (by omega) (by omega)
        exact_mod_cast this
      by_cases hlt : k < c.counts.length - 1
      · have hdrop : c.counts.tail.drop k = c.counts.getD (k + 1) 0 :: c.counts.tail.drop (k + 1) := by
          rw [List.drop_eq_getElem_cons (by simp; omega)]
          simp [List.getD, List.getElem?_eq_getElem (show k + 1 < c.counts.length by omega)]
        have hcn := KK.out.pos.getD (by omega) (k + 1)
        have hci := KC.out _ KF.out (k + 1) (by omega)
        have hrest := sum_nonneg (c.counts.tail.drop (k + 1)) (fun y hy => KK.out.pos y (List.mem_of_mem_tail (List.mem_of_mem_drop hy)))
        have hS := KSU.out
        have hG := KSY.out
        rw [hdrop] at hS hG
        simp only [List.sum_cons] at hS
        rw [symGo] at hG
        have hfew := KK.out.few
        have hnum := number_any 1 (by omega) KR.out
        have hx1 : co + (k + 1) = co + 1 + k := by omega
        rw [hx1] at hci
        have KD := Kept.mk hdrop
        generalize c.counts.getD (k + 1) 0 = cn at *
        clear hdrop
        have hki : (k : Int) < ((c.counts.length - 1 : Nat) : Int) := by omega
        rcases hq : numF p 1 tk with ⟨b, t1⟩ | er
        · obtain ⟨hb0, hb1, rfl⟩ := numF_one p tk b t1 hq
          rw [hq] at hnum hG
          dsimp only at hG
          simp only [After, encI] at hnum
          have KN := Kept.mk hnum
          have KG := Kept.mk hG
          have hor := or_bit past b hp0 (by omega) hb0 hb1
          clear hnum hG
          by_cases hin : 2 * past + b < cn
          · obtain ⟨sb, so, sc, rfl, hsb, hsc, hscm, hss, hscell⟩ := KS.out.open (by omega)
            have hidx : ∃ j : Nat, at_ + (2 * past + b) = j ∧ j < c.symbols.length := ⟨(at_ + (2 * past + b)).toNat, by omega, by omega⟩
            obtain ⟨j, hj, hjl⟩ := hidx
            have hcj := hscell j hjl
            have KCJ : Kept (∀ w1, Fr rb ob wr w1 → w1.cell? ⟨sb, so + j, none⟩ = some (.int .i64 (c.symbols.getD j 0))) := ⟨fun w1 hF1 => by
              rw [World.cell?_of_block (w := w) (a := ⟨sb, so + j, none⟩), hcj]
              show w1.heap[sb]? = w.heap[sb]?
              rw [(KF.out.trans hF1).block sb (by simp; omega) hss.1 hss.2, Below.heap_alloc _ _ _ hsb]⟩
            have hji : (j : Int) < (c.symbols.length : Int) := by omega
            have hG := KG.out
            rw [if_pos hin, hj, Int.toNat_natCast] at hG
            have KG2 := Kept.mk hG
            clear hscell hcj KG hG hsc hscm hss
            generalize c.symbols.getD j 0 = y at *
            go_wp2_with (go_at_call 68; refine Calls.mono KN.out (fun e w1 hp => ?_); obtain ⟨rfl, hR1, hF1⟩ := hp; have cx := KX.out _ (KF.out.trans hF1); have cy := KCJ.out _ hF1; have KR1 := Kept.mk hR1; have KF1 := Kept.mk hF1; clear hR1 hF1)
            go_ret2
            unfold After
            rw [← KG2.out]
            exact ⟨rfl, KR1.out, ((Fr.refl rb ob w).alloc _).trans (KF.out.trans KF1.out)⟩
          · have hG := KG.out
            rw [if_neg hin] at hG
            have KG2 := Kept.mk hG
            clear KG hG
            go_wp2_with (go_at_call 68; refine Calls.mono KN.out (fun e w1 hp => ?_); obtain ⟨rfl, hR1, hF1⟩ := hp; have KR1 := Kept.mk hR1; have KF1 := Kept.mk hF1; clear hR1 hF1)
            go_roundw
            case rel =>
              refine ⟨k + 1, tk + 1, 2 * past + b - cn, at_ + cn, by omega, rfl, rfl, by go_num, by omega, ?_, by omega, by omega, KG2.out, KR1.out, KF.out.trans KF1.out⟩
              rw [Int.pow_succ]
              omega
            case measure => simp [intOf]; omega
        · rw [hq] at hnum hG
          dsimp only at hG
          simp only [After, zeroI] at hnum
          have KN := Kept.mk hnum
          have KG := Kept.mk hG
          have her := er.rng
          have hne : ¬ er.v = 0 := by omega
          clear hnum hG
          go_wp2_with (go_at_call 68; refine Calls.mono KN.out (fun e w1 hp => ?_); obtain ⟨rfl, hR1, hF1⟩ := hp; have KR1 := Kept.mk hR1; have KF1 := Kept.mk hF1; clear hR1 hF1)
          go_ret2
          unfold After
          rw [← KG.out]
          exact ⟨rfl, KR1.out, ((Fr.refl rb ob w).alloc _).trans (KF.out.trans KF1.out)⟩
      · go_wp2
        go_ret2
        unfold After
        have e : symF p c t = .bad .form := by
          rw [← KSY.out]
          have : c.counts.tail.drop k = [] := List.eq_nil_of_length_eq_zero (by simp; omega)
          rw [this, symGo]
        rw [e]
        exact ⟨rfl, KR.out.bel, ((Fr.refl rb ob w).alloc _).trans KF.out⟩


def idxU (L : List Int) (n : Nat) : List Int := if n = 0 then [] else idxF n L 0
def symsU (L : List Int) : Nat → List Int
  | 0 => []
  | n + 1 => symsU L n ++ idxU L n
def cntsU (L : List Int) : Nat → List Int
  | 0 => []
  | n + 1 => cntsU L n ++ [((idxU L n).length : Int)]
theorem symsU_eq (L : List Int) : ∀ n, symsU L (n + 1) = symsF L n
  | 0 => rfl
  | n + 1 => by
    rw [symsU, symsU_eq L n, symsF, idxU, if_neg (by omega)]
    rfl
theorem cntsU_eq (L : List Int) : ∀ n, cntsU L (n + 1) = cntsF L n
  | 0 => rfl
  | n + 1 => by
    rw [cntsU, cntsU_eq L n, cntsF, idxU, if_neg (by omega)]
    rfl
theorem mkCd_cu (L : List Int) : (mkCd L).counts = trimF (cntsU L 16) := by
  have h := cntsU_eq L 15
  simp only [Nat.reduceAdd] at h
  unfold mkCd
  rw [h]
theorem mkCd_sy (L : List Int) : (mkCd L).symbols = symsU L 16 := by
  have h := symsU_eq L 15
  simp only [Nat.reduceAdd] at h
  unfold mkCd
  rw [h]
theorem cntsU_length (L : List Int) : ∀ n, (cntsU L n).length = n
  | 0 => rfl
  | n + 1 => by simp [cntsU, cntsU_length L n]

theorem trimF_step (l : List Int) (h1 : 1 < l.length) (h2 : l.getD (l.length - 1) 0 = 0) : trimF l = trimF (l.take (l.length - 1)) := by
  rcases List.eq_nil_or_concat l with rfl | ⟨i, x, rfl⟩
  · simp at h1
  simp only [List.concat_eq_append, List.length_append, List.length_singleton, Nat.add_sub_cancel] at h1 h2 ⊢
  have hx : x = 0 := by simpa [List.getD] using h2
  subst hx
  rw [List.take_left]
  unfold trimF
  rw [List.reverse_append, List.reverse_singleton, List.singleton_append]
  cases hr : i.reverse with
  | nil =>
    have : i.length = 0 := by rw [← List.length_reverse, hr]; rfl
    omega
  | cons y ys => rw [trimR, if_pos rfl]
theorem trimF_stop (l : List Int) (h : l.length ≤ 1 ∨ l.getD (l.length - 1) 0 ≠ 0) : trimF l = l := by
  rcases List.eq_nil_or_concat l with rfl | ⟨i, x, rfl⟩
  · rfl
  · simp only [List.concat_eq_append, List.length_append, List.length_singleton, Nat.add_sub_cancel] at h ⊢
    unfold trimF
    rw [List.reverse_append, List.reverse_singleton, List.singleton_append]
    cases hr : i.reverse with
    | nil =>
      have hi : i = [] := by simpa using hr
      subst hi
      rfl
    | cons y ys =>
      have hl : i.length ≠ 0 := by rw [← List.length_reverse, hr]; simp
      have hx : x ≠ 0 := by
        rcases h with h | h
        · omega
        · simpa [List.getD] using h
      rw [trimR, if_neg hx, ← hr]
      simp

theorem idxF_length (n : Int) : ∀ (L : List Int) (i : Int), (idxF n L i).length ≤ L.length
  | [], _ => by simp [idxF]
  | x :: L, i => by
    have := idxF_length n L (i + 1)
    unfold idxF
    split <;> simp <;> omega
theorem idxF_in (n : Int) : ∀ (L : List Int) (i : Int), ∀ y ∈ idxF n L i, i ≤ y ∧ y < i + L.length
  | [], _, y, h => by simp [idxF] at h
  | x :: L, i, y, h => by
    have ih := idxF_in n L (i + 1) y
    simp only [List.length_cons]
    unfold idxF at h
    split at h
    · rcases List.mem_cons.1 h with rfl | h
      · omega
      · have := ih h
        omega
    · have := ih h
      omega
/-- All symbols that have a length, counted. -/
theorem sum_idx (L : List Int) : ∀ (n : Nat) , (symsF L n).length = ((cntsF L n).tail).sum
  | 0 => by simp [symsF, cntsF]
  | n + 1 => by
    have ih := sum_idx L n
    have hne : cntsF L n ≠ [] := by
      cases n <;> simp [cntsF]
    rw [symsF, cntsF, List.tail_append_of_ne_nil hne, List.sum_append, ← ih, List.length_append]
    simp
theorem symsF_cons (x : Int) (L : List Int) : ∀ n, (symsF (x :: L) n).length ≤ (symsF L n).length + if 0 < x ∧ x ≤ n then 1 else 0 := by
  have e : ∀ (n : Int) (L : List Int) (i j : Int), (idxF n L i).length = (idxF n L j).length := by
    intro n L
    induction L with
    | nil => intro i j; rfl
    | cons y L ih =>
      intro i j
      unfold idxF
      split
      · simp [ih (i + 1) (j + 1)]
      · exact ih _ _
  intro n
  induction n with
  | zero => simp [symsF]
  | succ n ih =>
    simp only [symsF, List.length_append]
    have h1 := e ((n : Int) + 1) L (0 + 1) 0
    by_cases hx : x = (n : Int) + 1
    · have : (idxF ((n : Int) + 1) (x :: L) 0).length = (idxF ((n : Int) + 1) L 0).length + 1 := by
        rw [idxF, if_pos hx, List.length_cons, h1]
      rw [if_neg (by omega)] at ih
      rw [if_pos (by omega)]
      omega
    · have : (idxF ((n : Int) + 1) (x :: L) 0).length = (idxF ((n : Int) + 1) L 0).length := by
        rw [idxF, if_neg hx, h1]
      split at ih <;> split <;> omega
theorem symsF_length (n : Nat) : ∀ (L : List Int), (symsF L n).length ≤ L.length
  | [] => by
    induction n with
    | zero => simp [symsF]
    | succ n ih => simp only [symsF, List.length_append, idxF, List.length_nil] at *; omega
  | x :: L => by
    have h := symsF_cons x L n
    have ih := symsF_length n L
    simp only [List.length_cons]
    split at h <;> omega
theorem symsF_in (L : List Int) : ∀ (n : Nat), ∀ y ∈ symsF L n, 0 ≤ y ∧ y < L.length
  | 0, y, h => by simp [symsF] at h
  | n + 1, y, h => by
    rw [symsF] at h
    rcases List.mem_append.1 h with h | h
    · exact symsF_in L n y h
    · have := idxF_in _ L 0 y h
      omega
theorem cntsF_length (L : List Int) (n : Nat) : (cntsF L n).length = n + 1 := by rw [← cntsU_eq, cntsU_length]
theorem cntsF_in (L : List Int) : ∀ (n : Nat), ∀ y ∈ cntsF L n, 0 ≤ y ∧ y ≤ L.length
  | 0, y, h => by simp [cntsF] at h; omega
  | n + 1, y, h => by
    rw [cntsF] at h
    rcases List.mem_append.1 h with h | h
    · exact cntsF_in L n y h
    · have := idxF_length ((n : Int) + 1) L 0
      simp at h
      omega
/-- What the end loses is 0. -/
theorem trimR_spec : ∀ (l : List Int), l ≠ [] → ∃ z : Nat, l = List.replicate z 0 ++ trimR l ∧ trimR l ≠ []
  | [], h => absurd rfl h
  | [x], _ => ⟨0, by simp [trimR], by simp [trimR]⟩
  | x :: y :: ys, _ => by
    obtain ⟨z, h1, h2⟩ := trimR_spec (y :: ys) (by simp)
    by_cases hx : x = 0
    · subst hx
      refine ⟨z + 1, ?_, ?_⟩
      · rw [trimR, if_pos rfl, List.replicate_succ, List.cons_append, ← h1]
      · rw [trimR, if_pos rfl]; exact h2
    · exact ⟨0, by rw [trimR, if_neg hx]; simp, by rw [trimR, if_neg hx]; simp⟩
theorem trimF_spec (l : List Int) (h : l ≠ []) : ∃ z : Nat, l = trimF l ++ List.replicate z 0 ∧ trimF l ≠ [] := by
  obtain ⟨z, h1, h2⟩ := trimR_spec l.reverse (by simpa using h)
  refine ⟨z, ?_, by unfold trimF; simpa using h2⟩
  have := congrArg List.reverse h1
  rw [List.reverse_reverse, List.reverse_append, List.reverse_replicate] at this
  exact this
theorem mkCd_few (L : List Int) : (mkCd L).symbols.length ≤ L.length := symsF_length 15 L
theorem sum_rep0 : ∀ z : Nat, (List.replicate z (0 : Int)).sum = 0
  | 0 => rfl
  | z + 1 => by rw [List.replicate_succ, List.sum_cons, sum_rep0 z]; rfl
theorem mkCd_counts (L : List Int) : 1 ≤ (mkCd L).counts.length ∧ (mkCd L).counts.length ≤ 16 ∧ (∀ y ∈ (mkCd L).counts, 0 ≤ y ∧ y ≤ L.length) ∧ (mkCd L).counts.tail.sum = (mkCd L).symbols.length := by
  have hl := cntsF_length L 15
  obtain ⟨z, h1, h2⟩ := trimF_spec (cntsF L 15) (by intro e; rw [e] at hl; simp at hl)
  unfold mkCd
  dsimp only
  have hin := cntsF_in L 15
  have hs := sum_idx L 15
  generalize cntsF L 15 = C at *
  generalize trimF C = T at *
  have hl2 := congrArg List.length h1
  simp only [List.length_append, List.length_replicate] at hl2
  refine ⟨by cases T <;> simp at *, by omega, fun y hy => hin y (by rw [h1]; simp [hy]), ?_⟩
  rw [h1, List.tail_append_of_ne_nil h2, List.sum_append, sum_rep0, Int.add_zero] at hs
  omega
end Go.Proofs.YtjijkcmbbccfmaaDoor
