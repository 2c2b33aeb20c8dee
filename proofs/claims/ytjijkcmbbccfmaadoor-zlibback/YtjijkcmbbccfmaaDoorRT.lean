/-
  The plain mathematics of what is written and read again.
-/
import Derived.Test.YtjijkcmbbccfmaaDoorS1
import Derived.Test.YtjijkcmbbccfmaaDoorF34
namespace Go.Proofs.YtjijkcmbbccfmaaDoor
open Go.RowKit

/-- These bits stand from t on. -/
def At (P : List Int) (t : Nat) (L : List Int) : Prop := t + L.length ≤ 8 * P.length ∧ ∀ i, i < L.length → bitF P (t + i) = L.getD i 0
theorem At.left {P L M : List Int} {t : Nat} (h : At P t (L ++ M)) : At P t L := by
  refine ⟨by have := h.1; rw [List.length_append] at this; omega, fun i hi => ?_⟩
  rw [h.2 i (by rw [List.length_append]; omega)]
  simp [List.getD, List.getElem?_append, hi]
theorem At.right {P L M : List Int} {t : Nat} (h : At P t (L ++ M)) : At P (t + L.length) M := by
  refine ⟨by have := h.1; rw [List.length_append] at this; omega, fun i hi => ?_⟩
  rw [Nat.add_assoc, h.2 (L.length + i) (by rw [List.length_append]; omega)]
  simp only [List.getD]
  rw [List.getElem?_append_right (by omega), Nat.add_sub_cancel_left]
theorem At.first {P r : List Int} {b : Int} {t : Nat} (h : At P t (b :: r)) : bitF P t = b ∧ At P (t + 1) r ∧ t + 1 ≤ 8 * P.length := by
  have h1 := h.1
  rw [List.length_cons] at h1
  refine ⟨h.2 0 (by simp), ?_, by omega⟩
  exact At.right (L := [b]) h
theorem valF_at {P : List Int} : ∀ {L : List Int} {t : Nat}, At P t L → valF P t L.length = valL L
  | [], _, _ => rfl
  | b :: r, t, h => by
    obtain ⟨h1, h2, -⟩ := h.first
    rw [List.length_cons, valF, h1, valF_at h2]
    rfl
theorem num_at {P : List Int} {t n : Nat} {v : Int} (h : At P t (bitsL v n)) (h0 : 0 ≤ v) (h1 : v < 2 ^ n) : numF P n t = .ok v (t + n) := by
  have h2 := h.1
  have h3 := valF_at h
  rw [bitsL_length] at h2 h3
  unfold numF
  rw [if_pos h2, h3, valL_bitsL v h0, Int.emod_eq_of_lt h0 h1]

theorem valL_bit : ∀ (l : List Int) (j : Nat), IsBits l → valL l / 2 ^ j % 2 = l.getD j 0
  | [], j, _ => by simp [valL]
  | b :: r, 0, h => by
    have := h b (by simp)
    simp only [valL, Int.pow_zero, Int.ediv_one]
    simp
    omega
  | b :: r, j + 1, h => by
    have hb := h b (by simp)
    have ih := valL_bit r j (fun x hx => h x (by simp [hx]))
    have e : (b + 2 * valL r) / 2 = valL r := by omega
    rw [valL, Int.pow_succ, Int.mul_comm (2 ^ j) 2, ← Int.ediv_ediv_of_nonneg (by omega), e, ih]
    simp
theorem pack_get : ∀ (k : Nat) (L : List Int), 8 * k < L.length → (packF L).getD k 0 = valL ((L.drop (8 * k)).take 8)
  | 0, L, h => by
    rw [packF_cons (by omega)]
    simp
  | k + 1, L, h => by
    rw [packF_cons (by omega)]
    have := pack_get k (L.drop 8) (by simp; omega)
    rw [List.drop_drop, show 8 + 8 * k = 8 * (k + 1) from by omega] at this
    simpa using this
theorem at_pack {L : List Int} (hb : IsBits L) (more : List Int) : At (packF L ++ more) 0 L := by
  have hlen := packF_len _ L (Nat.le_refl _)
  refine ⟨by rw [List.length_append]; omega, fun i hi => ?_⟩
  rw [Nat.zero_add]
  unfold bitF
  have e1 : (packF L ++ more).getD (i / 8) 0 = (packF L).getD (i / 8) 0 := by
    simp [List.getD, List.getElem?_append, show i / 8 < (packF L).length by omega]
  rw [e1, pack_get (i / 8) L (by omega), valL_bit _ _ ((hb.drop _).take 8)]
  simp only [List.getD, List.getElem?_take, List.getElem?_drop]
  rw [if_pos (by omega), show 8 * (i / 8) + i % 8 = i from by omega]

/-- A symbol, by its bits. -/
def symGoB (syms : List Int) : List Int → List Int → Int → Int → Option Int
  | c :: cs, b :: bs, past, at_ => if 2 * past + b < c then (if bs = [] then some (syms.getD (at_ + (2 * past + b)).toNat 0) else none) else symGoB syms cs bs (2 * past + b - c) (at_ + c)
  | _, _, _, _ => none
theorem symGo_at {P syms : List Int} {s : Int} : ∀ (cs bs : List Int) (past at_ : Int) (t : Nat), symGoB syms cs bs past at_ = some s → At P t bs → symGo P syms cs past at_ t = .ok s (t + bs.length)
  | [], bs, past, at_, t, h, _ => by simp [symGoB] at h
  | c :: cs, [], past, at_, t, h, _ => by simp [symGoB] at h
  | c :: cs, b :: bs, past, at_, t, h, hA => by
    obtain ⟨h1, h2, h3⟩ := hA.first
    have hn : numF P 1 t = .ok b (t + 1) := by
      unfold numF
      rw [if_pos h3]
      simp [valF, h1]
    rw [symGoB] at h
    rw [symGo, hn]
    dsimp only
    by_cases hc : 2 * past + b < c
    · rw [if_pos hc] at h ⊢
      by_cases hb : bs = []
      · rw [if_pos hb] at h
        subst hb
        injection h with h
        rw [h]
        rfl
      · rw [if_neg hb] at h
        cases h
    · rw [if_neg hc] at h ⊢
      rw [symGo_at cs bs _ _ (t + 1) h h2, List.length_cons]
      congr 1
      omega
theorem fixSym_all : (List.range 288).all (fun s => decide (symGoB (mkCd fixedL).symbols (mkCd fixedL).counts.tail (symL s) 0 0 = some ((s : Nat) : Int))) = true := by kernel_rfl
theorem fixDist_all : (List.range 30).all (fun s => decide (symGoB (mkCd fixedD).symbols (mkCd fixedD).counts.tail (codeL s 5) 0 0 = some ((s : Nat) : Int))) = true := by kernel_rfl
theorem sym_at {P : List Int} {t s : Nat} (hs : s < 288) (h : At P t (symL s)) : symF P (mkCd fixedL) t = .ok s (t + (symL s).length) := by
  have h1 := List.all_eq_true.1 fixSym_all s (by simpa using hs)
  exact symGo_at _ _ _ _ _ (by simpa using h1) h
theorem dsym_at {P : List Int} {t s : Nat} (hs : s ≤ 29) (h : At P t (codeL s 5)) : symF P (mkCd fixedD) t = .ok s (t + 5) := by
  have h1 := List.all_eq_true.1 fixDist_all s (by simp; omega)
  have h2 := symGo_at _ _ _ _ _ (by simpa using h1) h
  rw [codeL_length] at h2
  exact h2
theorem length_at {P : List Int} {t v : Nat} (hv : v ≤ 255) (h : At P t (bitsL ((v : Int) + 3 - (dlen4 (sF v)).1) (dlen4 (sF v)).2)) : lengthF P (sF v) t = .ok ((v : Int) + 3) (t + (dlen4 (sF v)).2) := by
  obtain ⟨f1, f2, f3, -, -⟩ := len_facts hv
  simp only [condB, Bool.and_eq_true, Bool.or_eq_true, decide_eq_true_eq] at f3
  obtain ⟨g1, g2⟩ := f3
  unfold lengthF
  rw [if_neg (by omega)]
  by_cases h5 : sF v = 285
  · rw [if_pos (by omega)]
    have e : dlen4 ((sF v : Nat) : Int) = (258, 0) := by unfold dlen4; rw [if_pos (by omega)]
    rw [e] at g1 ⊢
    simp only at g1
    have : (v : Int) + 3 = 258 := by omega
    rw [this]
    rfl
  · rw [if_neg (by omega)]
    have g2' := g2.resolve_left h5
    by_cases h8 : (sF v : Int) < 265
    · rw [if_pos (by omega)]
      have e : dlen4 ((sF v : Nat) : Int) = ((sF v : Int) - 254, 0) := by unfold dlen4; rw [if_neg (by omega), if_pos h8]
      rw [e] at g1 g2' ⊢
      simp only [Int.pow_zero] at g1 g2'
      have : 3 + ((sF v : Int) - 257) = (v : Int) + 3 := by omega
      rw [this]
      rfl
    · rw [if_neg (by omega)]
      have e : dlen4 ((sF v : Nat) : Int) = (3 + (4 + ((sF v : Int) - 261) % 4) * 2 ^ (((sF v : Int) - 261) / 4).toNat, (((sF v : Int) - 261) / 4).toNat) := by unfold dlen4; rw [if_neg (by omega), if_neg h8]
      have e1 : ((sF v : Int) - 257) / 4 - 1 = ((sF v : Int) - 261) / 4 := by omega
      have e2 : ((sF v : Int) - 257) % 4 = ((sF v : Int) - 261) % 4 := by omega
      rw [e1, e2]
      rw [e] at g1 g2' h ⊢
      simp only at g1 g2' h ⊢
      rw [num_at h (by omega) (by omega)]
      simp only
      congr 1
      omega
theorem dist_at {P : List Int} {t v : Nat} (hv : v < 32768) (h : At P t (distL v)) : distF P (mkCd fixedD) t = .ok ((v : Int) + 1) (t + (distL v).length) := by
  obtain ⟨f1, f2, f3, f4⟩ := dist_facts hv
  rw [f4] at h ⊢
  have hl := h.left
  have hr := h.right
  rw [codeL_length] at hr
  unfold distF
  rw [dsym_at f1 hl]
  dsimp only
  rw [if_neg (by omega), List.length_append, codeL_length, bitsL_length]
  by_cases h4 : (sD v : Int) < 4
  · rw [if_pos h4]
    have e : ddist4 ((sD v : Nat) : Int) = ((sD v : Int) + 1, 0) := by unfold ddist4; rw [if_pos h4]
    rw [e] at f2 f3 ⊢
    simp only [Int.pow_zero] at f2 f3
    have : 1 + (sD v : Int) = (v : Int) + 1 := by omega
    rw [this]
    rfl
  · rw [if_neg h4]
    have e : ddist4 ((sD v : Nat) : Int) = (1 + (2 + (sD v : Int) % 2) * 2 ^ ((sD v : Int) / 2 - 1).toNat, ((sD v : Int) / 2 - 1).toNat) := by unfold ddist4; rw [if_neg h4]
    rw [e] at f2 f3 hr ⊢
    simp only at f2 f3 hr ⊢
    rw [num_at hr (by omega) (by omega)]
    simp only
    congr 1
    · omega
    · omega

/-- Copies of what stands in the text. -/
theorem cmF_get (p : List Int) : ∀ (F i j k : Nat), k < cmF p F i j → p.getD (i + k) 0 = p.getD (j + k) 0
  | 0, _, _, _, h => by simp [cmF] at h
  | F + 1, i, j, k, h => by
    rw [cmF] at h
    by_cases he : p.getD i 0 = p.getD j 0
    · rw [if_pos he] at h
      match k with
      | 0 => exact he
      | k + 1 =>
        have := cmF_get p F (i + 1) (j + 1) k (by omega)
        rw [show i + (k + 1) = i + 1 + k from by omega, show j + (k + 1) = j + 1 + k from by omega]
        exact this
    · rw [if_neg he] at h
      omega
theorem take_next {p : List Int} {i : Nat} (h : i < p.length) : p.take i ++ [p.getD i 0] = p.take (i + 1) := by
  rw [List.take_add_one]
  simp [List.getD, List.getElem?_eq_getElem h]
theorem copy_at {p : List Int} {most d : Nat} (hm : p.length ≤ most) : ∀ (n i : Nat), 1 ≤ d → d ≤ i → i + n ≤ p.length → (∀ k, k < n → p.getD (i + k) 0 = p.getD (i + k - d) 0) → copyF most d n (p.take i) = some (p.take (i + n))
  | 0, i, _, _, _, _ => rfl
  | n + 1, i, h1, h2, h3, hk => by
    have hl : (p.take i).length = i := by simp; omega
    have e0 := hk 0 (by omega)
    simp only [Nat.add_zero] at e0
    have e : (p.take i).getD (i - d) 0 = p.getD i 0 := by
      rw [e0]
      simp [List.getD, show i - d < i by omega]
    rw [copyF, hl, if_neg (by omega), e, take_next (by omega), copy_at hm n (i + 1) h1 (by omega) (by omega) (fun k hk' => by
      have := hk (k + 1) (by omega)
      rw [show i + 1 + k = i + (k + 1) from by omega]
      exact this)]
    congr 2
    omega
theorem symL_pos (s : Nat) : 7 ≤ (symL s).length := by
  unfold symL
  split
  · rw [codeL_length]; omega
  · split
    · rw [codeL_length]; omega
    · split
      · rw [codeL_length]; omega
      · rw [codeL_length]; omega
/-- A block of way 1 is read again. -/
theorem block_at {P p : List Int} {most : Nat} (hm : p.length ≤ most) (ha : AllB p) : ∀ (g i f t : Nat), i ≤ p.length → p.length - i ≤ g → At P t (tkF p g i ++ symL 256) → (tkF p g i ++ symL 256).length ≤ f →
    blockF P most (mkCd fixedL) (mkCd fixedD) f (p.take i) t = .ok p (t + (tkF p g i ++ symL 256).length) := by
  have fin : ∀ (f t : Nat), At P t (symL 256) → (symL 256).length ≤ f → blockF P most (mkCd fixedL) (mkCd fixedD) f p t = .ok p (t + (symL 256).length) := by
    intro f t hA hf
    have h7 := symL_pos 256
    obtain ⟨f', rfl⟩ : ∃ f', f = f' + 1 := ⟨f - 1, by omega⟩
    rw [blockF, sym_at (by omega) hA]
    dsimp only
    rw [if_pos (show ((256 : Nat) : Int) = 256 from rfl)]
  intro g
  induction g with
  | zero =>
    intro i f t hi hg hA hf
    have hil : i = p.length := by omega
    subst hil
    rw [tkF, List.nil_append] at hA hf ⊢
    rw [List.take_length]
    exact fin f t hA hf
  | succ g ih =>
    intro i f t hi hg hA hf
    rw [tkF] at hA hf ⊢
    by_cases hlt : i < p.length
    · rw [if_pos hlt] at hA hf ⊢
      have hby := ha.getD (by omega) i
      by_cases h0 : (mchF p i).1 = 0
      · rw [if_pos h0, List.append_assoc] at hA hf ⊢
        have h7 := symL_pos (p.getD i 0).toNat
        rw [List.length_append] at hf ⊢
        obtain ⟨f', rfl⟩ : ∃ f', f = f' + 1 := ⟨f - 1, by omega⟩
        have hs := sym_at (by omega) hA.left
        rw [Int.toNat_of_nonneg hby.1] at hs
        rw [blockF, hs]
        dsimp only
        rw [if_neg (by omega), if_pos (by omega), if_neg (by simp; omega), take_next hlt, ih (i + 1) f' _ (by omega) (by omega) hA.right (by omega), Nat.add_assoc]
      · rw [if_neg h0] at hA hf ⊢
        rcases mchF_ok p i with hok | ⟨q1, q2, q3, q4, q5, q6, q7⟩
        · rw [hok] at h0
          exact absurd rfl h0
        obtain ⟨n, hn⟩ : ∃ n, (mchF p i).1 = n := ⟨_, rfl⟩
        obtain ⟨d, hd⟩ : ∃ d, (mchF p i).2 = d := ⟨_, rfl⟩
        rw [hn] at hA hf q1 q2 q3 q7 ⊢
        rw [hd] at hA hf q4 q5 q6 q7 ⊢
        obtain ⟨v, rfl⟩ : ∃ v, n = v + 3 := ⟨n - 3, by omega⟩
        obtain ⟨e, rfl⟩ : ∃ e, d = e + 1 := ⟨d - 1, by omega⟩
        rw [Nat.add_sub_cancel, Nat.add_sub_cancel] at hA hf ⊢
        obtain ⟨f1, f2, -, f4, -⟩ := len_facts (v := v) (by omega)
        rw [f4] at hA hf ⊢
        simp only [List.append_assoc] at hA hf ⊢
        have h7 := symL_pos (sF v)
        obtain ⟨f', rfl⟩ : ∃ f', f = f' + 1 := ⟨f - 1, by rw [List.length_append] at hf; omega⟩
        have hA1 := hA.right
        have hA2 := hA1.right
        have hA3 := hA2.right
        rw [bitsL_length] at hA2 hA3
        rw [blockF, sym_at (by omega) hA.left]
        dsimp only
        rw [if_neg (by omega), if_neg (by omega)]
        have hM : Go.Proofs.YtjijkcmbbccfmaaDoor.matchF P most (mkCd fixedD) (sF v) (p.take i) (t + (symL (sF v)).length) = .ok (p.take (i + (v + 3))) (t + (symL (sF v)).length + (dlen4 (sF v)).2 + (distL e).length) := by
          unfold Go.Proofs.YtjijkcmbbccfmaaDoor.matchF
          rw [length_at (by omega) hA1.left]
          dsimp only
          rw [dist_at (by omega) hA2.left]
          dsimp only
          have hil : (p.take i).length = i := by simp; omega
          rw [hil, if_neg (by omega), show ((e : Int) + 1).toNat = e + 1 from by omega, show ((v : Int) + 3).toNat = v + 3 from by omega, copy_at hm (v + 3) i (by omega) (by omega) (by omega) (fun k hk => by
            have h1 : k < cmF p (min 258 (p.length - i)) i (i - (e + 1)) := by unfold snF at q7; omega
            have h2 := cmF_get p _ i (i - (e + 1)) k h1
            rw [h2, show i - (e + 1) + k = i + k - (e + 1) from by omega])]
        rw [hM]
        dsimp only
        simp only [List.length_append, bitsL_length] at hf ⊢
        rw [ih (i + (v + 3)) f' _ (by omega) (by omega) hA3 (by simp only [List.length_append]; omega)]
        simp only [List.length_append]
        congr 1
        omega
    · rw [if_neg hlt, List.nil_append] at hA hf ⊢
      have hil : i = p.length := by omega
      rw [hil, List.take_length]
      exact fin f t hA hf

theorem infl_fix {p : List Int} {most : Nat} (ha : AllB p) (hm : p.length ≤ most) (more : List Int) : inflF (packF (fixL p) ++ more) most = .ok p (fixL p).length := by
  have hA := at_pack (fixL_bits p) more
  have hA0 : At (packF (fixL p) ++ more) 0 ([1] ++ (bitsL 1 2 ++ (tkF p p.length 0 ++ symL 256))) := by
    have e : fixL p = [1] ++ (bitsL 1 2 ++ (tkF p p.length 0 ++ symL 256)) := by unfold fixL tksL; simp only [List.append_assoc]
    rw [← e]
    exact hA
  have hlen : (fixL p).length = 3 + (tkF p p.length 0 ++ symL 256).length := by
    unfold fixL tksL
    simp only [List.length_append, bitsL_length, List.length_cons, List.length_nil]
    omega
  generalize packF (fixL p) ++ more = P at *
  have h1 : numF P 1 0 = .ok 1 1 := num_at (v := 1) (n := 1) hA0.left (by omega) (by omega)
  have hA1 := hA0.right
  have h2 : numF P 2 1 = .ok 1 3 := num_at (v := 1) (n := 2) hA1.left (by omega) (by omega)
  have hA2 : At P 3 (tkF p p.length 0 ++ symL 256) := hA1.right
  have hb := block_at (P := P) hm ha p.length 0 (8 * P.length - 3 + 1) 3 (by omega) (by omega) hA2 (by have := hA2.1; omega)
  unfold inflF
  rw [streamF]
  unfold headF
  rw [h1]
  dsimp only
  rw [h2]
  dsimp only
  unfold wayF
  rw [if_neg (by omega), if_pos rfl]
  rw [List.take_zero] at hb
  rw [hb]
  dsimp only
  rw [if_neg (by omega), hlen]
theorem stream_st {P : List Int} {most : Nat} (hP : AllB P) : ∀ (g : Nat) (x pre rest out : List Int) (f : Nat), x.length ≤ 65535 * g → P = pre ++ (stGo g x ++ rest) → g + 1 ≤ f → out.length + x.length ≤ most →
    streamF P most f out (8 * pre.length) = .ok (out ++ x) (8 * (pre.length + (stGo g x).length)) := by
  have one : ∀ (x pre rest out : List Int) (f : Nat), x.length ≤ 65535 → P = pre ++ (hdL 1 x.length ++ x ++ rest) → 1 ≤ f → out.length + x.length ≤ most → streamF P most f out (8 * pre.length) = .ok (out ++ x) (8 * (pre.length + (hdL 1 x.length ++ x).length)) := by
    intro x pre rest out f hx he hf hM
    obtain ⟨f', rfl⟩ : ∃ f', f = f' + 1 := ⟨f - 1, by omega⟩
    have he' : P = pre ++ (blkF 1 x ++ rest) := he
    obtain ⟨h1, h2⟩ := block_stored (M := most) (out := out) hP he' (Or.inr rfl) hx hM
    rw [streamF, h1]
    dsimp only
    have hw : wayF P most 0 out (8 * pre.length + 3) = storedF P most out (8 * pre.length + 3) := by unfold wayF; rw [if_pos rfl]
    rw [hw, h2]
    dsimp only
    rw [if_neg (by omega)]
    rfl
  intro g
  induction g with
  | zero =>
    intro x pre rest out f hx he hf hM
    exact one x pre rest out f (by omega) he (by omega) hM
  | succ g ih =>
    intro x pre rest out f hx he hf hM
    rw [stGo] at he ⊢
    by_cases hl : 65535 < x.length
    · rw [if_pos hl] at he ⊢
      obtain ⟨f', rfl⟩ : ∃ f', f = f' + 1 := ⟨f - 1, by omega⟩
      have hxl : (x.take 65535).length = 65535 := by simp; omega
      have hbk : blkF 0 (x.take 65535) = hdL 0 65535 ++ x.take 65535 := by unfold blkF hdL; rw [hxl]
      have he' : P = pre ++ (blkF 0 (x.take 65535) ++ (stGo g (x.drop 65535) ++ rest)) := by rw [he, hbk]; simp only [List.append_assoc]
      obtain ⟨h1, h2⟩ := block_stored (M := most) (out := out) hP he' (Or.inl rfl) (by omega) (by omega)
      rw [streamF, h1]
      dsimp only
      have hw : wayF P most 0 out (8 * pre.length + 3) = storedF P most out (8 * pre.length + 3) := by unfold wayF; rw [if_pos rfl]
      rw [hw, h2]
      dsimp only
      rw [if_pos rfl]
      have h3 := ih (x.drop 65535) (pre ++ blkF 0 (x.take 65535)) rest (out ++ x.take 65535) f' (by simp; omega) (by rw [he']; simp only [List.append_assoc]) (by omega) (by simp; omega)
      rw [List.length_append] at h3
      rw [h3, List.append_assoc, List.take_append_drop, hbk]
      simp only [List.length_append]
      congr 1
      omega
    · rw [if_neg hl] at he ⊢
      exact one x pre rest out f (by omega) he (by omega) hM
theorem infl_st {p more : List Int} {most : Nat} (ha : AllB p) (hb : AllB more) (hm : p.length ≤ most) : inflF (storedL p ++ more) most = .ok p (8 * (storedL p).length) := by
  have hP : AllB (storedL p ++ more) := (storedL_all ha).append hb
  have hpl : p.length ≤ (storedL p).length := by
    have : ∀ (g : Nat) (x : List Int), x.length ≤ (stGo g x).length := by
      intro g
      induction g with
      | zero => intro x; rw [stGo, List.length_append]; omega
      | succ g ih =>
        intro x
        rw [stGo]
        split
        · have := ih (x.drop 65535)
          simp only [List.length_append, List.length_take, List.length_drop] at this ⊢
          omega
        · rw [List.length_append]; omega
    exact this _ _
  have h := stream_st (most := most) hP p.length p [] more [] (8 * (storedL p ++ more).length + 1) (by omega) rfl (by rw [List.length_append]; omega) (by simpa using hm)
  unfold inflF
  simpa [storedL] using h
/-- What is written is read again, whatever stands behind it. -/
theorem infl_df {p more : List Int} {most : Nat} (way : Int) (ha : AllB p) (hb : AllB more) (hm : p.length ≤ most) : ∃ t, inflF (dfF p way ++ more) most = .ok p t ∧ (t + 7) / 8 = (dfF p way).length := by
  unfold dfF
  split
  · exact ⟨_, infl_st ha hb hm, by omega⟩
  · split
    · exact ⟨_, infl_st ha hb hm, by omega⟩
    · exact ⟨_, infl_fix ha hm more, by rw [packF_len _ _ (Nat.le_refl _)]⟩
end Go.Proofs.YtjijkcmbbccfmaaDoor
