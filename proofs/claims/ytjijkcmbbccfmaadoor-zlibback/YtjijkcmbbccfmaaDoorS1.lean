/-
  The plain mathematics of stored blocks.
-/
import Derived.Test.YtjijkcmbbccfmaaDoorT3
namespace Go.Proofs.YtjijkcmbbccfmaaDoor

/-- A block of way 0. -/
def blkF (last : Int) (x : List Int) : List Int := [last, (x.length : Int) % 256, (x.length : Int) / 256 % 256, 255 - (x.length : Int) % 256, 255 - (x.length : Int) / 256 % 256] ++ x
theorem blkF_length (l : Int) (x : List Int) : (blkF l x).length = x.length + 5 := by simp [blkF]
def encF : List (List Int) → List Int
  | [] => []
  | [x] => blkF 1 x
  | x :: y :: r => blkF 0 x ++ encF (y :: r)

theorem getD_mid (pre suf : List Int) (i : Nat) (h : i < suf.length) : (pre ++ suf).getD (pre.length + i) 0 = suf.getD i 0 := by
  simp [List.getD, h]
theorem numF_byte {p : List Int} {q : Nat} (hq : q < p.length) (hb : 0 ≤ p.getD q 0 ∧ p.getD q 0 < 256) : numF p 8 (8 * q) = .ok (p.getD q 0) (8 * (q + 1)) := by
  unfold numF
  rw [if_pos (by omega), valF_byte p q hb]
  congr 1
theorem numF_two {p : List Int} {q : Nat} (hq : q + 1 < p.length) (h0 : 0 ≤ p.getD q 0 ∧ p.getD q 0 < 256) (h1 : 0 ≤ p.getD (q + 1) 0 ∧ p.getD (q + 1) 0 < 256) : numF p 16 (8 * q) = .ok (p.getD q 0 + 256 * p.getD (q + 1) 0) (8 * (q + 2)) := by
  unfold numF
  have e := valF_add p 8 8 (8 * q)
  rw [valF_byte p q h0, show 8 * q + 8 = 8 * (q + 1) from by omega, valF_byte p (q + 1) h1] at e
  rw [if_pos (by omega), show (16 : Nat) = 8 + 8 from rfl, e]
  rfl
theorem storedGo_all (p : List Int) (M : Nat) (hp : AllB p) : ∀ (n : Nat) (out : List Int) (q : Nat), q + n ≤ p.length → out.length + n ≤ M → storedGo p M n out (8 * q) = .ok (out ++ (p.drop q).take n) (8 * (q + n))
  | 0, out, q, _, _ => by simp [storedGo]
  | n + 1, out, q, h1, h2 => by
    have hb := hp.getD (by omega) q
    rw [storedGo, numF_byte (by omega) hb]
    dsimp only
    rw [if_neg (by omega), storedGo_all p M hp n _ (q + 1) (by omega) (by simp; omega)]
    have e : p.drop q = p.getD q 0 :: p.drop (q + 1) := by
      rw [List.drop_eq_getElem_cons (by omega)]
      simp [List.getD, List.getElem?_eq_getElem (show q < p.length by omega)]
    rw [e, List.take_succ_cons, List.append_assoc]
    congr 1
    omega
theorem valF_one (p : List Int) (q : Nat) (n : Nat) (hn : n ≤ 5) (l : Int) (hl : p.getD q 0 = l) (h01 : l = 0 ∨ l = 1) : valF p (8 * q + 1) n = 0 ∧ bitF p (8 * q) = l := by
  have b : ∀ k, 1 ≤ k → k < 8 → bitF p (8 * q + k) = 0 := by
    intro k hk hk2
    unfold bitF
    rw [show (8 * q + k) / 8 = q from by omega, show (8 * q + k) % 8 = k from by omega, hl]
    rcases h01 with rfl | rfl
    · simp
    · have : (1 : Int) / 2 ^ k = 0 := by
        apply Int.ediv_eq_zero_of_lt (by omega)
        have := pow2_le (a := 1) (b := k) hk
        simp at this
        omega
      rw [this]
      rfl
  refine ⟨?_, ?_⟩
  · have : ∀ (n j : Nat), 1 ≤ j → j + n ≤ 8 → valF p (8 * q + j) n = 0 := by
      intro n
      induction n with
      | zero => intro j _ _; rfl
      | succ n ih =>
        intro j h1 h2
        rw [valF, b j h1 (by omega), show 8 * q + j + 1 = 8 * q + (j + 1) from by omega, ih (j + 1) (by omega) (by omega)]
        rfl
    exact this n 1 (by omega) (by omega)
  · unfold bitF
    rw [show 8 * q / 8 = q from by omega, show 8 * q % 8 = 0 from by omega, hl]
    rcases h01 with rfl | rfl <;> rfl
/-- One block. -/
theorem block_stored {p pre x rest : List Int} {M : Nat} {l : Int} {out : List Int} (hp : AllB p) (he : p = pre ++ (blkF l x ++ rest)) (hl : l = 0 ∨ l = 1) (hx : x.length ≤ 65535) (hM : out.length + x.length ≤ M) :
    headF p (8 * pre.length) = .ok (l, 0) (8 * pre.length + 3) ∧ storedF p M out (8 * pre.length + 3) = .ok (out ++ x) (8 * (pre.length + (blkF l x).length)) := by
  have hlen : p.length = pre.length + ((x.length + 5) + rest.length) := by rw [he, List.length_append, List.length_append, blkF_length]
  have hb := blkF_length l x
  have g : ∀ i, i < 5 → p.getD (pre.length + i) 0 = (blkF l x).getD i 0 := by
    intro i hi
    rw [he, getD_mid pre _ i (by simp; omega)]
    simp [List.getD, List.getElem?_append, hb, show i < x.length + 5 by omega]
  have g0 : p.getD pre.length 0 = l := g 0 (by omega)
  have g1 : p.getD (pre.length + 1) 0 = (x.length : Int) % 256 := g 1 (by omega)
  have g2 : p.getD (pre.length + 2) 0 = (x.length : Int) / 256 % 256 := g 2 (by omega)
  have g3 : p.getD (pre.length + 3) 0 = 255 - (x.length : Int) % 256 := g 3 (by omega)
  have g4 : p.getD (pre.length + 4) 0 = 255 - (x.length : Int) / 256 % 256 := g 4 (by omega)
  obtain ⟨v1, v2⟩ := valF_one p pre.length 2 (by omega) l g0 hl
  constructor
  · unfold headF
    have e1 : numF p 1 (8 * pre.length) = .ok l (8 * pre.length + 1) := by
      unfold numF
      rw [if_pos (by omega), valF, valF, v2]
      simp
    have e2 : numF p 2 (8 * pre.length + 1) = .ok 0 (8 * pre.length + 3) := by
      unfold numF
      rw [if_pos (by omega), v1]
    rw [e1]
    dsimp only
    rw [e2]
  · unfold storedF
    have ha : (8 * pre.length + 3 + 7) / 8 * 8 = 8 * (pre.length + 1) := by omega
    rw [ha, numF_two (by omega) (hp.getD (by omega) _) (hp.getD (by omega) _)]
    dsimp only
    rw [numF_two (by omega) (hp.getD (by omega) _) (hp.getD (by omega) _)]
    dsimp only
    rw [show pre.length + 1 + 1 = pre.length + 2 from rfl, show pre.length + 1 + 2 = pre.length + 3 from rfl, show pre.length + 3 + 1 = pre.length + 4 from rfl, g1, g2, g3, g4, if_pos (by omega)]
    have hn : ((x.length : Int) % 256 + 256 * ((x.length : Int) / 256 % 256)).toNat = x.length := by omega
    rw [hn, show 8 * (pre.length + 3 + 2) = 8 * (pre.length + 5) from by omega, storedGo_all p M hp x.length out (pre.length + 5) (by omega) hM]
    have hd : (p.drop (pre.length + 5)).take x.length = x := by
      rw [he, show pre ++ (blkF l x ++ rest) = (pre ++ (blkF l x).take 5) ++ (x ++ rest) from by simp [blkF]]
      rw [List.drop_left' (by simp [blkF]), List.take_left]
    rw [hd, hb]
    congr 2
    omega
theorem encF_length_pos : ∀ (rs : List (List Int)), rs ≠ [] → 0 < (encF rs).length
  | [], h => absurd rfl h
  | [x], _ => by rw [encF, blkF_length]; omega
  | x :: y :: r, _ => by rw [encF, List.length_append, blkF_length]; omega
/-- Stored blocks come out as the text. -/
theorem stream_stored {p : List Int} {M : Nat} (hp : AllB p) : ∀ (rs : List (List Int)) (pre out : List Int) (f : Nat), rs ≠ [] → p = pre ++ encF rs → rs.length ≤ f → (∀ x ∈ rs, x.length ≤ 65535) → out.length + rs.flatten.length ≤ M →
    streamF p M f out (8 * pre.length) = .ok (out ++ rs.flatten) (8 * p.length)
  | [], _, _, _, h, _, _, _, _ => absurd rfl h
  | [x], pre, out, 0, _, _, hf, _, _ => by simp at hf
  | [x], pre, out, f + 1, _, he, _, hx, hM => by
    rw [encF] at he
    have he' : p = pre ++ (blkF 1 x ++ []) := by simpa using he
    obtain ⟨h1, h2⟩ := block_stored (M := M) (out := out) hp he' (Or.inr rfl) (hx x (by simp)) (by simpa using hM)
    rw [streamF, h1]
    dsimp only
    have hw : wayF p M 0 out (8 * pre.length + 3) = storedF p M out (8 * pre.length + 3) := by unfold wayF; rw [if_pos rfl]
    rw [hw, h2]
    dsimp only
    rw [if_neg (by omega), he, List.length_append]
    simp
  | x :: y :: r, pre, out, 0, _, _, hf, _, _ => by simp at hf
  | x :: y :: r, pre, out, f + 1, _, he, hf, hx, hM => by
    rw [encF] at he
    have hfl : (x :: y :: r).flatten = x ++ (y :: r).flatten := rfl
    rw [hfl, List.length_append] at hM
    obtain ⟨h1, h2⟩ := block_stored (M := M) (out := out) hp he (Or.inl rfl) (hx x (by simp)) (by omega)
    rw [streamF, h1]
    dsimp only
    have hw : wayF p M 0 out (8 * pre.length + 3) = storedF p M out (8 * pre.length + 3) := by unfold wayF; rw [if_pos rfl]
    rw [hw, h2]
    dsimp only
    rw [if_pos rfl]
    have ih := stream_stored (M := M) hp (y :: r) (pre ++ blkF 0 x) (out ++ x) f (by simp) (by rw [he, List.append_assoc]) (by simpa using hf) (fun z hz => hx z (by simp [hz])) (by simp only [List.length_append]; omega)
    rw [List.length_append] at ih
    rw [ih, hfl, List.append_assoc]
theorem infl_stored {rs : List (List Int)} {M : Nat} (hp : AllB (encF rs)) (hne : rs ≠ []) (hx : ∀ x ∈ rs, x.length ≤ 65535) (hM : rs.flatten.length ≤ M) (hf : rs.length ≤ 8 * (encF rs).length + 1) : inflF (encF rs) M = .ok rs.flatten (8 * (encF rs).length) := by
  have := stream_stored (M := M) hp rs [] [] (8 * (encF rs).length + 1) hne rfl hf hx (by simpa using hM)
  rw [List.nil_append] at this
  exact this
end Go.Proofs.YtjijkcmbbccfmaaDoor
