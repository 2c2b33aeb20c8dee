/-
  The plain mathematics of streams: where they end.
-/
import Derived.Test.YtibopgdaechfpaaDoorP2
namespace Go.Proofs.YtibopgdaechfpaaDoor

theorem storedGo_le (p : List Int) (M : Nat) : ∀ (n : Nat) (out : List Int) (t : Nat) (o : List Int) (t' : Nat), t ≤ 8 * p.length → storedGo p M n out t = .ok o t' → t' ≤ 8 * p.length
  | 0, out, t, o, t', ht, h => by rw [storedGo] at h; cases h; omega
  | n + 1, out, t, o, t', ht, h => by
    rw [storedGo] at h
    rcases h1 : numF p 8 t with ⟨a, t1⟩ | er
    · rw [h1] at h
      dsimp only at h
      have := numF_ok h1
      split at h
      · cases h
      · exact storedGo_le p M n _ _ _ _ (by omega) h
    · rw [h1] at h; cases h
theorem wayF_le {p : List Int} {M : Nat} {y : Int} {out o : List Int} {t t' : Nat} (h : wayF p M y out t = .ok o t') : t' ≤ 8 * p.length := by
  unfold wayF at h
  split at h
  · unfold storedF at h
    rcases h1 : numF p 16 ((t + 7) / 8 * 8) with ⟨a, t1⟩ | er
    · rw [h1] at h
      dsimp only at h
      rcases h2 : numF p 16 t1 with ⟨b, t2⟩ | er
      · rw [h2] at h
        dsimp only at h
        have := numF_ok h2
        split at h
        · exact storedGo_le p M _ _ _ _ _ (by omega) h
        · cases h
      · rw [h2] at h; cases h
    · rw [h1] at h; cases h
  · split at h
    · exact (blockF_ok okL okD _ _ _ _ _ h).2.1
    · split at h
      · rcases h1 : toldF p t with ⟨⟨c, d⟩, t1⟩ | er
        · rw [h1] at h
          dsimp only at h
          obtain ⟨x1, x2, x3, x4⟩ := toldF_ok h1
          exact (blockF_ok x1 x2 _ _ _ _ _ h).2.1
        · rw [h1] at h; cases h
      · cases h
theorem streamF_le {p : List Int} {M : Nat} : ∀ (f : Nat) (out : List Int) (t : Nat) (o : List Int) (t' : Nat), streamF p M f out t = .ok o t' → t' ≤ 8 * p.length
  | 0, _, _, _, _, h => by rw [streamF] at h; cases h
  | f + 1, out, t, o, t', h => by
    rw [streamF] at h
    rcases h1 : headF p t with ⟨⟨l, y⟩, t1⟩ | er
    · rw [h1] at h
      dsimp only at h
      rcases h2 : wayF p M y out t1 with ⟨o2, t2⟩ | er
      · rw [h2] at h
        dsimp only at h
        split at h
        · exact streamF_le f _ _ _ _ h
        · cases h
          exact wayF_le h2
      · rw [h2] at h; cases h
    · rw [h1] at h; cases h
section
variable {p o : List Int} {M t : Nat}
theorem inflF_n (h : inflF p M = .ok o t) : 1 ≤ (t + 7) / 8 ∧ (t + 7) / 8 ≤ p.length := by
  have h1 := streamF_ok _ _ _ _ _ h
  have h2 := streamF_le _ _ _ _ _ h
  omega
theorem inflF_len (h : inflF p M = .ok o t) : o.length ≤ M := by
  have h2 := streamF_le _ _ _ _ _ h
  rcases Nat.lt_or_ge M o.length with hl | hl
  · have hc := (streamF_cut (p := p) (q := p) (B := 8 * p.length) (L := M) (M := M) ⟨fun _ _ => rfl, Nat.le_refl _⟩ (8 * p.length + 1) (8 * p.length + 1) [] 0 (by omega) (by simp) (by omega) o t h).2.1 h2 hl
    have h' : streamF p M (8 * p.length + 1) [] 0 = .ok o t := h
    rw [h'] at hc
    cases hc
  · exact hl
theorem agr_take (n : Nat) (hn : n ≤ p.length) (more : List Int) : Agr p (p.take n ++ more) (8 * n) := by
  refine ⟨fun i hi => ?_, by simp; omega⟩
  unfold bitF
  congr 2
  have h1 : i / 8 < n := by omega
  simp only [List.getD, List.getElem?_append, List.length_take, List.getElem?_take]
  rw [if_pos (by omega), if_pos h1]
/-- What stands behind a stream makes no difference. -/
theorem ends_more (h : inflF p M = .ok o t) (more : List Int) : inflF (p.take ((t + 7) / 8) ++ more) o.length = .ok o t := by
  have hn := inflF_n h
  exact (streamF_cut (L := o.length) (agr_take ((t + 7) / 8) hn.2 more) (8 * p.length + 1) _ [] 0 (by omega) (by simp) (by omega) o t h).1 (by omega) (Nat.le_refl _)
/-- With fewer bytes it is too short. -/
theorem ends_short (h : inflF p M = .ok o t) (k : Nat) (hk : k < (t + 7) / 8) : inflF (p.take k) M = .bad .short := by
  have hn := inflF_n h
  have hl := inflF_len h
  have ha := agr_take (p := p) k (by omega) []
  rw [List.append_nil] at ha
  exact (streamF_cut (L := M) ha (8 * p.length + 1) _ [] 0 (by omega) (by simp) (by omega) o t h).2.2 (by simp; omega) (by omega) hl
/-- With too little room it is refused. -/
theorem ends_limit (h : inflF p M = .ok o t) (L : Nat) (hL : L < o.length) : inflF (p.take ((t + 7) / 8)) L = .bad .limit := by
  have hn := inflF_n h
  have ha := agr_take (p := p) ((t + 7) / 8) hn.2 []
  rw [List.append_nil] at ha
  exact (streamF_cut (L := L) ha (8 * p.length + 1) _ [] 0 (by omega) (by simp) (by omega) o t h).2.1 (by omega) hL
end
end Go.Proofs.YtibopgdaechfpaaDoor
