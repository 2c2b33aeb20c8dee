/-
  The document's numbers and its blocks of way 0 are the program's.
-/
import Derived.Test.YthbcloplhjmkkaaDoorD6
namespace Go.Proofs.YthbcloplhjmkkaaDoor
open Go.RowKit

theorem dnum_ok {p : List Int} {n t : Nat} {v : Int} {t' : Nat} (h : numF p n t = .ok v t') : dnum p t 0 n = (v, t', 0) := by
  unfold numF at h
  split at h
  · next hle =>
    injection h with h1 h2
    rw [dnum_on p t n hle, h1, h2]
  · cases h
theorem dnum_bad {p : List Int} {n t : Nat} {er : Er} (ht : t ≤ 8 * p.length) (h : numF p n t = .bad er) : er = .short ∧ (dnum p t 0 n).2 = (8 * p.length, 5) := by
  unfold numF at h
  split at h
  · cases h
  · next hle =>
    injection h with h1
    exact ⟨h1.symm, dnum_short p t ht n (by omega)⟩
theorem numF_le {p : List Int} {n t : Nat} {v : Int} {t' : Nat} (h : numF p n t = .ok v t') : t' ≤ 8 * p.length := by
  unfold numF at h
  split at h
  · next hle =>
    injection h with h1 h2
    omega
  · cases h

/-- The program's result and the document's state say the same. -/
def Same (r : Rs (List Int)) (d : List Int × Nat × Int) : Prop :=
  match r with
  | .ok o t => d = (o, t, 0)
  | .bad er => d.2.2 = er.v

theorem dstGo_same (p : List Int) (most : Nat) : ∀ (n : Nat) (out : List Int) (t : Nat), t ≤ 8 * p.length → Same (storedGo p most n out t) (dstGo p most n out t 0)
  | 0, out, t, _ => rfl
  | n + 1, out, t, ht => by
    rw [storedGo, dstGo, if_neg (by simp)]
    rcases hq : numF p 8 t with ⟨v, t'⟩ | er
    · rw [dnum_ok hq]
      dsimp only
      by_cases hf : most ≤ out.length
      · have e : dput most v out 0 = (out, 10) := by simp [dput, hf]
        rw [if_pos hf, e, dstGo_off p most n out t' 10 (by omega)]
        rfl
      · have e : dput most v out 0 = (out ++ [v], 0) := by simp [dput, hf]
        rw [if_neg hf, e]
        exact dstGo_same p most n (out ++ [v]) t' (numF_le hq)
    · obtain ⟨rfl, h2⟩ := dnum_bad ht hq
      rw [h2]
      dsimp only
      have e : dput most (dnum p t 0 8).1 out 5 = (out, 5) := by simp [dput]
      rw [e, dstGo_off p most n out _ 5 (by omega)]
      rfl

theorem dstored_same (p : List Int) (most : Nat) (out : List Int) (t : Nat) (ht : t ≤ 8 * p.length) (n m E2 E3 : Int) (t2 t3 : Nat)
    (hn : dnum p ((t + 7) / 8 * 8) 0 16 = (n, t2, E2)) (hm : dnum p t2 E2 16 = (m, t3, E3)) :
    Same (storedF p most out t) (dstGo p most n.toNat out t3 (if n + m = 65535 then E3 else dfail E3)) := by
  have ha : (t + 7) / 8 * 8 ≤ 8 * p.length := by omega
  unfold storedF
  rcases hq : numF p 16 ((t + 7) / 8 * 8) with ⟨l, t1⟩ | er
  · rw [dnum_ok hq] at hn
    injection hn with h1 h2
    injection h2 with h2 h3
    subst h1 h2 h3
    dsimp only
    rcases hq2 : numF p 16 t1 with ⟨k, t4⟩ | er2
    · rw [dnum_ok hq2] at hm
      injection hm with h1 h2
      injection h2 with h2 h3
      subst h1 h2 h3
      dsimp only
      by_cases hs : l + k = 65535
      · rw [if_pos hs, if_pos (by omega)]
        exact dstGo_same p most _ out _ (numF_le hq2)
      · rw [if_neg hs, if_neg (by omega), dstGo_off _ _ _ _ _ _ (by simp [dfail])]
        rfl
    · obtain ⟨rfl, h2⟩ := dnum_bad (numF_le hq) hq2
      rw [hm] at h2
      injection h2 with h2 h3
      subst h2 h3
      have e : (if l + m = 65535 then (5 : Int) else dfail 5) = 5 := by simp [dfail]
      dsimp only
      rw [e, dstGo_off _ _ _ _ _ _ (by omega)]
      rfl
  · obtain ⟨rfl, h2⟩ := dnum_bad ha hq
    rw [hn] at h2
    injection h2 with h2 h3
    subst h2 h3
    rw [dnum_off p _ 5 (by omega) 16] at hm
    injection hm with h1 h2
    injection h2 with h2 h3
    subst h1 h2 h3
    have e : (if n + 0 = 65535 then (5 : Int) else dfail 5) = 5 := by simp [dfail]
    dsimp only
    rw [e, dstGo_off _ _ _ _ _ _ (by omega)]
    rfl
end Go.Proofs.YthbcloplhjmkkaaDoor
