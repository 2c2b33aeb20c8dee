/-
  Pure: a script upon a disk that no plan troubles; what lasts is there behind a crash.
-/
import Derived.Test.YtegdadkejheagaaGreatDoorFF1
namespace Go.Proofs.YtegdadkejheagaaGreatDoor
open Go.RowKit Go.WideMaps Go.Maps

/-- A disk's files are short; little is used; few calls were made. -/
structure Lim (s : Ps) (k : Nat) : Prop where
  len : ∀ f x, s.F f = some x → x.1.length ≤ 2097152
  u0 : -(2097152 * (k : Int)) ≤ s.used
  u1 : s.used ≤ 2097152 * (k : Int)
  c : s.count ≤ k
theorem lim_new (q : Int) : Lim (newS q).ps 0 := ⟨fun f x h => absurd (show (none : Option (List Int × Nat)) = some x from h) (by simp), by show (_ : Int) ≤ 0; omega, by show (0 : Int) ≤ _; omega, Int.le_refl _⟩
theorem Lim.next {s s' : Ps} {k : Nat} (h : Lim s k) (hF : ∀ f x, s'.F f = some x → x.1.length ≤ 2097152) (hu0 : s.used - 2097152 ≤ s'.used) (hu1 : s'.used ≤ s.used + 2097152) (hc : s'.count = s.count + 1) : Lim s' (k + 1) := by
  have h1 := h.u0
  have h2 := h.u1
  have h3 := h.c
  exact ⟨hF, by push_cast; omega, by push_cast; omega, by push_cast; omega⟩
theorem upd_len {s : Ps} {k : Nat} (h : Lim s k) {f : Nat} {y : List Int × Nat} (hy : y.1.length ≤ 2097152) : ∀ g x, upd s.F f (some y) g = some x → x.1.length ≤ 2097152 := by
  intro g x hx
  unfold upd at hx
  split at hx
  · injection hx with hx; subst hx; exact hy
  · exact h.len g x hx
theorem bg_len {s : Ps} {k : Nat} (h : Lim s k) : ∀ g x, (bgP s).F g = some x → x.1.length ≤ 2097152 := by
  intro g x hx
  rw [bgP_F] at hx
  exact h.len g x hx
theorem Lim.ap {s : Ps} {k : Nat} (h : Lim s k) (hc : Calm s) (p : ByteArray) (ys : List Int) : Lim (apP s p ys) (k + 1) := by
  have hn := hc.ap_count p ys
  have hb := bgP_used s
  refine h.next ?_ ?_ ?_ hn
  · unfold apP
    split
    · rename_i h0
      split
      · exact bg_len h
      · rename_i f xs j hf
        have hl : (xs ++ ys).length ≤ 2097152 := by
          unfold apE at h0
          rw [hf] at h0
          rw [List.length_append]
          split at h0
          · simp only at h0
            split at h0
            · exact absurd h0 (by decide)
            · omega
          · rename_i h1; exact absurd h0 h1
        exact upd_len h hl
    · exact bg_len h
  · unfold apP
    split
    · split
      · omega
      · show _ ≤ s.used + (ys.length : Int); omega
    · omega
  · unfold apP
    split
    · rename_i h0
      split
      · omega
      · rename_i f xs j hf
        show s.used + (ys.length : Int) ≤ _
        unfold apE at h0
        rw [hf] at h0
        split at h0
        · simp only at h0
          split at h0
          · exact absurd h0 (by decide)
          · omega
        · rename_i h1; exact absurd h0 h1
    · omega
theorem Lim.sy {s : Ps} {k : Nat} (h : Lim s k) (hc : Calm s) (p : ByteArray) : Lim (syP s p) (k + 1) := by
  have hn := hc.sy_count p
  have hb := bgP_used s
  refine h.next ?_ ?_ ?_ hn
  · unfold syP
    split
    · split
      · exact bg_len h
      · rename_i f xs j hf
        have hl := h.len f (xs, j) (fileP_inv hf).2
        exact upd_len h (y := (xs, xs.length)) hl
    · exact bg_len h
  · unfold syP
    split
    · split
      · omega
      · show _ ≤ (bgP s).used; omega
    · omega
  · unfold syP
    split
    · split
      · omega
      · show (bgP s).used ≤ _; omega
    · omega
theorem lenAt_le {s : Ps} {k : Nat} (h : Lim s k) (p : ByteArray) : 0 ≤ lenAt s p ∧ lenAt s p ≤ 2097152 := by
  unfold lenAt
  split
  · omega
  · rename_i f xs j hf
    have := h.len f _ (fileP_inv hf).2
    simp only at this
    omega
theorem Lim.rn {s : Ps} {k : Nat} (h : Lim s k) (hc : Calm s) (p q : ByteArray) : Lim (rnP s p q) (k + 1) := by
  have hn := hc.rn_count p q
  have hb := bgP_used s
  have hl := lenAt_le h q
  refine h.next ?_ ?_ ?_ hn
  · unfold rnP
    split
    · split
      · exact bg_len h
      · exact bg_len h
    · exact bg_len h
  · unfold rnP
    split
    · split
      · omega
      · show _ ≤ s.used - lenAt s q; omega
    · omega
  · unfold rnP
    split
    · split
      · omega
      · show s.used - lenAt s q ≤ _; omega
    · omega
theorem Lim.rm {s : Ps} {k : Nat} (h : Lim s k) (hc : Calm s) (p : ByteArray) : Lim (rmP s p) (k + 1) := by
  have hn := hc.rm_count p
  have hb := bgP_used s
  refine h.next ?_ ?_ ?_ hn
  · unfold rmP
    split
    · split
      · exact bg_len h
      · exact bg_len h
    · exact bg_len h
  · unfold rmP
    split
    · split
      · omega
      · rename_i f xs j hf
        have := h.len f _ (fileP_inv hf).2
        simp only at this
        show _ ≤ s.used - (xs.length : Int); omega
    · omega
  · unfold rmP
    split
    · split
      · omega
      · rename_i f xs j hf
        show s.used - (xs.length : Int) ≤ _; omega
    · omega
theorem Lim.sd {s : Ps} {k : Nat} (h : Lim s k) (hc : Calm s) (p : ByteArray) : Lim (sdP s p) (k + 1) := by
  have hn := hc.sd_count p
  have hb := bgP_used s
  refine h.next ?_ ?_ ?_ hn
  · unfold sdP
    split
    · exact bg_len h
    · exact bg_len h
  · unfold sdP
    split
    · show _ ≤ (bgP s).used; omega
    · omega
  · unfold sdP
    split
    · show (bgP s).used ≤ _; omega
    · omega
theorem Lim.cr {s s' : Ps} {k : Nat} (h : Lim s k) (hc : Calm s) {p : ByteArray} (hd : CrP s p s') : Lim s' (k + 1) := by
  have hn := hc.cr_count hd
  have hb := bgP_used s
  unfold CrP at hd
  split at hd
  · obtain ⟨f, hf, rfl⟩ := hd
    refine h.next ?_ ?_ ?_ hn
    · exact upd_len h (Nat.zero_le _)
    · show _ ≤ (bgP s).used; omega
    · show (bgP s).used ≤ _; omega
  · subst hd
    exact h.next (bg_len h) (by omega) (by omega) hn
theorem Calm.do {s s' : Ps} (h : Calm s) (c : Cl) (hd : DoP s c s') : Calm s' := by
  unfold DoP at hd
  split at hd
  · exact h.cr hd
  · split at hd
    · rw [hd]; exact h.ap _ _
    · split at hd
      · rw [hd]; exact h.sy _
      · split at hd
        · rw [hd]; exact h.rn _ _
        · split at hd
          · rw [hd]; exact h.rm _
          · rw [hd]; exact h.sd _
theorem Lim.do {s s' : Ps} {k : Nat} (h : Lim s k) (hc : Calm s) (c : Cl) (hd : DoP s c s') : Lim s' (k + 1) := by
  unfold DoP at hd
  split at hd
  · exact h.cr hc hd
  · split at hd
    · rw [hd]; exact h.ap hc _ _
    · split at hd
      · rw [hd]; exact h.sy hc _
      · split at hd
        · rw [hd]; exact h.rn hc _ _
        · split at hd
          · rw [hd]; exact h.rm hc _
          · rw [hd]; exact h.sd hc _
theorem Lim.bounds {s : Ps} {k : Nat} (h : Lim s k) (hk : k ≤ 1000) : s.count < 1000000 ∧ -4398046511104 ≤ s.used ∧ s.used ≤ 4398046511104 := by
  have h1 := h.u0
  have h2 := h.u1
  have h3 := h.c
  omega
theorem svF_off {C : ByteArray → List Chg} {cs : List Int} {p : ByteArray} (h : ∀ q c, c ∈ C q → Off1 c p) : ∀ (ks : List ByteArray) (N : ByteArray → Option Nat) (i : Nat), svF C cs N i ks p = N p
  | [], _, _ => rfl
  | q :: ks, N, i => by
    show svF C cs (((C q).take ((chs cs i).toNat % ((C q).length + 1))).foldl apl N) (i + 1) ks p = N p
    rw [svF_off h ks, fold_off (fun c hc => h q c (List.mem_of_mem_take hc))]
theorem crG_stay {N : ByteArray → Option Nat} {F : Nat → Option (List Int × Nat)} {cs : List Int} {y : ByteArray × List Int} : ∀ (ks : List ByteArray) (s : List (ByteArray × List Int) × Nat), y ∈ s.1 → y ∈ (ks.foldl (crO N F cs) s).1
  | [], _, h => h
  | p :: ks, s, h => by
    rw [List.foldl_cons]
    refine crG_stay ks _ ?_
    unfold crO
    split
    · exact h
    · exact List.mem_append_left _ h
theorem crG_has {N : ByteArray → Option Nat} {F : Nat → Option (List Int × Nat)} {cs : List Int} {p : ByteArray} {xs : List Int} (hx : (N p).bind F = some (xs, xs.length)) : ∀ (ks : List ByteArray) (s : List (ByteArray × List Int) × Nat), p ∈ ks → (p, xs) ∈ (ks.foldl (crO N F cs) s).1
  | [], _, h => absurd h (by simp)
  | q :: ks, s, h => by
    rw [List.foldl_cons]
    by_cases e : p = q
    · subst e
      refine crG_stay ks _ ?_
      unfold crO
      rw [hx]
      show (p, xs) ∈ s.1 ++ [(p, rmL xs xs.length cs s.2)]
      have : rmL xs xs.length cs s.2 = xs := by unfold rmL; rw [if_pos rfl]
      rw [this]
      simp
    · rcases List.mem_cons.1 h with h | h
      · exact absurd h e
      · exact crG_has hx ks _ h
/-- What lasts is there behind a crash. -/
theorem last_crash {s s' : Ps} {cs : List Int} {ks ps : List ByteArray} {p : ByteArray} {f : Nat} {xs : List Int} (hi : Inv s) (h : Last s p f xs) (hp : pathF p = true) (hc : CrD s cs s' ks ps) : rdE s' p = 0 ∧ rdL s' p = xs := by
  have hs : svF s.C cs s.L 0 ks p = some f := by
    rw [svF_off (fun q c hcq => ?_) ks, h.L]
    by_cases e : folF p = q
    · subst e
      rw [h.C] at hcq
      exact absurd hcq (by simp)
    · exact (hi.cq q c hcq).off h.ne e
  have hm : p ∈ ps := (hc.hps.mem p).2 (by unfold nmV; rw [hs]; simp)
  have hx : (svF s.C cs s.L 0 ks p).bind s.F = some (xs, xs.length) := by rw [hs]; exact h.F
  obtain ⟨g, hN, hF⟩ := hc.cri.yes p xs (crG_has hx ps _ hm)
  have hf : fileP s' p = some (g, xs, xs.length) := by
    unfold fileP
    rw [hN]
    show (s'.F g).map _ = _
    rw [hF]
    rfl
  exact hc.cri.calm.rdE hp hf
/-- How much a script may make. -/
theorem fits {a b : Nat} (h : a + b ≤ 123) : a * (b + 2) + a * (b + 2) * a ≤ 900000 ∧ a * (b + 2) < 900000 ∧ a < 1000 := by
  have h1 : ∀ a, a < 124 → a * (125 - a) + a * (125 - a) * a ≤ 900000 := by decide +kernel
  have h2 := h1 a (by omega)
  have h3 : a * (b + 2) ≤ a * (125 - a) := Nat.mul_le_mul_left _ (by omega)
  have h4 := Nat.mul_le_mul_right a h3
  have h5 : a * (b + 2) ≤ a * 125 := Nat.mul_le_mul_left _ (by omega)
  omega
theorem more_a (a b : Nat) : (a + 1) * (b + 2) = a * (b + 2) + b + 2 := by rw [Nat.succ_mul]; omega
theorem more_b (a b : Nat) : a * (b + 1 + 2) = a * (b + 2) + a := by rw [show b + 1 + 2 = (b + 2) + 1 from by omega, Nat.mul_succ]
end Go.Proofs.YtegdadkejheagaaGreatDoor
