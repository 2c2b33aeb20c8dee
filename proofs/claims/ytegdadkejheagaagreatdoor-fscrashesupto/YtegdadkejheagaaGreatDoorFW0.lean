/-
  Pure: a disk that no plan troubles; a few calls of it.
-/
import Derived.Test.YtegdadkejheagaaGreatDoorFV
import Derived.Test.YtegdadkejheagaaGreatDoorFY1
namespace Go.Proofs.YtegdadkejheagaaGreatDoor
open Go.RowKit Go.WideMaps Go.Maps

theorem keys_none {f : ByteArray → Option Value} {L : List ByteArray} (h : KeysOk f L) (hf : ∀ p, f p = none) : L = [] := by
  cases L with
  | nil => rfl
  | cons p L => exact absurd (hf p) ((h.mem p).1 (by simp))
theorem keys_one {f : ByteArray → Option Value} {L : List ByteArray} (h : KeysOk f L) (q : ByteArray) (hf : ∀ p, f p ≠ none ↔ p = q) : L = [q] := by
  cases L with
  | nil => exact absurd ((h.mem q).2 ((hf q).2 rfl)) (by simp)
  | cons p L =>
    have hp : p = q := (hf p).1 ((h.mem p).1 (by simp))
    subst hp
    cases L with
    | nil => rfl
    | cons r L =>
      have hr : r = p := (hf r).1 ((h.mem r).1 (by simp))
      subst hr
      have := h.nodup
      simp at this
/-- No plan, and the power is on. -/
structure Calm (s : Ps) : Prop where
  dark : s.dark = false
  last : s.last = 0
  count : 0 ≤ s.count
  R : ∀ i, s.R i = false
theorem calm_new (q : Int) : Calm (newS q).ps := ⟨rfl, rfl, Int.le_refl _, fun _ => rfl⟩
theorem Calm.bgE {s : Ps} (h : Calm s) {L : List ByteArray} (hL : oneF L = true) (r : Bool) : bgEP s r L = 0 := by
  unfold bgEP
  rw [if_neg (by rw [h.dark]; decide), if_neg (by rw [h.last]; have := h.count; omega), if_neg (by rw [hL]; decide), h.R]
  rfl
theorem Calm.bgP_eq {s : Ps} (h : Calm s) : bgP s = { s with count := s.count + 1 } := by
  unfold bgP
  rw [if_neg (by rw [h.dark]; decide), decide_eq_false (by rw [h.last]; have := h.count; omega)]
  have := h.dark
  cases s
  simp_all
theorem Calm.bg {s : Ps} (h : Calm s) : Calm (bgP s) := by
  rw [h.bgP_eq]
  exact ⟨h.dark, h.last, by show 0 ≤ s.count + 1; have := h.count; omega, h.R⟩
theorem oneF_single {p : ByteArray} (h : pathF p = true) : oneF [p] = true := by
  unfold oneF
  simp [h]
theorem Calm.opE {s : Ps} (h : Calm s) {p : ByteArray} {f : Nat} (hp : pathF p = true) (hN : s.N p = some f) : opEP s [p] p = 0 := by
  unfold opEP
  rw [if_pos (h.bgE (oneF_single hp) true), hN]
theorem Calm.crE {s : Ps} (h : Calm s) {p : ByteArray} (hp : pathF p = true) (hN : s.N p = none) : crE s p = 0 := by
  unfold Proofs.YtegdadkejheagaaGreatDoor.crE
  rw [if_pos (h.bgE (oneF_single hp) true), hN]
theorem Calm.cr {s s' : Ps} (h : Calm s) {p : ByteArray} (hc : CrP s p s') : Calm s' := by
  unfold CrP at hc
  split at hc
  · obtain ⟨f, -, rfl⟩ := hc
    exact ⟨h.bg.dark, h.bg.last, h.bg.count, h.bg.R⟩
  · rw [hc]; exact h.bg
theorem Calm.ap {s : Ps} (h : Calm s) (p : ByteArray) (ys : List Int) : Calm (apP s p ys) := by
  unfold apP
  split
  · split
    · exact h.bg
    · exact ⟨h.bg.dark, h.bg.last, h.bg.count, h.bg.R⟩
  · exact h.bg
theorem Calm.sy {s : Ps} (h : Calm s) (p : ByteArray) : Calm (syP s p) := by
  unfold syP
  split
  · split
    · exact h.bg
    · exact ⟨h.bg.dark, h.bg.last, h.bg.count, h.bg.R⟩
  · exact h.bg
theorem Calm.rn {s : Ps} (h : Calm s) (p q : ByteArray) : Calm (rnP s p q) := by
  unfold rnP
  split
  · split
    · exact h.bg
    · exact ⟨h.bg.dark, h.bg.last, h.bg.count, h.bg.R⟩
  · exact h.bg
theorem Calm.rm {s : Ps} (h : Calm s) (p : ByteArray) : Calm (rmP s p) := by
  unfold rmP
  split
  · split
    · exact h.bg
    · exact ⟨h.bg.dark, h.bg.last, h.bg.count, h.bg.R⟩
  · exact h.bg
theorem Calm.sd {s : Ps} (h : Calm s) (p : ByteArray) : Calm (sdP s p) := by
  unfold sdP
  split
  · exact ⟨h.bg.dark, h.bg.last, h.bg.count, h.bg.R⟩
  · exact h.bg
theorem Calm.ap_count {s : Ps} (h : Calm s) (p : ByteArray) (ys : List Int) : (apP s p ys).count = s.count + 1 := by
  have e : (bgP s).count = s.count + 1 := by rw [h.bgP_eq]
  unfold apP
  split
  · split
    · exact e
    · exact e
  · exact e
theorem Calm.sy_count {s : Ps} (h : Calm s) (p : ByteArray) : (syP s p).count = s.count + 1 := by
  have e : (bgP s).count = s.count + 1 := by rw [h.bgP_eq]
  unfold syP
  split
  · split
    · exact e
    · exact e
  · exact e
theorem Calm.rn_count {s : Ps} (h : Calm s) (p q : ByteArray) : (rnP s p q).count = s.count + 1 := by
  have e : (bgP s).count = s.count + 1 := by rw [h.bgP_eq]
  unfold rnP
  split
  · split
    · exact e
    · exact e
  · exact e
theorem Calm.rm_count {s : Ps} (h : Calm s) (p : ByteArray) : (rmP s p).count = s.count + 1 := by
  have e : (bgP s).count = s.count + 1 := by rw [h.bgP_eq]
  unfold rmP
  split
  · split
    · exact e
    · exact e
  · exact e
theorem Calm.sd_count {s : Ps} (h : Calm s) (p : ByteArray) : (sdP s p).count = s.count + 1 := by
  have e : (bgP s).count = s.count + 1 := by rw [h.bgP_eq]
  unfold sdP
  split
  · exact e
  · exact e
theorem Calm.cr_count {s s' : Ps} (h : Calm s) {p : ByteArray} (hc : CrP s p s') : s'.count = s.count + 1 := by
  have e : (bgP s).count = s.count + 1 := by rw [h.bgP_eq]
  unfold CrP at hc
  split at hc
  · obtain ⟨f, -, rfl⟩ := hc
    exact e
  · rw [hc]; exact e
theorem CrI.calm {q : Int} {l : List (ByteArray × List Int)} {s : Ps} (h : CrI q l s) : Calm s := ⟨h.dark, h.last, by rw [h.count]; exact Int.le_refl _, h.R⟩
/-- What a new file leaves. -/
theorem Calm.created {s s' : Ps} (h : Calm s) {p : ByteArray} (hp : pathF p = true) (hN : s.N p = none) (hc : CrP s p s') : ∃ f, s.F f = none ∧ s' = noteP { (bgP s) with F := upd s.F f (some ([], 0)) } p (crC p f) := by
  unfold CrP at hc
  rw [if_pos (h.crE hp hN)] at hc
  exact hc
theorem Calm.apE {s : Ps} (h : Calm s) {p : ByteArray} {f : Nat} {xs : List Int} {k n : Nat} (hp : pathF p = true) (hf : fileP s p = some (f, xs, k)) (h1 : xs.length + n ≤ 2097152) (h2 : s.used + n ≤ s.quota) : apE s p n = 0 := by
  unfold Proofs.YtegdadkejheagaaGreatDoor.apE
  rw [if_pos (h.opE hp (fileP_inv hf).1), hf]
  simp only
  rw [if_neg (by omega), if_neg (by omega)]
theorem Calm.apP {s : Ps} (h : Calm s) {p : ByteArray} {f : Nat} {xs : List Int} {k : Nat} {ys : List Int} (hp : pathF p = true) (hf : fileP s p = some (f, xs, k)) (h1 : xs.length + ys.length ≤ 2097152) (h2 : s.used + ys.length ≤ s.quota) :
    apP s p ys = { (bgP s) with used := s.used + ys.length, F := upd s.F f (some (xs ++ ys, k)) } := by
  unfold Proofs.YtegdadkejheagaaGreatDoor.apP
  rw [if_pos (h.apE hp hf h1 h2), hf]
theorem Calm.rdE {s : Ps} (h : Calm s) {p : ByteArray} {f : Nat} {xs : List Int} {k : Nat} (hp : pathF p = true) (hf : fileP s p = some (f, xs, k)) : rdE s p = 0 ∧ rdL s p = xs := by
  have e : Proofs.YtegdadkejheagaaGreatDoor.rdE s p = 0 := by
    unfold Proofs.YtegdadkejheagaaGreatDoor.rdE
    rw [if_neg (by rw [h.dark]; decide), if_neg (by rw [hp]; decide), (fileP_inv hf).1]
  refine ⟨e, ?_⟩
  unfold rdL
  rw [if_pos e, hf]
/-- A crash without choices: what lasts, whole files alone. -/
theorem chs_nil (i : Nat) : chs [] i = 0 := by unfold chs; simp
theorem svF_zero (C : ByteArray → List Chg) : ∀ (ks : List ByteArray) (N : ByteArray → Option Nat) (i : Nat), svF C [] N i ks = N
  | [], _, _ => rfl
  | q :: ks, N, i => by
    have h := svF_zero C ks (((C q).take ((chs [] i).toNat % ((C q).length + 1))).foldl apl N) (i + 1)
    rw [chs_nil] at h
    show svF C [] (((C q).take ((chs [] i).toNat % ((C q).length + 1))).foldl apl N) (i + 1) ks = N
    rw [chs_nil]
    rw [h]
    simp
end Go.Proofs.YtegdadkejheagaaGreatDoor
