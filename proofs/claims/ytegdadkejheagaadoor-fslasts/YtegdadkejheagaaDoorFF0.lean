/-
  Pure: refused calls.
-/
import Derived.Test.YtegdadkejheagaaDoorFPL
namespace Go.Proofs.YtegdadkejheagaaDoor
open Go.RowKit Go.WideMaps Go.Maps

theorem One.bg {s : Ps} {q : Int} {p : ByteArray} {f : Nat} {xs : List Int} {k : Nat} (h : One s q p f xs k) : One (bgP s) q p f xs k :=
  ⟨h.calm.bg, by rw [h.calm.bgP_eq]; exact h.quota, by rw [bgP_used]; exact h.used, fun r => by rw [bgP_N]; exact h.N r, by rw [bgP_F]; exact h.F⟩
theorem Calm.bg_count {s : Ps} (h : Calm s) : (bgP s).count = s.count + 1 := by rw [h.bgP_eq]
theorem crP_bad {s s' : Ps} {p : ByteArray} (h : crE s p ≠ 0) (hc : CrP s p s') : s' = bgP s := by
  unfold CrP at hc
  rwa [if_neg h] at hc
theorem apP_bad {s : Ps} {p : ByteArray} {ys : List Int} (h : apE s p ys.length ≠ 0) : apP s p ys = bgP s := by
  unfold apP
  rw [if_neg h]
theorem rnP_bad {s : Ps} {p q : ByteArray} (h : opEP s [p, q] p ≠ 0) : rnP s p q = bgP s := by
  unfold rnP
  rw [if_neg (fun e => h e.1)]
theorem rmP_bad {s : Ps} {p : ByteArray} (h : opEP s [p] p ≠ 0) : rmP s p = bgP s := by
  unfold rmP
  rw [if_neg h]
theorem Calm.bgE_bad {s : Ps} (h : Calm s) {L : List ByteArray} (hL : oneF L = false) (r : Bool) : bgEP s r L = 1 := by
  unfold bgEP
  rw [if_neg (by rw [h.dark]; decide), if_neg (by rw [h.last]; have := h.count; omega), if_pos hL]
theorem Calm.crE_there {s : Ps} (h : Calm s) {p : ByteArray} {f : Nat} (hp : pathF p = true) (hN : s.N p = some f) : Proofs.YtegdadkejheagaaDoor.crE s p = 8 := by
  unfold Proofs.YtegdadkejheagaaDoor.crE
  rw [if_pos (h.bgE (oneF_single hp) true), hN]
theorem Calm.crE_bad {s : Ps} (h : Calm s) {p : ByteArray} (hp : oneF [p] = false) : Proofs.YtegdadkejheagaaDoor.crE s p = 1 := by
  have e := h.bgE_bad hp true
  unfold Proofs.YtegdadkejheagaaDoor.crE
  rw [e]
  rfl
theorem Calm.opE_none {s : Ps} (h : Calm s) {p : ByteArray} (hp : pathF p = true) (hN : s.N p = none) : opEP s [p] p = 7 := by
  unfold opEP
  rw [if_pos (h.bgE (oneF_single hp) true), hN]
theorem Calm.opE_bad {s : Ps} (h : Calm s) {L : List ByteArray} {p : ByteArray} (hL : oneF L = false) : opEP s L p = 1 := by
  have e := h.bgE_bad hL true
  unfold opEP
  rw [e]
  rfl
theorem Calm.apE_none {s : Ps} (h : Calm s) {p : ByteArray} (hp : pathF p = true) (hN : s.N p = none) (k : Nat) : Proofs.YtegdadkejheagaaDoor.apE s p k = 7 := by
  have e := h.opE_none hp hN
  unfold Proofs.YtegdadkejheagaaDoor.apE
  rw [e]
  rfl
theorem Calm.apE_full {s : Ps} (h : Calm s) {p : ByteArray} {f : Nat} {xs : List Int} {k n : Nat} (hp : pathF p = true) (hf : fileP s p = some (f, xs, k)) (h1 : xs.length + n ≤ 2097152) (h2 : s.quota < s.used + n) : Proofs.YtegdadkejheagaaDoor.apE s p n = 12 := by
  unfold Proofs.YtegdadkejheagaaDoor.apE
  rw [if_pos (h.opE hp (fileP_inv hf).1), hf]
  simp only
  rw [if_neg (by omega), if_pos h2]
/-- The plan of the third example. -/
structure Ex3 (s : Ps) (c : Int) (k : Bool) : Prop where
  dark : s.dark = k
  last : s.last = 3
  count : s.count = c
  R : ∀ i, s.R i = decide (i ∈ [(2 : Int)])
theorem ex3_new : Ex3 (plP (newS 100).ps [2] 3) 0 false := ⟨rfl, rfl, rfl, fun _ => rfl⟩
theorem Ex3.bgE0 {s : Ps} (h : Ex3 s 0 false) {L : List ByteArray} (hL : oneF L = true) : bgEP s true L = 0 := by
  unfold bgEP
  rw [if_neg (by rw [h.dark]; decide), if_neg (by rw [h.last, h.count]; decide), if_neg (by rw [hL]; decide), h.R, h.count]
  rfl
theorem Ex3.bg0 {s : Ps} (h : Ex3 s 0 false) : Ex3 (bgP s) 1 false := by
  unfold bgP
  rw [if_neg (by rw [h.dark]; decide)]
  exact ⟨by show decide (s.count + 1 = s.last) = false; rw [h.count, h.last]; rfl, h.last, by show s.count + 1 = 1; rw [h.count]; rfl, h.R⟩
theorem Ex3.bgE1 {s : Ps} (h : Ex3 s 1 false) {L : List ByteArray} (hL : oneF L = true) : bgEP s true L = 11 := by
  unfold bgEP
  rw [if_neg (by rw [h.dark]; decide), if_neg (by rw [h.last, h.count]; decide), if_neg (by rw [hL]; decide), h.R, h.count]
  rfl
theorem Ex3.bg1 {s : Ps} (h : Ex3 s 1 false) : Ex3 (bgP s) 2 false := by
  unfold bgP
  rw [if_neg (by rw [h.dark]; decide)]
  exact ⟨by show decide (s.count + 1 = s.last) = false; rw [h.count, h.last]; rfl, h.last, by show s.count + 1 = 2; rw [h.count]; rfl, h.R⟩
theorem Ex3.bgE2 {s : Ps} (h : Ex3 s 2 false) (L : List ByteArray) : bgEP s true L = 13 := by
  unfold bgEP
  rw [if_neg (by rw [h.dark]; decide), if_pos (by rw [h.last, h.count]; rfl)]
theorem Ex3.bg2 {s : Ps} (h : Ex3 s 2 false) : Ex3 (bgP s) 3 true := by
  unfold bgP
  rw [if_neg (by rw [h.dark]; decide)]
  exact ⟨by show decide (s.count + 1 = s.last) = true; rw [h.count, h.last]; rfl, h.last, by show s.count + 1 = 3; rw [h.count]; rfl, h.R⟩
theorem Ex3.note {s : Ps} {c : Int} {k : Bool} (h : Ex3 s c k) (F : Nat → Option (List Int × Nat)) (p : ByteArray) (x : Chg) : Ex3 (noteP { s with F := F } p x) c k := ⟨h.dark, h.last, h.count, h.R⟩
theorem ex3_one {s1 : Ps} (h : CrP (plP (newS 100).ps [2] 3) pA s1) : Ex3 s1 1 false ∧ s1.used = 0 := by
  have e0 : crE (plP (newS 100).ps [2] 3) pA = 0 := by
    unfold crE
    rw [if_pos (ex3_new.bgE0 (oneF_single pA_path))]
    rfl
  unfold CrP at h
  rw [if_pos e0] at h
  obtain ⟨f, -, rfl⟩ := h
  exact ⟨ex3_new.bg0.note _ _ _, by show (bgP (plP (newS 100).ps [2] 3)).used = 0; rw [bgP_used]; rfl⟩
theorem Ex3.apE1 {s : Ps} (h : Ex3 s 1 false) (k : Nat) : apE s pA k = 11 := by
  have e := h.bgE1 (oneF_single pA_path)
  have e2 : opEP s [pA] pA = 11 := by
    unfold opEP
    rw [e]
    rfl
  unfold apE
  rw [e2]
  rfl
theorem Ex3.apE2 {s : Ps} (h : Ex3 s 2 false) (k : Nat) : apE s pA k = 13 := by
  have e := h.bgE2 [pA]
  have e2 : opEP s [pA] pA = 13 := by
    unfold opEP
    rw [e]
    rfl
  unfold apE
  rw [e2]
  rfl
theorem Ex3.rdE {s : Ps} {c : Int} (h : Ex3 s c true) (p : ByteArray) : rdE s p = 13 := by
  unfold Proofs.YtegdadkejheagaaDoor.rdE
  rw [if_pos h.dark]
def pC : ByteArray := ⟨#[99]⟩
def pX : ByteArray := ⟨#[120]⟩
def pASB : ByteArray := ⟨#[97, 47, 47, 98]⟩
def pCB : ByteArray := ⟨#[99, 47, 98]⟩
def pNo : ByteArray := ⟨#[110, 111, 116, 104, 105, 110, 103, 47, 47]⟩
theorem pC_path : pathF pC = true := by kernel_rfl
theorem pX_path : pathF pX = true := by kernel_rfl
theorem pASB_one : oneF [pASB] = false := by kernel_rfl
theorem pAB_CB : oneF [pAB, pCB] = false := by kernel_rfl
theorem pC_ne : pC ≠ pAB := fun e => by
  have := congrArg ByteArray.size e
  exact absurd this (by decide)
theorem pX_ne : pX ≠ pAB := fun e => by
  have := congrArg ByteArray.size e
  exact absurd this (by decide)
end Go.Proofs.YtegdadkejheagaaDoor
