/-
  The document's reader: lengths (the plain side; next behind a symbol).
-/
import Derived.Test.YtjijkcmbbccfmaaDoorD13
namespace Go.Proofs.YtjijkcmbbccfmaaDoor
open Go.RowKit
set_option linter.unusedVariables false

def Rs.bind {α β : Type} (r : Rs β) (k : β → Nat → Rs α) : Rs α :=
  match r with
  | .bad e => .bad e
  | .ok v t => k v t
theorem dnext_any {W0 w0 w : World} {rb : Nat} {ob : Option Nat} {inV : Value} {p out : List Int} {most t : Nat} {E : Int} {L : List Int} {q : Value} {R1 : Rs Int} {R : Rs (List Int)} (s : Int) (want : Nat)
    (hst : StD R1 s t E) (hs0 : E ≠ 0 → s = 0) (hsr : 0 ≤ s ∧ s ≤ 18) (hR : R = R1.bind fun s t => nxF p L s want t)
    (hw : L.length < want) (hwm : want ≤ 400) (hF : Fr rb ob w0 w) (hq : Own .i64 3 w w0.heap.size q L) (hrb : rb < w0.heap.size) (hob : ∀ k, ob = some k → k < w0.heap.size) (h : Bts W0 w rb ob inV p most out t E) :
    Calls Tryd.prog 59 #[.pointer (some ⟨rb, 0, none⟩), q, .int .i64 s, .int .i64 want] w fun e w' => AfterN W0 w0 w' rb ob inV p most out R e := by
  rcases hst with ⟨h1, rfl⟩ | ⟨er, h1, rfl⟩
  · rw [h1] at hR
    dsimp only [Rs.bind] at hR
    by_cases h15 : s ≤ 15
    · refine Calls.mono (dnext_plain s want hsr.1 h15 hw hwm hF hq hrb hob h) (fun e w' hp => ?_)
      obtain ⟨q', rfl, a, b, c⟩ := hp
      rw [nxF, if_pos h15] at hR
      exact ⟨q', _, _, _, rfl, a, Or.inl ⟨hR, rfl⟩, b, c⟩
    · rcases (by omega : s = 16 ∨ s = 17 ∨ s = 18) with rfl | rfl | rfl
      · by_cases hL : L = []
        · refine Calls.mono (dnext_none want hL hw hwm hF hq hrb hob h) (fun e w' hp => ?_)
          obtain ⟨q', rfl, a, b, c⟩ := hp
          rw [nxF, if_neg h15, if_pos ⟨rfl, hL⟩] at hR
          exact ⟨q', _, _, _, rfl, a, Or.inr ⟨.form, hR, rfl⟩, b, c⟩
        · exact dnext_16 want hR hL hw hwm hF hq hrb hob h
      · exact dnext_17 want hR hw hwm hF hq hrb hob h
      · exact dnext_18 want hR hw hwm hF hq hrb hob h
  · obtain rfl := hs0 (er_ne er)
    rw [h1] at hR
    dsimp only [Rs.bind] at hR
    refine Calls.mono (dnext_off want (er_ne er) hw hwm hF hq hrb hob h) (fun e w' hp => ?_)
    obtain ⟨rfl, rfl⟩ := hp
    exact ⟨q, L, t, er.v, rfl, hq, Or.inr ⟨er, hR, rfl⟩, h, hF⟩

/-- A step of the document's, and what follows. -/
theorem preD_bind {α β : Type} {R : Rs α} {F : Rs β} {K : β → Nat → Rs α} {E : Int} (h : PreD R (F.bind K) E) : ∃ R1 : Rs β, PreD R1 F E ∧ ∀ v t' E', StD R1 v t' E' → PreD R (K v t') E' := by
  rcases h with ⟨h1, h2⟩ | ⟨er, h1, h2⟩
  · refine ⟨F, Or.inl ⟨h1, rfl⟩, fun v t' E' hS => ?_⟩
    rcases hS with ⟨h3, h4⟩ | ⟨er, h3, h4⟩
    · refine Or.inl ⟨h4, ?_⟩
      rw [h2, h3]
      rfl
    · refine Or.inr ⟨er, ?_, h4⟩
      rw [h2, h3]
      rfl
  · refine ⟨.bad er, Or.inr ⟨er, rfl, h2⟩, fun v t' E' hS => ?_⟩
    rcases hS with ⟨h3, h4⟩ | ⟨er', h3, h4⟩
    · cases h3
    · injection h3 with h3
      subst h3
      exact Or.inr ⟨er, h1, h4⟩
/-- No form is met. -/
theorem preD_fail {α : Type} {R : Rs α} {E : Int} (h : PreD R (.bad .form) E) : ∃ er : Er, R = .bad er ∧ (if E = 0 then 4 else E) = er.v := by
  rcases h with ⟨h1, h2⟩ | ⟨er, h1, h2⟩
  · exact ⟨.form, h2, by rw [if_pos h1]; rfl⟩
  · exact ⟨er, h1, by rw [if_neg (by rw [h2]; exact er_ne er), h2]⟩
/-- What was met is the result, whatever would follow. -/
theorem preD_off {α : Type} {R F : Rs α} {E : Int} (h : PreD R F E) (hE : E ≠ 0) : ∃ er : Er, R = .bad er ∧ E = er.v := by
  rcases h with ⟨h1, h2⟩ | h1
  · exact absurd h1 hE
  · exact h1
theorem preD_on {α : Type} {R F : Rs α} {E : Int} (h : PreD R F E) (hE : E = 0) : R = F := by
  rcases h with ⟨h1, h2⟩ | ⟨er, h1, h2⟩
  · exact h2
  · exact absurd (h2.symm.trans hE) (er_ne er)

/-- Both lists of lengths of way 2, step by step. -/
def kE (a : Int) (L : List Int) (t : Nat) : Rs (List Int × List Int) :=
  if L.getD 256 0 = 0 ∨ rightF (mkCd (L.take (a + 257).toNat)) = false then .bad .form
  else if rightF (mkCd (L.drop (a + 257).toNat)) = false ∧ (mkCd (L.drop (a + 257).toNat)).symbols ≠ [] then .bad .form
  else .ok (L.take (a + 257).toNat, L.drop (a + 257).toNat) t
def kL (p : List Int) (a : Int) (want : Nat) (F : List Int) (f : Nat) (L : List Int) (t : Nat) : Rs (List Int × List Int) := (lensGo p (mkCd F) want f L t).bind (kE a)
def kR (p : List Int) (a : Int) (want : Nat) (F : List Int) (t : Nat) : Rs (List Int × List Int) :=
  if rightF (mkCd F) = true then kL p a want F want [] t else .bad .form
def kO (p : List Int) (a : Int) (want : Nat) (os F : List Int) (t : Nat) : Rs (List Int × List Int) := (lcGo p os F t).bind (kR p a want)
def kC (p : List Int) (a b c : Int) (t : Nat) : Rs (List Int × List Int) :=
  if 29 < a ∨ 29 < b then .bad .form else kO p a (a + 257 + b + 1).toNat (orderL.take (c + 4).toNat) (List.replicate 19 0) t
def tlF (p : List Int) (t : Nat) : Rs (List Int × List Int) :=
  (numF p 5 t).bind fun a t1 => (numF p 5 t1).bind fun b t2 => (numF p 4 t2).bind fun c t3 => kC p a b c t3
theorem told_tl (p : List Int) (t : Nat) : toldF p t = (tlF p t).bind fun ab t' => .ok (mkCd ab.1, mkCd ab.2) t' := by
  unfold toldF tlF countsF
  rcases numF p 5 t with ⟨a, t1⟩ | er
  · dsimp only [Rs.bind]
    rcases numF p 5 t1 with ⟨b, t2⟩ | er
    · dsimp only [Rs.bind]
      rcases numF p 4 t2 with ⟨c, t3⟩ | er
      · dsimp only [Rs.bind]
        unfold kC
        by_cases h : 29 < a ∨ 29 < b
        · rw [if_pos h, if_pos h]
        · rw [if_neg h, if_neg h]
          dsimp only
          unfold kO lcF
          rcases lcGo p (orderL.take (c + 4).toNat) (List.replicate 19 0) t3 with ⟨F, t4⟩ | er
          · dsimp only [Rs.bind]
            unfold kR
            by_cases hr : rightF (mkCd F) = true
            · rw [if_pos hr, if_pos hr]
              dsimp only
              unfold kL lensF
              rcases lensGo p (mkCd F) (a + 257 + b + 1).toNat (a + 257 + b + 1).toNat [] t4 with ⟨L, t5⟩ | er
              · dsimp only [Rs.bind]
                unfold kE
                by_cases h1 : L.getD 256 0 = 0 ∨ rightF (mkCd (L.take (a + 257).toNat)) = false
                · rw [if_pos h1, if_pos h1]
                · rw [if_neg h1, if_neg h1]
                  by_cases h2 : rightF (mkCd (L.drop (a + 257).toNat)) = false ∧ (mkCd (L.drop (a + 257).toNat)).symbols ≠ []
                  · rw [if_pos h2, if_pos h2]
                  · rw [if_neg h2, if_neg h2]
              · rfl
            · rw [if_neg hr, if_neg hr]
          · rfl
      · rfl
    · rfl
  · rfl
theorem kO_cons (p : List Int) (a : Int) (want : Nat) (o : Int) (os F : List Int) (t : Nat) : kO p a want (o :: os) F t = (numF p 3 t).bind fun v t' => kO p a want os (F.set o.toNat v) t' := by
  unfold kO
  rw [lcGo]
  rcases numF p 3 t with ⟨v, t'⟩ | er <;> rfl
/-- A round of the lengths. -/
theorem kL_step (p : List Int) (a : Int) (want : Nat) (F : List Int) (f : Nat) (L : List Int) (t : Nat) (h : L.length < want) : kL p a want F (f + 1) L t = (symF p (mkCd F) t).bind fun s t1 => (nxF p L s want t1).bind fun L' t2 => kL p a want F f L' t2 := by
  unfold kL
  rw [lensGo, if_pos h]
  rcases symF p (mkCd F) t with ⟨s, t1⟩ | er
  · dsimp only [Rs.bind]
    unfold nxF
    by_cases h15 : s ≤ 15
    · rw [if_pos h15, if_pos h15]
    · rw [if_neg h15, if_neg h15]
      by_cases hn : s = 16 ∧ L = []
      · rw [if_pos hn, if_pos hn]
      · rw [if_neg hn, if_neg hn]
        rcases timesF p s t1 with ⟨n, t2⟩ | er
        · dsimp only
          by_cases hm : (want : Int) < L.length + n
          · rw [if_pos hm, if_pos hm]
          · rw [if_neg hm, if_neg hm]
        · rfl
  · rfl
theorem kL_end (p : List Int) (a : Int) (want : Nat) (F : List Int) (f : Nat) (L : List Int) (t : Nat) (h : ¬ L.length < want) : kL p a want F f L t = kE a L t := by
  unfold kL
  cases f with
  | zero => rw [lensGo]; rfl
  | succ f => rw [lensGo, if_neg h]; rfl
/-- What is put behind lengths stays within bounds. -/
theorem nxF_ok {p L L' : List Int} {s : Int} {want t t' : Nat} (h : nxF p L s want t = .ok L' t') (hs : 0 ≤ s ∧ s ≤ 18) (hL : AllIn 0 16 L) (hl : L.length < want) : L.length < L'.length ∧ L'.length ≤ want ∧ AllIn 0 16 L' := by
  unfold nxF at h
  by_cases h15 : s ≤ 15
  · rw [if_pos h15] at h
    injection h with h1 h2
    subst h1
    refine ⟨by simp, by simp; omega, hL.append (AllIn.one hs.1 (by omega))⟩
  · rw [if_neg h15] at h
    by_cases hn : s = 16 ∧ L = []
    · rw [if_pos hn] at h
      cases h
    · rw [if_neg hn] at h
      rcases hq : timesF p s t with ⟨n, t2⟩ | er
      · rw [hq] at h
        obtain ⟨n3, -, -, -⟩ := timesF_ok hq (by omega) hs.2
        dsimp only at h
        by_cases hm : (want : Int) < L.length + n
        · rw [if_pos hm] at h
          cases h
        · rw [if_neg hm] at h
          injection h with h1 h2
          subst h1
          refine ⟨by simp; omega, by simp; omega, hL.append fun x hx => ?_⟩
          obtain ⟨-, rfl⟩ := List.mem_replicate.1 hx
          split
          · rw [getLastD_eq]
            exact hL.getD (by omega) _
          · omega
      · rw [hq] at h
        cases h
end Go.Proofs.YtjijkcmbbccfmaaDoor
