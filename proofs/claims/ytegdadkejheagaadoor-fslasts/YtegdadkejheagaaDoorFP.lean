/-
  Walks: New, Off, Count, Read, and what a nil disk answers.
-/
import Derived.Test.YtegdadkejheagaaDoorFO
namespace Go.Proofs.YtegdadkejheagaaDoor
open Go.RowKit Go.WideMaps

def newS (q : Int) : St := ⟨q, 0, none, none, none, none, 0, 0, false, fun _ => none, fun _ => none, fun _ => none, fun _ => false, fun _ => none, 0⟩
theorem new_bd (w : World) (B : Nat → Prop) (q : Int) : Bd w B (newS q) 0 := {
  mN := fun _ => rfl, mL := fun _ => rfl, mC := fun _ => rfl, mR := fun _ => rfl
  bB := fun b h => by rcases h with h | h | h | h <;> exact nomatch h
  sp := fun b => ⟨(fun h => nomatch h), (fun h => nomatch h), (fun h => nomatch h)⟩
  nl := ⟨⟨fun _ => rfl, fun _ => rfl⟩, ⟨fun _ => rfl, fun _ => rfl⟩⟩
  fl := (fun _ _ h => nomatch h)
  fA := (fun _ _ _ _ _ _ h => nomatch h)
  nF := (fun _ _ h => nomatch h)
  lF := (fun _ _ h => nomatch h)
  cF := (fun _ _ _ _ _ h => nomatch h)
  rw := (fun _ _ _ h => nomatch h)
  rA := (fun _ _ _ _ _ _ _ _ h => nomatch h)
  kz := fun _ h => by rcases h with h | h | h <;> exact absurd rfl h }
set_option maxRecDepth 100000 in
theorem new_any (q : Int) (w : World) (hq : 0 ≤ q) : Calls Tryd.prog 8 #[.int .i64 q] w fun e w' => e = .returned (.tuple #[.pointer (some ⟨w.heap.size, 0, none⟩), .int .i64 0]) ∧ Dk w' (fun i => i = w.heap.size) w.heap.size (newS q) 0 ∧ Below w.heap.size w w' := by
  have hqi : ¬ q < 0 := by omega
  go_enter Tryd.func8, Tryd.ntmps8
  go_wp2
  go_ret2
  exact ⟨rfl, ⟨Bk.new w _ _, rfl, new_bd _ _ _⟩, (Below.refl _ _).alloc (Nat.le_refl _) _⟩
set_option maxRecDepth 100000 in
theorem off_any {w : World} {B : Nat → Prop} {d n : Nat} {S : St} (h : Dk w B d S n) : Calls Tryd.prog 21 #[.pointer (some ⟨d, 0, none⟩)] w fun e w' => e = .returned (.bool S.dark) ∧ w' = w := by
  have h8 := h.dark
  clear h
  go_enter Tryd.func21, Tryd.ntmps21
  go_wp2
  go_ret
  exact ⟨rfl, rfl⟩
set_option maxRecDepth 100000 in
theorem off_nil (w : World) : Calls Tryd.prog 21 #[.pointer none] w fun e w' => e = .returned (.bool false) ∧ w' = w := by
  go_enter Tryd.func21, Tryd.ntmps21
  go_wp2
  go_ret
  exact ⟨rfl, rfl⟩
set_option maxRecDepth 100000 in
theorem count_any {w : World} {B : Nat → Prop} {d n : Nat} {S : St} (h : Dk w B d S n) : Calls Tryd.prog 22 #[.pointer (some ⟨d, 0, none⟩)] w fun e w' => e = .returned (.int .i64 S.count) ∧ w' = w := by
  have h8 := h.count
  clear h
  go_enter Tryd.func22, Tryd.ntmps22
  go_wp2
  go_ret
  exact ⟨rfl, rfl⟩
set_option maxRecDepth 100000 in
theorem count_nil (w : World) : Calls Tryd.prog 22 #[.pointer none] w fun e w' => e = .returned (.int .i64 0) ∧ w' = w := by
  go_enter Tryd.func22, Tryd.ntmps22
  go_wp2
  go_ret
  exact ⟨rfl, rfl⟩
/-- A copy of a file's bytes. -/
theorem clone_own {w : World} {v : Value} {xs : List Int} (h : Own .u8 5 w 0 v xs) (hl : xs.length ≤ 2097152) : Calls Tryd.prog 30 #[v] w fun e w' => ∃ v', e = .returned v' ∧ Own .u8 5 w' w.heap.size v' xs ∧ Below w.heap.size w w' := by
  rcases h.2 with ⟨rfl, hn⟩ | ⟨g, cap, cur, rfl, -⟩
  · have hx : xs = [] := List.eq_nil_of_length_eq_zero hn
    subst hx
    refine Calls.mono (Tryd.bytes_Clone_nil 0 0 w) (fun e w' hp => ?_)
    obtain ⟨rfl, rfl⟩ := hp
    exact ⟨_, rfl, Own.nil _ _ _ _, Below.refl _ _⟩
  · refine Calls.mono (Tryd.bytes_Clone_at ⟨g, 0, none⟩ xs.length cap xs w rfl (by omega) (fun i hi => ?_)) (fun e w' hp => ?_)
    · have := World.ownsRow.cells h (g := g) rfl i (.int .u8 (xs.getD i 0)) (by
        unfold cellsK
        rw [List.getElem?_map, List.getElem?_eq_getElem hi]
        simp [List.getD, List.getElem?_eq_getElem hi])
      exact this
    · obtain ⟨v', rfl, h1, -, h3⟩ := hp
      exact ⟨v', rfl, h1, h3⟩
def rdE (s : Ps) (p : ByteArray) : Int := if s.dark = true then 13 else if pathF p = false then 1 else (match s.N p with | none => 7 | some _ => 0)
def rdL (s : Ps) (p : ByteArray) : List Int := if rdE s p = 0 then (match fileP s p with | none => [] | some (_, xs, _) => xs) else []
set_option maxRecDepth 100000 in
set_option maxHeartbeats 2000000 in
theorem read_any (p : ByteArray) {w : World} {B : Nat → Prop} {d n : Nat} {S : St} (h : Dk w B d S n) (hg : Gl w) :
    Calls Tryd.prog 11 #[.pointer (some ⟨d, 0, none⟩), .string p] w fun e w' => ∃ v, e = .returned (.tuple #[v, .int .i64 (rdE S.ps p)]) ∧ Own .u8 5 w' w.heap.size v (rdL S.ps p) ∧ Below w.heap.size w w' := by
  have KD := Kept.mk h
  have KRy := Kept.mk (ready_any h)
  have KPa := Kept.mk (path_any p w hg)
  have KE : Kept (rdE S.ps p = if S.dark = true then 13 else if pathF p = false then 1 else (match S.N p with | none => 7 | some _ => 0)) := ⟨rfl⟩
  have KL : Kept (rdL S.ps p = if rdE S.ps p = 0 then (match fileP S.ps p with | none => [] | some (_, xs, _) => xs) else []) := ⟨rfl⟩
  clear h hg
  go_enter Tryd.func11, Tryd.ntmps11
  cases hk : S.dark with
  | true =>
    have KE2 : Kept (rdE S.ps p = 13) := ⟨by rw [KE.out, if_pos hk]⟩
    have KL2 : Kept (rdL S.ps p = []) := ⟨by rw [KL.out, KE2.out, if_neg (by decide)]⟩
    have er : rdyE S.dark = 13 := by rw [hk]; rfl
    rw [er] at KRy
    clear er hk
    go_wp2_with fail
    refine Calls.mono KRy.out (fun x w1 hp => ?_)
    obtain ⟨rfl, hw⟩ := hp
    subst hw
    go_wp2
    go_ret2
    exact ⟨_, by rw [KE2.out]; rfl, by rw [KL2.out]; exact Own.nil _ _ _ _, Below.refl _ _⟩
  | false =>
    have er : rdyE S.dark = 0 := by rw [hk]; rfl
    rw [er] at KRy
    have KEr : Kept (rdE S.ps p = if pathF p = false then 1 else (match S.N p with | none => 7 | some _ => 0)) := ⟨by rw [KE.out, if_neg (by rw [hk]; decide)]⟩
    clear er hk
    go_wp2_with fail
    refine Calls.mono KRy.out (fun x w1 hp => ?_)
    obtain ⟨rfl, hw⟩ := hp
    subst hw
    go_wp2_with fail
    refine Calls.mono KPa.out (fun x w2 hp => ?_)
    obtain ⟨rfl, hb2⟩ := hp
    have KD2 := Kept.mk (KD.out.later hb2)
    have KB2 := Kept.mk hb2
    clear hb2 KPa KRy
    cases hp : pathF p with
    | false =>
      have KE2 : Kept (rdE S.ps p = 1) := ⟨by rw [KEr.out, if_pos hp]⟩
      have KL2 : Kept (rdL S.ps p = []) := ⟨by rw [KL.out, KE2.out, if_neg (by decide)]⟩
      clear hp
      go_wp2
      go_ret2
      exact ⟨_, by rw [KE2.out]; rfl, by rw [KL2.out]; exact Own.nil _ _ _ _, KB2.out⟩
    | true =>
      have hps := path_size hp
      have hlk := KD2.out.bd.mN.look Tryd.underlying53 (zero_ptr w2) (s := p) (by unfold maxLen; omega)
      rw [nmV_get] at hlk
      have g2 := KD2.out.names
      have KE2 : Kept (rdE S.ps p = match S.N p with | none => 7 | some _ => 0) := ⟨by rw [KEr.out, if_neg (by rw [hp]; decide)]⟩
      clear hp hps
      cases hN : S.N p with
      | none =>
        have KE3 : Kept (rdE S.ps p = 7) := ⟨by rw [KE2.out, hN]⟩
        have KL2 : Kept (rdL S.ps p = []) := ⟨by rw [KL.out, KE3.out, if_neg (by decide)]⟩
        rw [hN] at hlk
        unfold ptrV at hlk
        clear hN
        go_wp2
        go_ret2
        exact ⟨_, by rw [KE3.out]; rfl, by rw [KL2.out]; exact Own.nil _ _ _ _, KB2.out⟩
      | some f =>
        have KE3 : Kept (rdE S.ps p = 0) := ⟨by rw [KE2.out, hN]⟩
        obtain ⟨c, hc⟩ := KD2.out.bd.nF p f hN
        have KFP := Kept.mk (fileP_some hN hc)
        have KL2 : Kept (rdL S.ps p = c.xs) := ⟨by rw [KL.out, KE3.out, if_pos rfl, KFP.out]⟩
        have hfl := KD2.out.bd.fl f c hc
        have k0a := hfl.blk.cell 0 _ rfl
        have KCl := Kept.mk (clone_own hfl.own hfl.big)
        obtain ⟨vv, hvv⟩ : ∃ vv, c.v = vv := ⟨_, rfl⟩
        have KV := Kept.mk hvv
        rw [hvv] at KCl
        have k0 : w2.cell? ⟨f, 0, none⟩ = some vv := by rw [← hvv]; exact k0a
        clear k0a
        rw [hN] at hlk
        unfold ptrV at hlk
        clear hN hc hfl hvv
        go_wp2_with fail
        refine Calls.mono KCl.out (fun x w3 hp => ?_)
        obtain ⟨v', rfl, ho3, hb3⟩ := hp
        have KO3 := Kept.mk ho3
        have KB3 := Kept.mk hb3
        clear ho3 hb3 KCl hlk g2 k0
        go_wp2
        go_ret2
        exact ⟨_, by rw [KE3.out]; rfl, by rw [KL2.out]; exact KO3.out.mono KB2.out.size, KB2.out.trans (KB3.out.mono KB2.out.size)⟩
end Go.Proofs.YtegdadkejheagaaDoor
