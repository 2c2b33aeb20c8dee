/-
  Walks: names and paths.
-/
import Derived.Test.YthkaohkondkhgaaDoorN3
namespace Go.Proofs.YthkaohkondkhgaaDoor
open Go.RowKit

def lowN (n : Nat) : Nat := if 65 ≤ n ∧ n ≤ 90 then n + 32 else n
set_option maxHeartbeats 400000 in
set_option maxRecDepth 100000 in
theorem lower_any (n : Nat) (w : World) (hn : n < 256) : Calls Tryd.prog 110 #[.int .u8 n] w fun e w' => e = .returned (.int .u8 (lowN n)) ∧ w' = w := by
  unfold lowN
  by_cases h1 : 65 ≤ n
  · have h1i : (65 : Int) ≤ (n : Int) := by omega
    by_cases h2 : n ≤ 90
    · have h2i : (n : Int) ≤ 90 := by omega
      go_enter Tryd.func110, Tryd.ntmps110
      go_wp2
      go_ret
      have e : (n : Int) - 65 + 97 = (n : Int) + 32 := by omega
      rw [← e]
      exact ⟨rfl, rfl⟩
    · have h2i : ¬ (n : Int) ≤ 90 := by omega
      go_enter Tryd.func110, Tryd.ntmps110
      go_wp2
      go_ret
      exact ⟨rfl, rfl⟩
  · have h1i : ¬ (65 : Int) ≤ (n : Int) := by omega
    go_enter Tryd.func110, Tryd.ntmps110
    go_wp2
    go_ret
    exact ⟨rfl, rfl⟩

/-- Is it .git, in whatever letters? -/
def gitF (s : ByteArray) : Bool := decide (s.data.toList.map (fun b => lowN b.toNat) = [46, 103, 105, 116])
theorem four {s : ByteArray} (h : s.size = 4) : ∃ a b c d : UInt8, s = ⟨#[a, b, c, d]⟩ := by
  obtain ⟨⟨l⟩⟩ := s
  have hl : l.length = 4 := h
  match l, hl with
  | [a, b, c, d], _ => exact ⟨a, b, c, d, rfl⟩

set_option maxHeartbeats 1000000 in
set_option maxRecDepth 100000 in
theorem isDotGit_any (s : ByteArray) (w : World) : Calls Tryd.prog 96 #[.string s] w fun e w' => e = .returned (.bool (gitF s)) ∧ Below w.heap.size w w' := by
  by_cases h4 : s.size = 4
  · obtain ⟨x0, x1, x2, x3, rfl⟩ := four h4
    clear h4
    have KL : Kept (∀ (x : UInt8) w', Calls Tryd.prog 110 #[.int .u8 x.toNat] w' fun e w'' => e = .returned (.int .u8 (lowN x.toNat)) ∧ w'' = w') := ⟨fun x w' => lower_any x.toNat w' x.toNat_lt⟩
    have KE : Kept (gitF ⟨#[x0, x1, x2, x3]⟩ = decide (lowN x0.toNat = 46 ∧ lowN x1.toNat = 103 ∧ lowN x2.toNat = 105 ∧ lowN x3.toNat = 116)) := ⟨by unfold gitF; simp⟩
    go_enter Tryd.func96, Tryd.ntmps96
    go_wp2
    go_loopw [3, 9] (fun _ iv wr => ∃ i m : Nat, i ≤ 4 ∧ iv = .int .i64 i ∧ wr = w.drewN m ∧ (1 ≤ i → lowN x0.toNat = 46) ∧ (2 ≤ i → lowN x1.toNat = 103) ∧ (3 ≤ i → lowN x2.toNat = 105) ∧ (4 ≤ i → lowN x3.toNat = 116)) (fun _ iv _ => 4 - (intOf iv).toNat)
    case atStart => exact ⟨0, 0, by omega, rfl, rfl, by omega, by omega, by omega, by omega⟩
    case round =>
      obtain ⟨i, m, hi, rfl, rfl, q0, q1, q2, q3⟩ := hrel
      have KQ := Kept.mk (And.intro q0 (And.intro q1 (And.intro q2 q3)))
      clear q0 q1 q2 q3
      rcases (by omega : i = 0 ∨ i = 1 ∨ i = 2 ∨ i = 3 ∨ i = 4) with rfl | rfl | rfl | rfl | rfl
      · have KL0 : Kept (∀ w', Calls Tryd.prog 110 #[.int .u8 x0.toNat] w' fun e w'' => e = .returned (.int .u8 (lowN x0.toNat)) ∧ w'' = w') := ⟨KL.out x0⟩
        by_cases hx : lowN x0.toNat = 46
        · have KX := Kept.mk hx
          rw [hx] at KL0
          clear hx
          go_upto_region 6 with fail
          go_quiet ((exact (KL0.out _).mono (fun e w'' hp => ⟨hp.1, _, hp.2⟩)))
          go_wp2
          have hx := KX.out
          go_roundw
          case rel => exact ⟨1, _, by omega, rfl, rfl, (fun _ => hx), (fun h => by omega), (fun h => by omega), (fun h => by omega)⟩
          case measure => simp [intOf]
        · have hxi : ((lowN x0.toNat : Int) == 46) = false := by simp; omega
          have KX := Kept.mk hx
          generalize hL : lowN x0.toNat = L at *
          have KH := Kept.mk hL
          have hxn : ¬ (L : Int) = 46 := by omega
          have hxz : ((L : Int) != 46) = true := by simp; omega
          have hxm : ((L : Int) != (((⟨#[46, 103, 105, 116]⟩ : ByteArray)[0]'(by decide)).toNat : Int)) = true := hxz
          clear hxz
          clear hx hL
          go_upto_region 6 with fail
          go_quiet ((exact (KL0.out _).mono (fun e w'' hp => ⟨hp.1, _, hp.2⟩)))
          go_wp2
          go_ret
          have hne := KX.out
          refine ⟨?_, below_drewN (below_drewN (Below.refl _ _) _) _⟩
          rw [KE.out, decide_eq_false (fun h => hne (by have := KH.out; omega))]
          rfl
      · have KL0 : Kept (∀ w', Calls Tryd.prog 110 #[.int .u8 x1.toNat] w' fun e w'' => e = .returned (.int .u8 (lowN x1.toNat)) ∧ w'' = w') := ⟨KL.out x1⟩
        by_cases hx : lowN x1.toNat = 103
        · have KX := Kept.mk hx
          rw [hx] at KL0
          clear hx
          go_upto_region 6 with fail
          go_quiet ((exact (KL0.out _).mono (fun e w'' hp => ⟨hp.1, _, hp.2⟩)))
          go_wp2
          have hx := KX.out
          go_roundw
          case rel => exact ⟨2, _, by omega, rfl, rfl, (fun _ => KQ.out.1 (by omega)), (fun _ => hx), (fun h => by omega), (fun h => by omega)⟩
          case measure => simp [intOf]
        · have hxi : ((lowN x1.toNat : Int) == 103) = false := by simp; omega
          have KX := Kept.mk hx
          generalize hL : lowN x1.toNat = L at *
          have KH := Kept.mk hL
          have hxn : ¬ (L : Int) = 103 := by omega
          have hxz : ((L : Int) != 103) = true := by simp; omega
          have hxm : ((L : Int) != (((⟨#[46, 103, 105, 116]⟩ : ByteArray)[1]'(by decide)).toNat : Int)) = true := hxz
          clear hxz
          clear hx hL
          go_upto_region 6 with fail
          go_quiet ((exact (KL0.out _).mono (fun e w'' hp => ⟨hp.1, _, hp.2⟩)))
          go_wp2
          go_ret
          have hne := KX.out
          refine ⟨?_, below_drewN (below_drewN (Below.refl _ _) _) _⟩
          rw [KE.out, decide_eq_false (fun h => hne (by have := KH.out; omega))]
          rfl
      · have KL0 : Kept (∀ w', Calls Tryd.prog 110 #[.int .u8 x2.toNat] w' fun e w'' => e = .returned (.int .u8 (lowN x2.toNat)) ∧ w'' = w') := ⟨KL.out x2⟩
        by_cases hx : lowN x2.toNat = 105
        · have KX := Kept.mk hx
          rw [hx] at KL0
          clear hx
          go_upto_region 6 with fail
          go_quiet ((exact (KL0.out _).mono (fun e w'' hp => ⟨hp.1, _, hp.2⟩)))
          go_wp2
          have hx := KX.out
          go_roundw
          case rel => exact ⟨3, _, by omega, rfl, rfl, (fun _ => KQ.out.1 (by omega)), (fun _ => KQ.out.2.1 (by omega)), (fun _ => hx), (fun h => by omega)⟩
          case measure => simp [intOf]
        · have hxi : ((lowN x2.toNat : Int) == 105) = false := by simp; omega
          have KX := Kept.mk hx
          generalize hL : lowN x2.toNat = L at *
          have KH := Kept.mk hL
          have hxn : ¬ (L : Int) = 105 := by omega
          have hxz : ((L : Int) != 105) = true := by simp; omega
          have hxm : ((L : Int) != (((⟨#[46, 103, 105, 116]⟩ : ByteArray)[2]'(by decide)).toNat : Int)) = true := hxz
          clear hxz
          clear hx hL
          go_upto_region 6 with fail
          go_quiet ((exact (KL0.out _).mono (fun e w'' hp => ⟨hp.1, _, hp.2⟩)))
          go_wp2
          go_ret
          have hne := KX.out
          refine ⟨?_, below_drewN (below_drewN (Below.refl _ _) _) _⟩
          rw [KE.out, decide_eq_false (fun h => hne (by have := KH.out; omega))]
          rfl
      · have KL0 : Kept (∀ w', Calls Tryd.prog 110 #[.int .u8 x3.toNat] w' fun e w'' => e = .returned (.int .u8 (lowN x3.toNat)) ∧ w'' = w') := ⟨KL.out x3⟩
        by_cases hx : lowN x3.toNat = 116
        · have KX := Kept.mk hx
          rw [hx] at KL0
          clear hx
          go_upto_region 6 with fail
          go_quiet ((exact (KL0.out _).mono (fun e w'' hp => ⟨hp.1, _, hp.2⟩)))
          go_wp2
          have hx := KX.out
          go_roundw
          case rel => exact ⟨4, _, by omega, rfl, rfl, (fun _ => KQ.out.1 (by omega)), (fun _ => KQ.out.2.1 (by omega)), (fun _ => KQ.out.2.2.1 (by omega)), (fun _ => hx)⟩
          case measure => simp [intOf]
        · have hxi : ((lowN x3.toNat : Int) == 116) = false := by simp; omega
          have KX := Kept.mk hx
          generalize hL : lowN x3.toNat = L at *
          have KH := Kept.mk hL
          have hxn : ¬ (L : Int) = 116 := by omega
          have hxz : ((L : Int) != 116) = true := by simp; omega
          have hxm : ((L : Int) != (((⟨#[46, 103, 105, 116]⟩ : ByteArray)[3]'(by decide)).toNat : Int)) = true := hxz
          clear hxz
          clear hx hL
          go_upto_region 6 with fail
          go_quiet ((exact (KL0.out _).mono (fun e w'' hp => ⟨hp.1, _, hp.2⟩)))
          go_wp2
          go_ret
          have hne := KX.out
          refine ⟨?_, below_drewN (below_drewN (Below.refl _ _) _) _⟩
          rw [KE.out, decide_eq_false (fun h => hne (by have := KH.out; omega))]
          rfl
      · have KT : Kept (gitF ⟨#[x0, x1, x2, x3]⟩ = true) := ⟨by rw [KE.out]; exact decide_eq_true ⟨KQ.out.1 (by omega), KQ.out.2.1 (by omega), KQ.out.2.2.1 (by omega), KQ.out.2.2.2 (by omega)⟩⟩
        go_wp2
        go_ret
        exact ⟨by rw [KT.out]; rfl, below_drewN (Below.refl _ _) _⟩
  · have h4i : ¬ (s.size : Int) = 4 := by omega
    have hd : ((s.size : Int) == 4) = false := by simpa using h4i
    have KE : Kept (gitF s = false) := ⟨by
      unfold gitF
      apply decide_eq_false
      intro e
      have := congrArg List.length e
      simp at this
      exact h4 this⟩
    go_enter Tryd.func96, Tryd.ntmps96
    go_wp2
    go_ret
    exact ⟨by rw [KE.out]; rfl, Below.refl _ _⟩


/-- May it be a name? -/
def nameF (s : ByteArray) : Bool := decide (1 ≤ s.size) && decide (s.size ≤ 100) && !Lib.containsAny s.data.toList [47, 0] && !decide (s = ⟨#[46]⟩) && !decide (s = ⟨#[46, 46]⟩) && !gitF s
theorem ascii2 : AsciiB ⟨#[47, 0]⟩ := by
  intro j b h
  have hm : b ∈ ([47, 0] : List UInt8) := List.mem_of_getElem? h
  have key : ∀ b ∈ ([47, 0] : List UInt8), b.toNat < 128 := by decide
  exact key b hm
theorem toList_lit (s : ByteArray) (l : List UInt8) : s.toList = l ↔ s = ⟨l.toArray⟩ := by
  rw [Lib.toList_data]
  constructor
  · intro h
    obtain ⟨⟨a⟩⟩ := s
    have h' : a = l := h
    rw [h']
  · intro h
    rw [h]
set_option maxHeartbeats 1000000 in
set_option maxRecDepth 100000 in
theorem name_any (s : ByteArray) (w : World) : Calls Tryd.prog 72 #[.string s] w fun e w' => e = .returned (.bool (nameF s)) ∧ Below w.heap.size w w' := by
  by_cases h1 : 1 ≤ s.size
  · have h1i : ¬ (s.size : Int) < 1 := by omega
    by_cases h2 : s.size ≤ 100
    · have h2i : ¬ (100 : Int) < (s.size : Int) := by omega
      have KC : Kept (Calls Tryd.prog 95 #[.string s, .string ⟨#[47, 0]⟩] w fun e w' => e = .returned (.bool (Lib.containsAny s.data.toList [47, 0])) ∧ Below w.heap.size w w') := ⟨containsAny_any s ⟨#[47, 0]⟩ w (by omega) (by decide) (by decide) ascii2⟩
      have KG := Kept.mk (isDotGit_any s)
      have KE : Kept (nameF s = (!Lib.containsAny s.data.toList [47, 0] && !decide (s = ⟨#[46]⟩) && !decide (s = ⟨#[46, 46]⟩) && !gitF s)) := ⟨by unfold nameF; rw [decide_eq_true h1, decide_eq_true h2]; simp⟩
      have t1 := toList_lit s [46]
      have t2 := toList_lit s [46, 46]
      generalize Lib.containsAny s.data.toList [47, 0] = q at *
      generalize gitF s = g at *
      cases q
      · by_cases e1 : s = ⟨#[46]⟩
        · have KE2 : Kept (nameF s = false) := ⟨by rw [KE.out, decide_eq_true e1]; simp⟩
          have u1 : s.toList = [46] := t1.2 e1
          clear e1 KE t2 t1
          go_enter Tryd.func72, Tryd.ntmps72
          go_wp2_with fail
          refine Calls.mono KC.out (fun e w1 hp => ?_)
          obtain ⟨rfl, hb⟩ := hp
          have KB := Kept.mk hb
          clear hb
          go_wp2
          go_ret
          exact ⟨by rw [KE2.out]; rfl, KB.out⟩
        · have u1 : ¬ s.toList = [46] := fun h => e1 (t1.1 h)
          clear t1
          by_cases e2 : s = ⟨#[46, 46]⟩
          · have u2 : s.toList = [46, 46] := t2.2 e2
            have KE2 : Kept (nameF s = false) := ⟨by rw [KE.out, decide_eq_true e2]; simp⟩
            clear e1 e2 KE t2
            go_enter Tryd.func72, Tryd.ntmps72
            go_wp2_with fail
            refine Calls.mono KC.out (fun e w1 hp => ?_)
            obtain ⟨rfl, hb⟩ := hp
            have KB := Kept.mk hb
            clear hb
            go_wp2
            go_ret
            exact ⟨by rw [KE2.out]; rfl, KB.out⟩
          · have u2 : ¬ s.toList = [46, 46] := fun h => e2 (t2.1 h)
            clear t2
            have KE2 : Kept (nameF s = !g) := ⟨by rw [KE.out, decide_eq_false e1, decide_eq_false e2]; simp⟩
            clear e1 e2 KE
            go_enter Tryd.func72, Tryd.ntmps72
            go_wp2_with fail
            refine Calls.mono KC.out (fun e w1 hp => ?_)
            obtain ⟨rfl, hb⟩ := hp
            have KB := Kept.mk hb
            have KG1 := Kept.mk (KG.out w1)
            clear hb
            go_wp2_with fail
            refine Calls.mono KG1.out (fun e w2 hp => ?_)
            obtain ⟨rfl, hb⟩ := hp
            have KB2 := Kept.mk (KB.out.trans (hb.mono KB.out.size))
            clear hb
            go_wp2
            go_ret
            exact ⟨by rw [KE2.out]; simp [u1, u2], KB2.out⟩
      · have KE2 : Kept (nameF s = false) := ⟨by rw [KE.out]; simp⟩
        clear KE t1 t2
        go_enter Tryd.func72, Tryd.ntmps72
        go_wp2_with fail
        refine Calls.mono KC.out (fun e w1 hp => ?_)
        obtain ⟨rfl, hb⟩ := hp
        have KB := Kept.mk hb
        clear hb
        go_wp2
        go_ret
        exact ⟨by rw [KE2.out]; rfl, KB.out⟩
    · have h2i : (100 : Int) < (s.size : Int) := by omega
      have KE2 : Kept (nameF s = false) := ⟨by unfold nameF; rw [decide_eq_false h2]; simp⟩
      go_enter Tryd.func72, Tryd.ntmps72
      go_wp2
      go_ret
      exact ⟨by rw [KE2.out]; rfl, Below.refl _ _⟩
  · have h1i : (s.size : Int) < 1 := by omega
    have KE2 : Kept (nameF s = false) := ⟨by unfold nameF; rw [decide_eq_false h1]; simp⟩
    go_enter Tryd.func72, Tryd.ntmps72
    go_wp2
    go_ret
    exact ⟨by rw [KE2.out]; rfl, Below.refl _ _⟩

/-- The parts of a path. -/
def partsB (s : ByteArray) : List ByteArray := Lib.splitB ⟨#[47]⟩ 0 (Lib.countB s ⟨#[47]⟩) s
def pathF (s : ByteArray) : Bool := decide (s.size ≤ 200) && (partsB s).all nameF
theorem partsB_length (s : ByteArray) : (partsB s).length = Lib.countB s ⟨#[47]⟩ + 1 := Lib.splitB_all ⟨#[47]⟩ (by decide) 0 _ s rfl
theorem partsB_le (s : ByteArray) : (partsB s).length ≤ s.size + 1 := by
  rw [partsB_length]
  have := Lib.countB_le ⟨#[47]⟩ (by decide) s.size s (Nat.le_refl _)
  omega

set_option maxHeartbeats 1000000 in
set_option maxRecDepth 100000 in
theorem path_any (s : ByteArray) (w : World) (hg : Gl w) : Calls Tryd.prog 53 #[.string s] w fun e w' => e = .returned (.bool (pathF s)) ∧ Below w.heap.size w w' := by
  by_cases h2 : s.size ≤ 200
  · have h2i : ¬ (200 : Int) < (s.size : Int) := by omega
    obtain ⟨m, hm⟩ := hg.mx
    have KS := Tryd.strings_Split s ⟨#[47]⟩ m w (by omega) hm (by decide)
    have hl := partsB_length s
    have hle := partsB_le s
    have KE : Kept (pathF s = (partsB s).all nameF) := ⟨by unfold pathF; rw [decide_eq_true h2]; simp⟩
    have KS : Kept (Calls Tryd.prog 71 #[.string s, .string ⟨#[47]⟩] w fun e w' => e = .returned (.slice (some ⟨w.heap.size, 0, none⟩) (partsB s).length (partsB s).length) ∧ w' = w.alloc (.cells ((partsB s).map Value.string).toArray 9)) := ⟨by rw [hl]; exact KS⟩
    generalize partsB s = L at *
    clear hl hg
    have KH := Kept.mk (heap_alloc_new w (.cells (L.map Value.string).toArray 9))
    have KB0 := Kept.mk ((Below.refl w.heap.size w).alloc (Nat.le_refl _) (.cells (L.map Value.string).toArray 9))
    have KN := Kept.mk name_any
    go_enter Tryd.func53, Tryd.ntmps53
    go_wp2_with fail
    refine Calls.mono KS.out (fun e w1 hp => ?_)
    obtain ⟨rfl, rfl⟩ := hp
    obtain ⟨w1, hw1⟩ : ∃ w1, w.alloc (.cells (L.map Value.string).toArray 9) = w1 := ⟨_, rfl⟩
    rw [hw1] at KH KB0 ⊢
    clear hw1
    have hLl : (L.length : Int) ≤ 201 := by omega
    go_wp2
    go_loopw [4, 11] (fun _ kv wr => ∃ k : Nat, k ≤ L.length ∧ kv = .int .i64 k ∧ wr.heap[w.heap.size]? = some (.cells (L.map Value.string).toArray 9) ∧ Below w.heap.size w wr ∧ (L.take k).all nameF = true) (fun _ kv _ => L.length - (intOf kv).toNat)
    case atStart => exact ⟨0, Nat.zero_le _, rfl, KH.out, KB0.out, rfl⟩
    case round =>
      obtain ⟨k, hk, rfl, hh, hbel, hall⟩ := hrel
      have KHr := Kept.mk hh
      have KBr := Kept.mk hbel
      have KA := Kept.mk hall
      have hsz : w.heap.size < wr.heap.size := (Array.getElem?_eq_some_iff.1 hh).1
      clear hbel hall
      by_cases hlt : k < L.length
      · have hki : (k : Int) < (L.length : Int) := by omega
        have hc : wr.cell? ⟨w.heap.size, k, none⟩ = some (.string (L[k]'hlt)) := by
          unfold World.cell?
          simp only [hh]
          simp [hlt]
        obtain ⟨P, hP⟩ : ∃ P, L[k]'hlt = P := ⟨_, rfl⟩
        rw [hP] at hc
        have KP := Kept.mk hP
        have KN1 := Kept.mk (KN.out P wr)
        clear hh hP
        by_cases hq : nameF P = true
        · rw [hq] at KN1
          have KQ := Kept.mk hq
          clear hq
          go_wp2_with fail
          refine Calls.mono KN1.out (fun e w3 hp => ?_)
          obtain ⟨rfl, hb3⟩ := hp
          have KB3 := Kept.mk hb3
          clear hb3
          go_wp2
          go_roundw
          case rel => exact ⟨k + 1, by omega, rfl, by rw [KB3.out.block _ hsz]; exact KHr.out, KBr.out.trans (KB3.out.mono KBr.out.size), by
            rw [List.take_add_one, List.all_append, KA.out, List.getElem?_eq_getElem hlt, KP.out]
            simp [KQ.out]⟩
          case measure => simp [intOf]; omega
        · have hqf : nameF P = false := by simpa using hq
          rw [hqf] at KN1
          have KF : Kept (L.all nameF = false) := ⟨by
            rw [List.all_eq_false]
            exact ⟨P, by rw [← KP.out]; exact List.getElem_mem hlt, by simp [hqf]⟩⟩
          clear hq hqf
          go_wp2_with fail
          refine Calls.mono KN1.out (fun e w3 hp => ?_)
          obtain ⟨rfl, hb3⟩ := hp
          have KB3 := Kept.mk hb3
          clear hb3
          go_wp2
          go_ret
          exact ⟨by rw [KE.out, KF.out]; rfl, KBr.out.trans (KB3.out.mono KBr.out.size)⟩
      · have hki : ¬ (k : Int) < (L.length : Int) := by omega
        have KT : Kept (L.all nameF = true) := ⟨by
          have := KA.out
          rwa [List.take_of_length_le (by omega)] at this⟩
        clear hh
        go_wp2
        go_ret
        exact ⟨by rw [KE.out, KT.out]; rfl, KBr.out⟩
  · have h2i : (200 : Int) < (s.size : Int) := by omega
    have KE2 : Kept (pathF s = false) := ⟨by unfold pathF; rw [decide_eq_false h2]; simp⟩
    go_enter Tryd.func53, Tryd.ntmps53
    go_wp2
    go_ret
    exact ⟨by rw [KE2.out]; rfl, Below.refl _ _⟩


set_option maxHeartbeats 400000 in
set_option maxRecDepth 100000 in
theorem rlower_any (n : Nat) (w : World) (hn : n < 256) : Calls Tryd.prog 105 #[.int .u8 n] w fun e w' => e = .returned (.int .u8 (lowN n)) ∧ w' = w := by
  unfold lowN
  by_cases h1 : 65 ≤ n
  · have h1i : (65 : Int) ≤ (n : Int) := by omega
    by_cases h2 : n ≤ 90
    · have h2i : (n : Int) ≤ 90 := by omega
      go_enter Tryd.func105, Tryd.ntmps105
      go_wp2
      go_ret
      have e : (n : Int) - 65 + 97 = (n : Int) + 32 := by omega
      rw [← e]
      exact ⟨rfl, rfl⟩
    · have h2i : ¬ (n : Int) ≤ 90 := by omega
      go_enter Tryd.func105, Tryd.ntmps105
      go_wp2
      go_ret
      exact ⟨rfl, rfl⟩
  · have h1i : ¬ (65 : Int) ≤ (n : Int) := by omega
    go_enter Tryd.func105, Tryd.ntmps105
    go_wp2
    go_ret
    exact ⟨rfl, rfl⟩

/-- Is it .git, in whatever letters? -/

def modF (m : Int) : Bool := decide (m = 16384) || decide (m = 33188) || decide (m = 33261) || decide (m = 40960)
set_option maxHeartbeats 1000000 in
set_option maxRecDepth 100000 in
theorem rmode_any (m : Int) (w : World) : Calls Tryd.prog 48 #[.int .i64 m] w fun e w' => e = .returned (.bool (modF m)) ∧ Below w.heap.size w w' := by
  by_cases h1 : m = 16384
  · subst h1
    go_enter Tryd.func48, Tryd.ntmps48
    go_wp2
    go_ret
    exact ⟨rfl, Below.refl _ _⟩
  · have b1 : (m == 16384) = false := by simpa using h1
    by_cases h2 : m = 33188
    · subst h2
      go_enter Tryd.func48, Tryd.ntmps48
      go_wp2
      go_ret
      exact ⟨rfl, Below.refl _ _⟩
    · have b2 : (m == 33188) = false := by simpa using h2
      by_cases h3 : m = 33261
      · subst h3
        go_enter Tryd.func48, Tryd.ntmps48
        go_wp2
        go_ret
        exact ⟨rfl, Below.refl _ _⟩
      · have b3 : (m == 33261) = false := by simpa using h3
        by_cases h4 : m = 40960
        · subst h4
          go_enter Tryd.func48, Tryd.ntmps48
          go_wp2
          go_ret
          exact ⟨rfl, Below.refl _ _⟩
        · have b4 : (m == 40960) = false := by simpa using h4
          have KE : Kept (modF m = false) := ⟨by unfold modF; rw [decide_eq_false h1, decide_eq_false h2, decide_eq_false h3, decide_eq_false h4]; rfl⟩
          go_enter Tryd.func48, Tryd.ntmps48
          go_wp2
          go_ret
          exact ⟨by rw [KE.out]; rfl, Below.refl _ _⟩
set_option maxHeartbeats 1000000 in
set_option maxRecDepth 100000 in
theorem mode_any (m : Int) (w : World) : Calls Tryd.prog 54 #[.int .i64 m] w fun e w' => e = .returned (.bool (modF m)) ∧ Below w.heap.size w w' := by
  by_cases h1 : m = 16384
  · subst h1
    go_enter Tryd.func54, Tryd.ntmps54
    go_wp2
    go_ret
    exact ⟨rfl, Below.refl _ _⟩
  · have b1 : (m == 16384) = false := by simpa using h1
    by_cases h2 : m = 33188
    · subst h2
      go_enter Tryd.func54, Tryd.ntmps54
      go_wp2
      go_ret
      exact ⟨rfl, Below.refl _ _⟩
    · have b2 : (m == 33188) = false := by simpa using h2
      by_cases h3 : m = 33261
      · subst h3
        go_enter Tryd.func54, Tryd.ntmps54
        go_wp2
        go_ret
        exact ⟨rfl, Below.refl _ _⟩
      · have b3 : (m == 33261) = false := by simpa using h3
        by_cases h4 : m = 40960
        · subst h4
          go_enter Tryd.func54, Tryd.ntmps54
          go_wp2
          go_ret
          exact ⟨rfl, Below.refl _ _⟩
        · have b4 : (m == 40960) = false := by simpa using h4
          have KE : Kept (modF m = false) := ⟨by unfold modF; rw [decide_eq_false h1, decide_eq_false h2, decide_eq_false h3, decide_eq_false h4]; rfl⟩
          go_enter Tryd.func54, Tryd.ntmps54
          go_wp2
          go_ret
          exact ⟨by rw [KE.out]; rfl, Below.refl _ _⟩
end Go.Proofs.YthkaohkondkhgaaDoor
