/-
  Walks: awake11, TwinLines.
-/
import Derived.Test.YtdeohooenlojaabVM
namespace Go.Proofs.Ytdeohooenlojaab
open Go.RowKit Go.Shelf

def mX : ByteArray := ⟨#[120, 10]⟩
def mY : ByteArray := ⟨#[121, 10]⟩
def mZ : ByteArray := ⟨#[122, 10]⟩
theorem m_xy : mX ≠ mY := by unfold mX mY; intro h; injection h with h; exact absurd h (by decide)
theorem m_xz : mX ≠ mZ := by unfold mX mZ; intro h; injection h with h; exact absurd h (by decide)
theorem m_yz : mY ≠ mZ := by unfold mY mZ; intro h; injection h with h; exact absurd h (by decide)
theorem way_m : wayP [mX, mY] [mY, mZ] 0 0 = [(0, 0), (1, 0), (2, 1), (2, 2)] := by
  simp [wayP, rst_cons, rst_nil, rst_nil2, m_xy, m_xz, m_yz]
theorem tx_m : txP [mX, mY] [mY, mZ] [(0, 0), (1, 0), (2, 1), (2, 2)] = [45, 120, 10, 32, 121, 10, 43, 122, 10] := by kernel_rfl
theorem m_small {L : List ByteArray} (h : ∀ s ∈ L, s = mX ∨ s = mY ∨ s = mZ) : ∀ s ∈ L, s.size ≤ maxLen := by
  intro s hs
  rcases h s hs with rfl | rfl | rfl <;> decide
set_option maxHeartbeats 1000000 in
set_option maxRecDepth 100000 in
theorem awake11_any (w : World) : Calls Try.prog 14 #[] w fun e w' => e = .returned (.bool true) ∧ Below w.heap.size w w' := by
  have hXY : ∀ s ∈ [mX, mY], s.size ≤ maxLen := m_small (by simp)
  have hYZ : ∀ s ∈ [mY, mZ], s.size ≤ maxLen := m_small (by simp)
  obtain ⟨w1, hw1, hB1, hX1, hY1⟩ : ∃ W2, (w.alloc (.cells #[.string mX, .string mY] 9)).alloc (.cells #[.string mY, .string mZ] 9) = W2 ∧ Below w.heap.size w W2 ∧ RdS W2 (.slice (some ⟨w.heap.size, 0, none⟩) 2 2) [mX, mY] ∧ RdS W2 (.slice (some ⟨w.heap.size + 1, 0, none⟩) 2 2) [mY, mZ] := by
    have hs : (w.alloc (.cells #[.string mX, .string mY] 9)).heap.size = w.heap.size + 1 := by simp
    refine ⟨_, rfl, ((Below.refl _ _).alloc (Nat.le_refl _) _).alloc (by simp) _, (rdS_new w [mX, mY]).later ((Below.refl _ _).alloc (Nat.le_refl _) _) (Nat.le_refl _), ?_⟩
    have := rdS_new (w.alloc (.cells #[.string mX, .string mY] 9)) [mY, mZ]
    rw [hs] at this
    exact this
  have K1 : Kept (Calls Try.prog 16 #[.slice (some ⟨w.heap.size, 0, none⟩) 2 2, .slice (some ⟨w.heap.size + 1, 0, none⟩) 2 2] w1 fun e w' => Below w1.heap.size w1 w' ∧ e = .returned (.tuple #[.string ⟨#[45, 120, 10, 32, 121, 10, 43, 122, 10]⟩, .int .i64 0])) := ⟨by
    have h := text_any _ _ _ _ w1 hX1 hY1 hXY hYZ (by simp) (by simp) (by rw [way_m]; simp) (by rw [way_m, tx_m]; simp)
    rw [way_m, tx_m] at h
    exact h⟩
  have KB1 := Kept.mk hB1
  have KW1 := Kept.mk hw1
  clear hB1 hX1 hY1 hXY hYZ hw1
  go_enter Try.func14, Try.ntmps14
  go_wp2_with fail
  have hw1 := KW1.out
  unfold mX mY mZ at hw1
  rw [hw1]
  clear hw1 KW1
  refine Calls.mono K1.out (fun e w2 hp => ?_)
  obtain ⟨hb, rfl⟩ := hp
  have KB2 := Kept.mk (KB1.out.trans (hb.mono KB1.out.size))
  clear hb K1
  go_wp2
  go_ret
  exact ⟨rfl, KB2.out⟩
set_option maxHeartbeats 1000000 in
set_option maxRecDepth 100000 in
theorem twinLines_any (v : Value) (L : List ByteArray) (w : World) (hv : RdS w v L) (hl : L.length ≤ 100000) :
    Calls Try.prog 7 #[v] w fun e w' => ∃ v', e = .returned v' ∧ OwnT w' w.heap.size v' L ∧ Below w.heap.size w w' := by
  obtain ⟨i0, z0, hi, hz, hsz, hbt, hzc⟩ := info_str
  have KV := Kept.mk hv
  obtain ⟨pa, pc, rfl⟩ := hv.form
  clear hv
  rcases Nat.eq_zero_or_pos L.length with h0 | h0
  · obtain rfl : L = [] := List.eq_nil_of_length_eq_zero h0
    have KE : Kept (OwnT w w.heap.size (.slice none 0 0) []) := ⟨World.ownsRow_nil w w.heap.size 9 1⟩
    clear hi hz hsz hbt hzc
    rw [show ([] : List ByteArray).length = 0 from rfl]
    rcases pa with _ | ⟨pb, po, ps⟩
    · go_enter Try.func7, Try.ntmps7
      go_wp2
      go_ret
      exact ⟨_, rfl, KE.out, Below.refl _ _⟩
    · go_enter Try.func7, Try.ntmps7
      go_wp2
      trace_state
      go_ret
      exact ⟨_, rfl, KE.out, Below.refl _ _⟩
  · obtain ⟨p', c', he, -, hr⟩ := KV.out
    rw [List.length_map] at he hr
    obtain ⟨b1, o1, hp1, -, hr1⟩ := hr h0
    have hpa : pa = some ⟨b1, o1, none⟩ := by injection he with h1 h2 h3; rw [h1, hp1]
    subst hpa
    have KO : Kept (w.ownsRow w.heap.size 9 1 (.slice none 0 0) 0 []) := ⟨World.ownsRow_nil w w.heap.size 9 1⟩
    have KC : Kept (∀ j u, (L.map Value.string)[j]? = some u → w.cell? ((⟨b1, o1, none⟩ : Addr).add j) = some u) := ⟨fun j u hu => by rw [add_plain]; exact hr1 j u hu⟩
    have Kl := Kept.mk hl
    clear he hr hp1 hr1 KV
    go_enter Try.func7, Try.ntmps7
    go_wp2_with (at_builtin; refine wpList_append_own_at _ rfl _ _ 22 rfl w.heap.size 9 i0 z0 1 16 Try.underlying22 hi hz hsz hbt hzc (by decide) (.slice none 0 0) 0 [] rfl KO.out ⟨b1, o1, none⟩ L.length pc (L.map Value.string) rfl (by simp) KC.out (by simp [Value.oneCell']) (by have := Kl.out; unfold maxLen; omega) (by have := Kl.out; omega) (Nat.le_refl _) ?_; intro v5 w5 hown5 hgrow5 _ hat5; have KB5 := Kept.mk ((Below.refl w.heap.size w).grown hgrow5 (Nat.le_refl _) (fun k hk => by simp [Value.ownBlock] at hk)); have KO5 := Kept.mk hown5; clear hown5 hgrow5 hat5)
    go_ret
    refine ⟨_, rfl, ?_, KB5.out⟩
    have h := KO5.out
    rw [Nat.zero_add, List.nil_append] at h
    exact h
end Go.Proofs.Ytdeohooenlojaab
