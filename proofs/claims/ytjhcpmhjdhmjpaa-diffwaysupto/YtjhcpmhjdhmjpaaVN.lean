/-
  Walks: awake11, TwinLines.
-/
import Derived.Test.YtjhcpmhjdhmjpaaVM
import Derived.Test.YtjhcpmhjdhmjpaaVNT
namespace Go.Proofs.Ytjhcpmhjdhmjpaa
open Go.RowKit Go.Shelf

def mX : ByteArray := ⟨#[120, 10]⟩
def mY : ByteArray := ⟨#[121, 10]⟩
def mZ : ByteArray := ⟨#[122, 10]⟩
theorem m_xy : mX ≠ mY := by unfold mX mY; intro h; injection h with h; exact absurd h (by decide)
theorem m_xz : mX ≠ mZ := by unfold mX mZ; intro h; injection h with h; exact absurd h (by decide)
theorem m_yz : mY ≠ mZ := by unfold mY mZ; intro h; injection h with h; exact absurd h (by decide)
theorem way_m : wayP [mX, mY] [mY, mZ] 0 0 = [(0, 0), (1, 0), (2, 1), (2, 2)] := by
  simp [wayP, rst_cons, rst_nil, rst_nil2, m_xy, m_xz, m_yz]
theorem tx_m : txP [mX, mY] [mY, mZ] [(0, 0), (1, 0), (2, 1), (2, 2)] = [45, 120, 10, 32, 121, 10, 43, 122, 10] := by kernel_rfl
theorem m_small {L : List ByteArray} (h : ∀ s ∈ L, s = mX ∨ s = mY ∨ s = mZ) : ∀ s ∈ L, s.size ≤ maxLen := by
  intro s hs
  rcases h s hs with rfl | rfl | rfl <;> decide
set_option maxHeartbeats 1000000 in
set_option maxRecDepth 100000 in
theorem awake11_any (w : World) : Calls Try.prog 27 #[] w fun e w' => e = .returned (.bool true) ∧ Below w.heap.size w w' := by
  have hXY : ∀ s ∈ [mX, mY], s.size ≤ maxLen := m_small (by simp)
  have hYZ : ∀ s ∈ [mY, mZ], s.size ≤ maxLen := m_small (by simp)
  obtain ⟨w1, hw1, hB1, hX1, hY1⟩ : ∃ W2, (w.alloc (.cells #[.string mX, .string mY] 9)).alloc (.cells #[.string mY, .string mZ] 9) = W2 ∧ Below w.heap.size w W2 ∧ RdS W2 (.slice (some ⟨w.heap.size, 0, none⟩) 2 2) [mX, mY] ∧ RdS W2 (.slice (some ⟨w.heap.size + 1, 0, none⟩) 2 2) [mY, mZ] := by
    have hs : (w.alloc (.cells #[.string mX, .string mY] 9)).heap.size = w.heap.size + 1 := by simp
    refine ⟨_, rfl, ((Below.refl _ _).alloc (Nat.le_refl _) _).alloc (by simp) _, (rdS_new w [mX, mY]).later ((Below.refl _ _).alloc (Nat.le_refl _) _) (Nat.le_refl _), ?_⟩
    have := rdS_new (w.alloc (.cells #[.string mX, .string mY] 9)) [mY, mZ]
    rw [hs] at this
    exact this
  have K1 : Kept (Calls Try.prog 19 #[.slice (some ⟨w.heap.size, 0, none⟩) 2 2, .slice (some ⟨w.heap.size + 1, 0, none⟩) 2 2] w1 fun e w' => Below w1.heap.size w1 w' ∧ e = .returned (.tuple #[.string ⟨#[45, 120, 10, 32, 121, 10, 43, 122, 10]⟩, .int .i64 0])) := ⟨by
    have h := text_any _ _ _ _ w1 hX1 hY1 hXY hYZ (by simp) (by simp) (by rw [way_m]; simp) (by rw [way_m, tx_m]; simp)
    rw [way_m, tx_m] at h
    exact h⟩
  have KB1 := Kept.mk hB1
  have KW1 := Kept.mk hw1
  clear hB1 hX1 hY1 hXY hYZ hw1
  go_enter Try.func27, Try.ntmps27
  go_wp2_with fail
  have hw1 := KW1.out
  unfold mX mY mZ at hw1
  rw [hw1]
  clear hw1 KW1
  refine Calls.mono K1.out (fun e w2 hp => ?_)
  obtain ⟨hb, rfl⟩ := hp
  have KB2 := Kept.mk (KB1.out.trans (hb.mono KB1.out.size))
  clear hb K1
  go_wp2
  go_ret
  exact ⟨rfl, KB2.out⟩
end Go.Proofs.Ytjhcpmhjdhmjpaa
