/-
  Walks: TwinLines.
-/
import Derived.Test.YtjhcpmhjdhmjpaaVE
import Derived.Test.YtjhcpmhjdhmjpaaVA
namespace Go.Proofs.Ytjhcpmhjdhmjpaa
open Go.RowKit Go.Shelf

set_option maxHeartbeats 1000000 in
set_option maxRecDepth 100000 in
theorem twinLines_any (v : Value) (L : List ByteArray) (w : World) (hv : RdS w v L) (hl : L.length ≤ 100000) :
    Calls Try.prog 25 #[v] w fun e w' => ∃ v', e = .returned v' ∧ OwnT w' w.heap.size v' L ∧ Below w.heap.size w w' := by
  obtain ⟨i0, z0, hi, hz, hsz, hbt, hzc⟩ := info_str
  have KV := Kept.mk hv
  obtain ⟨pa, pc, rfl⟩ := hv.form
  clear hv
  rcases Nat.eq_zero_or_pos L.length with h0 | h0
  · obtain rfl : L = [] := List.eq_nil_of_length_eq_zero h0
    have KE : Kept (OwnT w w.heap.size (.slice none 0 0) []) := ⟨World.ownsRow_nil w w.heap.size 9 1⟩
    clear hi hz hsz hbt hzc
    rw [show ([] : List ByteArray).length = 0 from rfl]
    rcases pa with _ | ⟨pb, po, ps⟩
    · go_enter Try.func25, Try.ntmps25
      go_wp2
      go_ret
      exact ⟨_, rfl, KE.out, Below.refl _ _⟩
    · go_enter Try.func25, Try.ntmps25
      go_wp2
      go_ret
      exact ⟨_, rfl, KE.out, Below.refl _ _⟩
  · obtain ⟨p', c', he, -, hr⟩ := KV.out
    rw [List.length_map] at he hr
    obtain ⟨b1, o1, hp1, -, hr1⟩ := hr h0
    have hpa : pa = some ⟨b1, o1, none⟩ := by injection he with h1 h2 h3; rw [h1, hp1]
    subst hpa
    have KO : Kept (w.ownsRow w.heap.size 9 1 (.slice none 0 0) 0 []) := ⟨World.ownsRow_nil w w.heap.size 9 1⟩
    have KC : Kept (∀ j u, (L.map Value.string)[j]? = some u → w.cell? ((⟨b1, o1, none⟩ : Addr).add j) = some u) := ⟨fun j u hu => by rw [add_plain]; exact hr1 j u hu⟩
    have Kl := Kept.mk hl
    clear he hr hp1 hr1 KV
    go_enter Try.func25, Try.ntmps25
    go_wp2_with (at_builtin; refine wpList_append_own_at _ rfl _ _ 22 rfl w.heap.size 9 i0 z0 1 16 Try.underlying22 hi hz hsz hbt hzc (by decide) (.slice none 0 0) 0 [] rfl KO.out ⟨b1, o1, none⟩ L.length pc (L.map Value.string) rfl (by simp) KC.out (by simp [Value.oneCell']) (by have := Kl.out; unfold maxLen; omega) (by have := Kl.out; omega) (Nat.le_refl _) ?_; intro v5 w5 hown5 hgrow5 _ hat5; have KB5 := Kept.mk ((Below.refl w.heap.size w).grown hgrow5 (Nat.le_refl _) (fun k hk => by simp [Value.ownBlock] at hk)); have KO5 := Kept.mk hown5; clear hown5 hgrow5 hat5)
    go_ret
    refine ⟨_, rfl, ?_, KB5.out⟩
    have h := KO5.out
    rw [Nat.zero_add, List.nil_append] at h
    exact h
end Go.Proofs.Ytjhcpmhjdhmjpaa
