/-
  The document's reader: DocInflate.
-/
import Derived.Test.YtjifhhafllegbaaDoorD18B
namespace Go.Proofs.YtjifhhafllegbaaDoor
open Go.RowKit

theorem docInflate_any {S : Nat → Prop} (v : Value) (p : List Int) (most : Nat) (w : World) (hv : Rd .u8 S w v p) (hp : AllB p) (hl : p.length ≤ 70368744177664) (hm : most ≤ 1048576) :
    Calls Tryd.prog 12 #[v, .int .i64 most] w fun e w' => AfterI w w' (inflF p most) e := by
  obtain ⟨va, vc, rfl, -, -, -⟩ := hv.form
  have hB : Bts w (w.alloc (.cells #[.slice va p.length vc, .int .i64 0, .slice none 0 0, .int .i64 most, .int .i64 0] 45)) w.heap.size none (.slice va p.length vc) p most [] 0 0 := by
    refine ⟨⟨.slice none 0 0, heap_alloc_new w _, Own.nil _ _ _ _, rfl⟩, by omega, (Below.refl _ w).alloc (Nat.le_refl _) _, Nat.le_refl _, by simp, hv.any, hp, AllIn.nil, hl, hm, by simp⟩
  exact (diA va vc p most w (inflF p most)).2.2.2.2.2 hl hm hB (Or.inl ⟨rfl, by rw [goF_zero]; rfl⟩) (diW0 va vc p most w _) (diW1 va vc p most w _) (diW2 va vc p most w _) (diW3 va vc p most w _) (diE va vc p most w _)
end Go.Proofs.YtjifhhafllegbaaDoor
