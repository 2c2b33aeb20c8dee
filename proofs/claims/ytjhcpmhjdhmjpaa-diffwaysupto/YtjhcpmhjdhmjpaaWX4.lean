/-
  Walks: Text of two empty lists; Text of any lists.
-/
import Derived.Test.YtjhcpmhjdhmjpaaWX3
namespace Go.Proofs.Ytjhcpmhjdhmjpaa
open Go.RowKit Go.Shelf

set_option maxHeartbeats 1000000 in
set_option maxRecDepth 100000 in
theorem text_nil (v u : Value) (w : World) (hv : RdS w v []) (hu : RdS w u []) :
    Calls Try.prog 19 #[v, u] w fun e w' => Below w.heap.size w w' ∧ e = .returned (.tuple #[.string ⟨#[]⟩, .int .i64 0]) := by
  have K1 := Kept.mk (way_any v u [] [] w hv hu (fun s h => by cases h) (fun s h => by cases h))
  obtain ⟨pa, pc, rfl⟩ := hv.form
  obtain ⟨qa, qc, rfl⟩ := hu.form
  clear hv hu
  go_enter Try.func19, Try.ntmps19
  go_wp2_with fail
  refine Calls.mono K1.out (fun e w2 hp => ?_)
  obtain ⟨hB, hor⟩ := hp
  have KB := Kept.mk hB
  clear hB K1
  rcases hor with ⟨hL, rfl⟩ | ⟨hL, v2, rfl, ho⟩
  · exact absurd hL (by decide)
  · clear hL
    rw [wayP_end] at ho
    obtain ⟨g, cap, rfl, hgb, -⟩ := ho.open (by simp)
    have hcl : 1 ≤ cap := by
      rcases ho.2 with ⟨h1, -⟩ | ⟨g', cap', cur, h1, -, -, h2, -⟩
      · cases h1
      · injection h1 with _ _ h3; simp at h2; omega
    have e1 : [((0 : Nat), (0 : Nat))].length = 1 := rfl
    rw [e1]
    have KBa := Kept.mk ((Below.refl w2.heap.size w2).alloc (Nat.le_refl _) (.cells #[.pointer none, .slice none 0 0] 70))
    have KI0 : Kept (Lib.IsBuilder 70 5 w2.heap.size w2.heap.size (Lib.byteCells []) (w2.alloc (.cells #[.pointer none, .slice none 0 0] 70))) := ⟨.inl ⟨Nat.le_refl _, .slice none 0 0, heap_alloc_new w2 _, World.ownsRow_nil _ _ _ 1, by simp [Value.ownBlock]⟩⟩
    clear ho hgb e1
    have KE : Kept (∀ wr, wr = w2.alloc (.cells #[.pointer none, .slice none 0 0] 70) → Calls Try.prog 37 #[.pointer (some ⟨w2.heap.size, 0, none⟩)] wr fun e w' => e = .returned (.string ⟨#[]⟩) ∧ Below w.heap.size w w') := ⟨fun wr hwr => by
      have h := Try.Builder_String_any w2.heap.size w2.heap.size [] wr (by rw [hwr]; exact KI0.out) (by rw [hwr]; exact KBa.out.size)
      refine h.mono (fun e w' hp => ⟨hp.1, KB.out.trans (((by rw [hwr] at hp; exact KBa.out.trans hp.2 : Below w2.heap.size w2 w')).mono KB.out.size)⟩)⟩
    by_cases hcap : cap = 1
    · subst hcap
      go_upto_region 6 with fail
      go_loopw [26] (fun iv wr => iv = .int .i64 0 ∧ wr = w2.alloc (.cells #[.pointer none, .slice none 0 0] 70)) (fun _ _ => 0)
      case atStart => exact ⟨rfl, rfl⟩
      case round =>
        obtain ⟨rfl, hwr⟩ := hrel
        have KS := Kept.mk (KE.out wr hwr)
        clear hwr
        go_wp2_with fail
        refine Calls.mono KS.out (fun e w3 hp => ?_)
        obtain ⟨rfl, hb3⟩ := hp
        have KB3 := Kept.mk hb3
        clear hb3 KS
        go_wp2
        go_ret2
        exact ⟨KB3.out, rfl⟩
    · have hcap2 : ¬ (cap - 1 = 0) := by omega
      go_upto_region 6 with fail
      go_loopw [26] (fun iv wr => iv = .int .i64 0 ∧ wr = w2.alloc (.cells #[.pointer none, .slice none 0 0] 70)) (fun _ _ => 0)
      case atStart => exact ⟨rfl, rfl⟩
      case round =>
        obtain ⟨rfl, hwr⟩ := hrel
        have KS := Kept.mk (KE.out wr hwr)
        clear hwr
        go_wp2_with fail
        refine Calls.mono KS.out (fun e w3 hp => ?_)
        obtain ⟨rfl, hb3⟩ := hp
        have KB3 := Kept.mk hb3
        clear hb3 KS
        go_wp2
        go_ret2
        exact ⟨KB3.out, rfl⟩
theorem way_two {a b : List ByteArray} (h : a ≠ [] ∨ b ≠ []) : 2 ≤ (wayP a b 0 0).length := by
  rw [wayP_step a b 0 0 h]
  obtain ⟨r, hr⟩ := wayP_head (a.drop (stp a b).1) (b.drop (stp a b).2) (0 + (stp a b).1) (0 + (stp a b).2)
  rw [hr]
  simp
theorem textAll_any (v u : Value) (a b : List ByteArray) (w : World) (hv : RdS w v a) (hu : RdS w u b) (ha : ∀ s ∈ a, s.size ≤ maxLen) (hb : ∀ s ∈ b, s.size ≤ maxLen) (hal : a.length ≤ 1000) (hbl : b.length ≤ 1000) (hT : (txP a b (wayP a b 0 0)).length ≤ 140737488355328) :
    Calls Try.prog 19 #[v, u] w fun e w' => Below w.heap.size w w' ∧ e = .returned (.tuple #[.string (mkB (txP a b (wayP a b 0 0))), .int .i64 0]) := by
  by_cases h : a = [] ∧ b = []
  · obtain ⟨rfl, rfl⟩ := h
    have e : txP ([] : List ByteArray) [] (wayP ([] : List ByteArray) [] 0 0) = [] := by rw [wayP_end, txP_flat, tlW_one]; rfl
    rw [e]
    exact text_nil v u w hv hu
  · refine text_any v u a b w hv hu ha hb hal hbl (way_two ?_) hT
    rcases Classical.em (a = []) with e | e
    · exact .inr (fun e2 => h ⟨e, e2⟩)
    · exact .inl e
end Go.Proofs.Ytjhcpmhjdhmjpaa
