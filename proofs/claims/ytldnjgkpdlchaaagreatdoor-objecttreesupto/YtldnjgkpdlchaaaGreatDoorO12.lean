/-
  The document's Least, Header, DocHeader.
-/
import Derived.Test.YtldnjgkpdlchaaaGreatDoorO9
import Derived.Test.YtldnjgkpdlchaaaGreatDoorQ2
import Derived.Test.YtldnjgkpdlchaaaGreatDoorShR
namespace Go.Proofs.YtldnjgkpdlchaaaGreatDoor
open Go.RowKit

/-- The least of errors that is one. -/
def lsF (l e : Int) : Int := if e ≠ 0 ∧ (l = 0 ∨ e < l) then e else l
set_option maxHeartbeats 1000000 in
set_option maxRecDepth 100000 in
theorem least_two (a b : Int) (g : Nat) (w : World) (hr : w.heap[g]? = some (.cells #[.int .i64 a, .int .i64 b] 25)) :
    Calls Tryz.prog 38 #[.slice (some ⟨g, 0, none⟩) 2 2] w fun e w' => e = .returned (.int .i64 (lsF (lsF 0 a) b)) ∧ w' = w := by
  have c0 : w.cell? ⟨g, 0, none⟩ = some (.int .i64 a) := by rw [cell_of_row w g 0 _ _ (0, 0) hr]; rfl
  have c1 : w.cell? ⟨g, 1, none⟩ = some (.int .i64 b) := by rw [cell_of_row w g 1 _ _ (0, 0) hr]; rfl
  clear hr
  have S : ∀ l e : Int, lsF l e = if e = 0 then l else if l = 0 then e else if e < l then e else l := by
    intro l e
    unfold lsF
    by_cases h1 : e = 0
    · rw [if_neg (by omega), if_pos h1]
    · rw [if_neg h1]
      by_cases h2 : l = 0
      · rw [if_pos (by omega), if_pos h2]
      · rw [if_neg h2]
        by_cases h3 : e < l
        · rw [if_pos (by omega), if_pos h3]
        · rw [if_neg (by omega), if_neg h3]
  have KS := Kept.mk S
  clear S
  go_enter Tryz.func38, Tryz.ntmps38
  go_wp2
  go_loopw [3, 5, 8] (fun lv _ kv wr => wr = w ∧ ((kv = .int .i64 0 ∧ lv = .int .i64 0) ∨ (kv = .int .i64 1 ∧ lv = .int .i64 (lsF 0 a)) ∨ (kv = .int .i64 2 ∧ lv = .int .i64 (lsF (lsF 0 a) b)))) (fun _ _ kv _ => 2 - (intOf kv).toNat)
  case atStart => exact ⟨rfl, Or.inl ⟨rfl, rfl⟩⟩
  case round =>
    obtain ⟨rfl, ⟨rfl, rfl⟩ | ⟨rfl, rfl⟩ | ⟨rfl, rfl⟩⟩ := hrel
    · by_cases ha : a = 0
      · have KE : Kept (lsF 0 a = 0) := ⟨by rw [KS.out, if_pos ha]⟩
        subst ha
        clear c1
        go_wp2
        go_roundw
        case rel => exact ⟨trivial, Or.inr (Or.inl ⟨rfl, by rw [KE.out]⟩)⟩
        case measure => simp [intOf]
      · have KE : Kept (lsF 0 a = a) := ⟨by rw [KS.out, if_neg ha, if_pos rfl]⟩
        have hb : (a != 0) = true := by simpa using ha
        clear c1 ha
        go_wp2
        go_roundw
        case rel => exact ⟨trivial, Or.inr (Or.inl ⟨rfl, by rw [KE.out]⟩)⟩
        case measure => simp [intOf]
    · generalize lsF 0 a = l at *
      by_cases ha : b = 0
      · have KE : Kept (lsF l b = l) := ⟨by rw [KS.out, if_pos ha]⟩
        subst ha
        clear c0
        go_wp2
        go_roundw
        case rel => exact ⟨trivial, Or.inr (Or.inr ⟨rfl, by rw [KE.out]⟩)⟩
        case measure => simp [intOf]
      · have hb : (b != 0) = true := by simpa using ha
        by_cases h2 : l = 0
        · have KE : Kept (lsF l b = b) := ⟨by rw [KS.out, if_neg ha, if_pos h2]⟩
          subst h2
          clear c0 ha
          go_wp2
          go_roundw
          case rel => exact ⟨trivial, Or.inr (Or.inr ⟨rfl, by rw [KE.out]⟩)⟩
          case measure => simp [intOf]
        · have hl : (l == 0) = false := by simpa using h2
          by_cases h3 : b < l
          · have KE : Kept (lsF l b = b) := ⟨by rw [KS.out, if_neg ha, if_neg h2, if_pos h3]⟩
            clear c0 ha h2
            go_wp2
            go_roundw
            case rel => exact ⟨trivial, Or.inr (Or.inr ⟨rfl, by rw [KE.out]⟩)⟩
            case measure => simp [intOf]
          · have KE : Kept (lsF l b = l) := ⟨by rw [KS.out, if_neg ha, if_neg h2, if_neg h3]⟩
            clear c0 ha h2
            go_wp2
            go_roundw
            case rel => exact ⟨trivial, Or.inr (Or.inr ⟨rfl, by rw [KE.out]⟩)⟩
            case measure => simp [intOf]
    · clear c0 c1
      go_wp2
      go_ret
      exact ⟨rfl, rfl⟩
/-- An object in a block of the call's own. -/
theorem box_ob (w : World) (k : Int) (v : Value) : ∃ w2, w.alloc (.cells #[.int .i64 k, v] 40) = w2 ∧ Below w.heap.size w w2 ∧ w.heap.size < w2.heap.size ∧ ∀ w', Below w2.heap.size w2 w' → w'.cell? ⟨w.heap.size, 0, none⟩ = some (.int .i64 k) ∧ w'.cell? ⟨w.heap.size, 1, none⟩ = some v := by
  have hlt : w.heap.size < (w.alloc (.cells #[.int .i64 k, v] 40)).heap.size := by simp
  refine ⟨_, rfl, (Below.refl _ _).alloc (Nat.le_refl _) _, hlt, fun w' hw => ⟨?_, ?_⟩⟩
  · rw [hw.cell (p := ⟨w.heap.size, 0, none⟩) hlt]
    exact alloc_cell _ _ _ _ _ rfl
  · rw [hw.cell (p := ⟨w.heap.size, 1, none⟩) hlt]
    exact alloc_cell _ _ _ _ _ rfl
end Go.Proofs.YtldnjgkpdlchaaaGreatDoor
