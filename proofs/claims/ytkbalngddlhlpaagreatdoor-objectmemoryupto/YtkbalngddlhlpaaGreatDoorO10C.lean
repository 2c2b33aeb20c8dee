/-
  Idents held against themselves.
-/
import Derived.Test.YtkbalngddlhlpaaGreatDoorL10
import Derived.Test.YtkbalngddlhlpaaGreatDoorO10B
namespace Go.Proofs.YtkbalngddlhlpaaGreatDoor
open Go.RowKit

set_option maxRecDepth 100000 in
theorem fsI : Tryz.prog.underlying 38 = some (.struct (Tryz.prog.fieldsOf 38)) ∧ Tryz.prog.stoodInHeld 38 = false ∧ (Tryz.prog.fieldsOf 38).toList.map (fun f => (f.name == "_", f.type, f.offset)) = [(false, 9, 0), (false, 9, 1), (false, 3, 2), (false, 3, 3)] := ⟨by kernel_rfl, by kernel_rfl, by kernel_rfl⟩
theorem same_str (w : World) (d : Nat) (s : ByteArray) : (Op.equalIn (d + 1) 9 (.string s) (.string s)).run Tryz.prog w = .ok true w := by
  have := run_equalIn_string (P := Tryz.prog) w d 9 s s Tryz.underlying9
  simpa using this
theorem same_int (w : World) (d : Nat) (x : Int) : (Op.equalIn (d + 1) 3 (.int .i64 x) (.int .i64 x)).run Tryz.prog w = .ok true w := by
  have := run_equalIn_int (P := Tryz.prog) w d 3 .i64 .i64 x x Tryz.underlying3
  simpa using this
theorem eq_idt (w : World) (d : Nat) (i : Idt) : (Op.equalIn (d + 2) 38 (.agg (igL i).toArray) (.agg (igL i).toArray)).run Tryz.prog w = .ok true w := by
  obtain ⟨h1, h2, h3⟩ := fsI
  have h := run_equalIn_struct (P := Tryz.prog) w (d + 1) 38 (igL i).toArray (igL i).toArray h1 h2
  rw [h]
  refine oeqF_same _ _ h3 fun q hq => ?_
  simp only [List.mem_cons, List.not_mem_nil, or_false] at hq
  rcases hq with rfl | rfl | rfl | rfl
  · exact ⟨rfl, _, run_part_plain (P := Tryz.prog) (w := w) pk_str (by rw [List.getElem?_toArray]; rfl), same_str w d i.nm⟩
  · exact ⟨rfl, _, run_part_plain (P := Tryz.prog) (w := w) pk_str (by rw [List.getElem?_toArray]; rfl), same_str w d i.em⟩
  · exact ⟨rfl, _, run_part_plain (P := Tryz.prog) (w := w) pk_int (by rw [List.getElem?_toArray]; rfl), same_int w d i.tm⟩
  · exact ⟨rfl, _, run_part_plain (P := Tryz.prog) (w := w) pk_int (by rw [List.getElem?_toArray]; rfl), same_int w d i.zn⟩
end Go.Proofs.YtkbalngddlhlpaaGreatDoor
