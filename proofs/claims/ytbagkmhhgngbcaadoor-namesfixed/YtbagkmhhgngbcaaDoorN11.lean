/-
  What the rows' condition gives the walks: 'Gl'; the witness's world.
-/
import Derived.Test.YtbagkmhhgngbcaaDoorN10
import Derived.Test.YtbagkmhhgngbcaaDoorRows
import Derived.Test.YtbagkmhhgngbcaaDoorTie
import Derived.Lay
import Derived.Lib.LaidU8
import Derived.Shelf.Vars
import Derived.MakeChecks
import Derived.Deep.DeepHandedRow
import Derived.Deep.DeepWitnessRowRef
namespace Go.Proofs.YtbagkmhhgngbcaaDoor
open Go.RowKit

theorem iface_cell {P : Program} {w : World} {fuel : Nat} {t : TypeId} {ms : Array (String × TypeId)} {cs : List Value} {name : String} {d : DataW Unit} {p : List MemPlace} (ht : P.underlying t = some (.interface ms))
    (h : DataW.trod (fun _ => ()) P w 0 (fun _ => true) false fuel t cs = some (.iface name d, p)) : ∃ u v, cs = [.iface u v] := by
  cases fuel with
  | zero => simp [DataW.trod] at h
  | succ n =>
    unfold DataW.trod at h
    rw [ht] at h
    split at h <;> simp_all
theorem gl_iface {W : World} {n : String} {g : Nat} {t : TypeId} {ms : Array (String × TypeId)} {name : String} {d : DataW Unit} (hg : Tryd.prog.globalNamed n = some g) (ht : (Tryd.prog.globals[g]?).map (·.type) = some t) (hu : Tryd.prog.underlying t = some (.interface ms))
    (h : Lib.VarReads Tryd.prog W n (.iface name d)) : ∃ te pe, W.cell? ⟨g, 0, none⟩ = some (.iface te pe) := by
  obtain ⟨g', t', cs, fuel, p, hg', ht', hv, hd⟩ := h
  obtain rfl := Option.some.inj (hg.symm.trans hg')
  obtain rfl := Option.some.inj (ht.symm.trans ht')
  obtain ⟨u, v, hc⟩ := iface_cell hu hd
  have := World.var?_cell hg hv 0
  rw [Array.eq_one_of_toList hc] at this
  exact ⟨u, v, by simpa using this⟩
theorem gl_of {W : World} (hL : laidMetH Tryd.prog Rows.namesOrderRow.laid W) (hs : W.ShapedOpen Tryd.prog) : Gl W := by
  rw [MakeChecks.laidMetH_plain _ _ _ (by kernel_rfl)] at hL
  have r1 := Lib.laidMet.reads hL (n := "internal/strconv.uint64pow10") (d := Rows.laid_internal_strconv_uint64pow10) (.tail _ (.tail _ (.head _)))
  have r2 := Lib.laidMet.reads hL (n := "strconv.ErrRange") (d := Rows.laid_strconv_ErrRange) (.tail _ (.tail _ (.tail _ (.tail _ (.head _)))))
  have r3 := Lib.laidMet.reads hL (n := "strconv.ErrSyntax") (d := Rows.laid_strconv_ErrSyntax) (.tail _ (.tail _ (.tail _ (.tail _ (.tail _ (.head _))))))
  have g5 := gl_iface (g := 5) (t := 67) (by kernel_rfl) (by kernel_rfl) Tryd.underlying67 r2
  refine ⟨?_, ?_, gl_iface (g := 4) (t := 67) (by kernel_rfl) (by kernel_rfl) Tryd.underlying67 r3, g5, ?_⟩
  · exact cell_of_shapedOpen_int (P := Tryd.prog) (g := 0) (t := 3) (zero := #[.int .i64 0]) hs (of_decide_eq_true (by kernel_rfl)) (by kernel_rfl) rfl (by kernel_rfl) (by kernel_rfl) Tryd.underlying3
  · obtain ⟨g', t', cs, fuel, p, hg', ht', hv, hd⟩ := r1
    obtain rfl := Option.some.inj (gl_pow.symm.trans hg')
    obtain rfl := Option.some.inj ((show (Tryd.prog.globals[1]?).map (·.type) = some 89 by kernel_rfl).symm.trans ht')
    unfold Lib.TabIs
    rw [hv, ← Lib.cells_of_tab Tryd.underlying89 Tryd.underlying78 (by kernel_rfl) (by kernel_rfl) (show DataW.trod _ _ _ _ _ _ _ _ _ = some (Lib.tabData .u64 Lib.pow10Tab, _) from hd)]
  · obtain ⟨te, pe, hc⟩ := g5
    have h6 : 5 < W.heap.size := by
      rcases Nat.lt_or_ge 5 W.heap.size with h | h
      · exact h
      · exfalso
        unfold World.cell? at hc
        rw [show W.heap[(⟨5, 0, none⟩ : Addr).block]? = none from Array.getElem?_eq_none h] at hc
        simp at hc
    omega

/-- A world for the witness: the settled one, the listed variables laid. -/
noncomputable def laidWorld (os : Os) : World := World.laidAll Tryd.prog os Rows.namesOrderRow.laid
theorem laid_met (os : Os) (args : Array Value) : laidMetH Tryd.prog Rows.namesOrderRow.laid ((laidWorld os).forCall (fun _ _ => 0) ⟨#[], args, []⟩).memory := by
  rw [MakeChecks.laidMetH_plain _ _ _ (by kernel_rfl)]
  exact laidMet_laidAll _ (by kernel_rfl) (by kernel_rfl)
end Go.Proofs.YtbagkmhhgngbcaaDoor
