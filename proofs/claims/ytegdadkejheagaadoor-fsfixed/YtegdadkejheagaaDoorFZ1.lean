/-
  What the frames of fs' laws take: bytes that came in; what the package variables hold; the witness's world.
-/
import Derived.Test.YtegdadkejheagaaDoorFF1
import Derived.Deep.Slices
import Derived.WideKeyArr2
import Derived.Test.YtegdadkejheagaaDoorRows
import Derived.Test.YtegdadkejheagaaDoorCards
import Derived.Test.YtegdadkejheagaaDoorTie
import Derived.Lay
import Derived.Lib.LaidTab
import Derived.Lib.LaidU8
import Derived.Shelf.Vars
import Derived.MakeChecks
import Derived.Deep.DeepHandedRow
import Derived.Deep.DeepWitnessRowRef
import Derived.ProofKit
import Derived.OpenShut
import Derived.ShutString
import Derived.ChangeOld
import Derived.Below
import Derived.SizedLaws
namespace Go.Proofs.YtegdadkejheagaaDoor
open Go.ChangeShapes Go.WideShapes Go.ChangeAt Go.RowKit Go.Deep

theorem own : ownKnob Tryd.prog.godebug = none := by kernel_rfl
theorem laidOut : laidOutB Tryd.prog = true := by kernel_rfl
theorem cells_u8 : Tryd.prog.cellsOf 5 = 1 := by kernel_rfl
theorem bytes_u8 : Tryd.prog.bytesOf 5 = 1 := by kernel_rfl

theorem rd_of_row {w : World} {x : Addr} {len cap : Nat} {zs : List Int} (hl : len ≤ cap) (hm : cap ≤ maxLen) (hz : zs.length = cap)
    (hcell : ∀ i, i < zs.length → w.cell? (x.add i) = some (.int .u8 (zs.getD i 0))) (hwz : ∀ n ∈ zs, (Lit.int .u8 n).wf = true) : Rd .u8 anyB w (.slice (some x) len cap) (zs.take len) ∧ AllB (zs.take len) := by
  have hlen : (zs.take len).length = len := by simp; omega
  refine ⟨⟨some x, cap, by rw [hlen], by omega, hm, (fun h => by cases h), fun h0 => ?_⟩, fun z hz => ?_⟩
  · obtain ⟨b, off, spot⟩ := x
    have hc := hcell 0 (by omega)
    have hspot : spot = none := by simpa [Addr.add] using World.cell?_spot hc
    subst hspot
    refine ⟨b, off, rfl, ?_, trivial, fun i hi => ?_⟩
    · have hc0 : w.cell? ⟨b, off, none⟩ = some (.int .u8 (zs.getD 0 0)) := by simpa [Addr.add] using hc
      rcases Nat.lt_or_ge b w.heap.size with h | h
      · exact h
      · simp [World.cell?, Array.getElem?_eq_none h] at hc0
    · have := hcell i (by omega)
      rw [add_plain] at this
      rw [this]
      have hi' : i < len := by omega
      simp [List.getD, hi']
  · have := bounds_u8 (hwz z (List.mem_of_mem_take hz))
    omega

/-- A slice of bytes that came in: what it reads as, its datum, and that it lies within the form's reach. -/
theorem arg_bytes {H : Type} {enc : TypeId × Value → H} {W : World} {held : Bool} {a : Option Addr} {len cap : Nat} {d : DataW H} {p : List MemPlace} {ts : List TypeId} {ds : List (DataW H)} {j : Nat}
    (h : ∃ fuel, DataW.trod enc Tryd.prog W 0 (fun _ => true) held fuel 23 (Value.slice a len cap).cells.toList = some (d, p))
    (hsz : (DataW.weightsEach Tryd.prog ts ds).all (· ≤ reachBytes) = true) (ht : ts[j]? = some 23) (hd : ds[j]? = some d) :
    ∃ xs, Rd .u8 anyB W (.slice a len cap) xs ∧ AllB xs ∧ xs.length + 4096 ≤ 140737488355328 ∧ (d = .nil ∨ ∃ sp, d = .slice (lits .u8 xs) sp) := by
  obtain ⟨fuel, hf⟩ := h
  rcases open_ints Tryd.underlying23 Tryd.underlying5 cells_u8 hf with ⟨hcs, hx⟩ | ⟨x, l, c, zs, hcs, _, hl, hm, hz, hx, hcell, hwz⟩
  · simp [Value.cells] at hcs
    obtain ⟨rfl, rfl, rfl⟩ := hcs
    exact ⟨[], Rd.nil _ _ W, AllIn.nil, by simp, Or.inl (congrArg Prod.fst hx)⟩
  · simp [Value.cells] at hcs
    obtain ⟨rfl, rfl, rfl⟩ := hcs
    have hd' : d = .slice (lits .u8 (zs.take len)) (lits .u8 (zs.drop len)) := congrArg Prod.fst hx
    subst hd'
    have hr := sized_slice hsz (j := j) (t := 23) (e := 5) ht hd Tryd.underlying23
    rw [bytes_u8] at hr
    obtain ⟨h1, h2⟩ := rd_of_row hl hm (by simpa using hz) hcell hwz
    refine ⟨zs.take len, h1, h2, ?_, Or.inr ⟨_, rfl⟩⟩
    simp [lits, reachBytes] at hr
    simp
    omega

theorem gl_of {W : World} (hL : laidMetH Tryd.prog Rows.fsFixedRow.laid W) (hs : W.ShapedOpen Tryd.prog) : Gl W := by
  rw [MakeChecks.laidMetH_plain _ _ _ (by kernel_rfl)] at hL
  have r3 := Lib.laidMet.reads hL (n := "unicode/utf8.acceptRanges") (d := Rows.laid_unicode_utf8_acceptRanges) (.head _)
  refine ⟨?_, ?_⟩
  · exact cell_of_shapedOpen_int (P := Tryd.prog) (g := 0) (t := 3) (zero := #[.int .i64 0]) hs (of_decide_eq_true (by kernel_rfl)) (by kernel_rfl) rfl (by kernel_rfl) (by kernel_rfl) Tryd.underlying3
  · obtain ⟨g', t', cs, fuel, p, hg', ht', hv, hd⟩ := r3
    obtain rfl := Option.some.inj ((show Tryd.prog.globalNamed "unicode/utf8.acceptRanges" = some 2 by kernel_rfl).symm.trans hg')
    rcases Nat.lt_or_ge 2 W.heap.size with h' | h'
    · omega
    · exfalso
      unfold World.var? at hv
      simp only [hg', Option.bind_some] at hv
      rw [Array.getElem?_eq_none h'] at hv
      simp at hv
/-- A world for the witness: the settled one, the listed variables laid. -/
noncomputable def laidWorld (os : Os) : World := World.laidAll Tryd.prog os Rows.fsFixedRow.laid
theorem laid_met (os : Os) (args : Array Value) : laidMetH Tryd.prog Rows.fsFixedRow.laid ((laidWorld os).forCall (fun _ _ => 0) ⟨#[], args, []⟩).memory := by
  rw [MakeChecks.laidMetH_plain _ _ _ (by kernel_rfl)]
  exact laidMet_laidAll _ (by kernel_rfl) (by kernel_rfl)

end Go.Proofs.YtegdadkejheagaaDoor
