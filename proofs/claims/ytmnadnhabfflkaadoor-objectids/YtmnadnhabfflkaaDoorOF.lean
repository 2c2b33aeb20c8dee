/-
  What the frame of ObjectIds takes: bytes that came in; what the package variables hold; the witness's world.
-/
import Derived.Test.YtmnadnhabfflkaaDoorO14
import Derived.Test.YtmnadnhabfflkaaDoorRows
import Derived.Test.YtmnadnhabfflkaaDoorCards
import Derived.Test.YtmnadnhabfflkaaDoorTie
import Derived.Lay
import Derived.Lib.LaidTab
import Derived.Lib.LaidU8
import Derived.Shelf.Vars
import Derived.MakeChecks
import Derived.Deep.DeepHandedRow
import Derived.Deep.DeepWitnessRowRef
import Derived.ProofKit
import Derived.OpenShut
import Derived.ShutString
import Derived.ChangeOld
import Derived.Below
import Derived.SizedLaws
namespace Go.Proofs.YtmnadnhabfflkaaDoor
open Go.ChangeShapes Go.WideShapes Go.ChangeAt Go.RowKit

theorem own : ownKnob Tryd.prog.godebug = none := by kernel_rfl
theorem laidOut : laidOutB Tryd.prog = true := by kernel_rfl
theorem cells_u8 : Tryd.prog.cellsOf 5 = 1 := by kernel_rfl
theorem bytes_u8 : Tryd.prog.bytesOf 5 = 1 := by kernel_rfl

theorem rd_of_row {w : World} {x : Addr} {len cap : Nat} {zs : List Int} (hl : len ≤ cap) (hm : cap ≤ maxLen) (hz : zs.length = cap)
    (hcell : ∀ i, i < zs.length → w.cell? (x.add i) = some (.int .u8 (zs.getD i 0))) (hwz : ∀ n ∈ zs, (Lit.int .u8 n).wf = true) : Rd .u8 anyB w (.slice (some x) len cap) (zs.take len) ∧ AllB (zs.take len) := by
  have hlen : (zs.take len).length = len := by simp; omega
  refine ⟨⟨some x, cap, by rw [hlen], by omega, hm, (fun h => by cases h), fun h0 => ?_⟩, fun z hz => ?_⟩
  · obtain ⟨b, off, spot⟩ := x
    have hc := hcell 0 (by omega)
    have hspot : spot = none := by simpa [Addr.add] using World.cell?_spot hc
    subst hspot
    refine ⟨b, off, rfl, ?_, trivial, fun i hi => ?_⟩
    · have hc0 : w.cell? ⟨b, off, none⟩ = some (.int .u8 (zs.getD 0 0)) := by simpa [Addr.add] using hc
      rcases Nat.lt_or_ge b w.heap.size with h | h
      · exact h
      · simp [World.cell?, Array.getElem?_eq_none h] at hc0
    · have := hcell i (by omega)
      rw [add_plain] at this
      rw [this]
      have hi' : i < len := by omega
      simp [List.getD, hi']
  · have := bounds_u8 (hwz z (List.mem_of_mem_take hz))
    omega

/-- A slice of bytes that came in: what it reads as, its datum, and that it lies within the form's reach. -/
theorem arg_bytes {H : Type} {enc : TypeId × Value → H} {W : World} {held : Bool} {a : Option Addr} {len cap : Nat} {d : DataW H} {p : List MemPlace} {ts : List TypeId} {ds : List (DataW H)} {j : Nat}
    (h : ∃ fuel, DataW.trod enc Tryd.prog W 0 (fun _ => true) held fuel 22 (Value.slice a len cap).cells.toList = some (d, p))
    (hsz : (DataW.weightsEach Tryd.prog ts ds).all (· ≤ reachBytes) = true) (ht : ts[j]? = some 22) (hd : ds[j]? = some d) :
    ∃ xs, Rd .u8 anyB W (.slice a len cap) xs ∧ AllB xs ∧ xs.length + 4096 ≤ 140737488355328 ∧ (d = .nil ∨ ∃ sp, d = .slice (lits .u8 xs) sp) := by
  obtain ⟨fuel, hf⟩ := h
  rcases open_ints Tryd.underlying22 Tryd.underlying5 cells_u8 hf with ⟨hcs, hx⟩ | ⟨x, l, c, zs, hcs, _, hl, hm, hz, hx, hcell, hwz⟩
  · simp [Value.cells] at hcs
    obtain ⟨rfl, rfl, rfl⟩ := hcs
    exact ⟨[], Rd.nil _ _ W, AllIn.nil, by simp, Or.inl (congrArg Prod.fst hx)⟩
  · simp [Value.cells] at hcs
    obtain ⟨rfl, rfl, rfl⟩ := hcs
    have hd' : d = .slice (lits .u8 (zs.take len)) (lits .u8 (zs.drop len)) := congrArg Prod.fst hx
    subst hd'
    have hr := sized_slice hsz (j := j) (t := 22) (e := 5) ht hd Tryd.underlying22
    rw [bytes_u8] at hr
    obtain ⟨h1, h2⟩ := rd_of_row hl hm (by simpa using hz) hcell hwz
    refine ⟨zs.take len, h1, h2, ?_, Or.inr ⟨_, rfl⟩⟩
    simp [lits, reachBytes] at hr
    simp
    omega

def dbL : List Int := [0, 1, 56, 2, 57, 49, 28, 3, 61, 58, 42, 50, 38, 29, 17, 4, 62, 47, 59, 36, 45, 43, 51, 22, 53, 39, 33, 30, 24, 18, 12, 5, 63, 55, 48, 27, 60, 41, 37, 16, 46, 35, 44, 21, 52, 32, 23, 11, 54, 26, 40, 15, 34, 20, 31, 10, 25, 14, 19, 9, 13, 8, 7, 6]
theorem tab_of {W : World} {n : String} {g : Nat} {t e : TypeId} {kd : IntKind} {len : Nat} {tab : List Int} (hg : Tryd.prog.globalNamed n = some g) (ht : (Tryd.prog.globals[g]?).map (·.type) = some t) (hu : Tryd.prog.underlying t = some (.array len e)) (he : Tryd.prog.underlying e = some (.int kd)) (hce : Tryd.prog.cellsOf e = 1) (hct : Tryd.prog.cellsOf t = len)
    (h : Lib.VarReads Tryd.prog W n (Lib.tabData kd tab)) : Lib.TabIs Tryd.prog W n kd tab := by
  obtain ⟨g', t', cs, fuel, p, hg', ht', hv, hd⟩ := h
  obtain rfl := Option.some.inj (hg.symm.trans hg')
  obtain rfl := Option.some.inj (ht.symm.trans ht')
  unfold Lib.TabIs
  rw [hv, ← Lib.cells_of_tab hu he hce hct hd]
theorem gv_of {W : World} (hL : laidMetH Tryd.prog Rows.objectIdsRow.laid W) : Gv W := by
  rw [MakeChecks.laidMetH_plain _ _ _ (by kernel_rfl)] at hL
  have r0 := Lib.laidMet.reads hL (n := "math/bits.deBruijn64tab") (d := Rows.laid_math_bits_deBruijn64tab) (.tail _ (.head _))
  have r1 := Lib.laidMet.reads hL (n := "internal/strconv.uint64pow10") (d := Rows.laid_internal_strconv_uint64pow10) (.tail _ (.tail _ (.head _)))
  have r2 := Lib.laidMet.reads hL (n := "codicil/sha.roundWords") (d := Rows.laid_codicil_sha_roundWords) (.tail _ (.tail _ (.tail _ (.head _))))
  have t0 := tab_of (g := 4) (t := 63) (e := 5) (kd := .u8) (tab := dbL) (by kernel_rfl) (by kernel_rfl) Tryd.underlying63 Tryd.underlying5 (by kernel_rfl) (by kernel_rfl) r0
  have t1 := tab_of (g := 1) (t := 89) (e := 65) (kd := .u64) (tab := Lib.pow10Tab) (by kernel_rfl) (by kernel_rfl) Tryd.underlying89 Tryd.underlying65 (by kernel_rfl) (by kernel_rfl) r1
  have t2 := tab_of (g := 0) (t := 73) (e := 51) (kd := .u32) (tab := Sh.ksK) (by kernel_rfl) (by kernel_rfl) Tryd.underlying73 Tryd.underlying51 (by kernel_rfl) (by kernel_rfl) r2
  have hz : W.cell? ⟨4, 7, none⟩ = some (.int .u8 3) := t0.cell (by kernel_rfl) 7 (by decide)
  have hlt : ∀ {b i : Nat} {v : Value}, W.cell? ⟨b, i, none⟩ = some v → b < W.heap.size := fun {b i v} h => by
    rcases Nat.lt_or_ge b W.heap.size with h' | h'
    · exact h'
    · exfalso
      unfold World.cell? at h
      rw [show W.heap[(⟨b, i, none⟩ : Addr).block]? = none from Array.getElem?_eq_none h'] at h
      simp at h
  have hc : ∀ i, i < Sh.ksK.length → W.cell? ⟨0, i, none⟩ = some (.int .u32 (Sh.ksK.getD i 0)) := fun i hi => t2.cell (by kernel_rfl) i hi
  exact ⟨t1, ⟨hlt (hc 0 (by decide)), hc⟩, hz, hlt hz⟩
/-- A world for the witness: the settled one, the listed variables laid. -/
noncomputable def laidWorld (os : Os) : World := World.laidAll Tryd.prog os Rows.objectIdsRow.laid
theorem laid_met (os : Os) (args : Array Value) : laidMetH Tryd.prog Rows.objectIdsRow.laid ((laidWorld os).forCall (fun _ _ => 0) ⟨#[], args, []⟩).memory := by
  rw [MakeChecks.laidMetH_plain _ _ _ (by kernel_rfl)]
  exact laidMet_laidAll _ (by kernel_rfl) (by kernel_rfl)
end Go.Proofs.YtmnadnhabfflkaaDoor
