/-
  What the frames of object's laws take: bytes that came in; what the package variables hold; the witness's world.
-/
import Derived.Test.YtkbalngddlhlpaaGreatDoorFX3
import Derived.Deep.Slices
import Derived.WideKeyArr2
import Derived.Test.YtkbalngddlhlpaaGreatDoorRows
import Derived.Test.YtkbalngddlhlpaaGreatDoorCards
import Derived.Test.YtkbalngddlhlpaaGreatDoorTie
import Derived.Lay
import Derived.Lib.LaidTab
import Derived.Lib.LaidU8
import Derived.Shelf.Vars
import Derived.MakeChecks
import Derived.Deep.DeepHandedRow
import Derived.Deep.DeepWitnessRowRef
import Derived.ProofKit
import Derived.OpenShut
import Derived.ShutString
import Derived.ChangeOld
import Derived.Below
import Derived.SizedLaws
namespace Go.Proofs.YtkbalngddlhlpaaGreatDoor
open Go.ChangeShapes Go.WideShapes Go.ChangeAt Go.RowKit Go.Deep

theorem own : ownKnob Tryz.prog.godebug = none := by kernel_rfl
theorem laidOut : laidOutB Tryz.prog = true := by kernel_rfl
theorem cells_u8 : Tryz.prog.cellsOf 5 = 1 := by kernel_rfl
theorem bytes_u8 : Tryz.prog.bytesOf 5 = 1 := by kernel_rfl

theorem rd_of_row {w : World} {x : Addr} {len cap : Nat} {zs : List Int} (hl : len ≤ cap) (hm : cap ≤ maxLen) (hz : zs.length = cap)
    (hcell : ∀ i, i < zs.length → w.cell? (x.add i) = some (.int .u8 (zs.getD i 0))) (hwz : ∀ n ∈ zs, (Lit.int .u8 n).wf = true) : Rd .u8 anyB w (.slice (some x) len cap) (zs.take len) ∧ AllB (zs.take len) := by
  have hlen : (zs.take len).length = len := by simp; omega
  refine ⟨⟨some x, cap, by rw [hlen], by omega, hm, (fun h => by cases h), fun h0 => ?_⟩, fun z hz => ?_⟩
  · obtain ⟨b, off, spot⟩ := x
    have hc := hcell 0 (by omega)
    have hspot : spot = none := by simpa [Addr.add] using World.cell?_spot hc
    subst hspot
    refine ⟨b, off, rfl, ?_, trivial, fun i hi => ?_⟩
    · have hc0 : w.cell? ⟨b, off, none⟩ = some (.int .u8 (zs.getD 0 0)) := by simpa [Addr.add] using hc
      rcases Nat.lt_or_ge b w.heap.size with h | h
      · exact h
      · simp [World.cell?, Array.getElem?_eq_none h] at hc0
    · have := hcell i (by omega)
      rw [add_plain] at this
      rw [this]
      have hi' : i < len := by omega
      simp [List.getD, hi']
  · have := bounds_u8 (hwz z (List.mem_of_mem_take hz))
    omega

theorem arg_bytes {H : Type} {enc : TypeId × Value → H} {W : World} {held : Bool} {a : Option Addr} {len cap : Nat} {d : DataW H} {p : List MemPlace} {ts : List TypeId} {ds : List (DataW H)} {j : Nat}
    (h : ∃ fuel, DataW.trod enc Tryz.prog W 0 (fun _ => true) held fuel 27 (Value.slice a len cap).cells.toList = some (d, p))
    (hsz : (DataW.weightsEach Tryz.prog ts ds).all (· ≤ reachBytes) = true) (ht : ts[j]? = some 27) (hd : ds[j]? = some d) :
    ∃ xs, Rd .u8 anyB W (.slice a len cap) xs ∧ AllB xs ∧ xs.length + 4096 ≤ 140737488355328 ∧ (d = .nil ∨ ∃ sp, d = .slice (lits .u8 xs) sp) := by
  obtain ⟨fuel, hf⟩ := h
  rcases open_ints Tryz.underlying27 Tryz.underlying5 cells_u8 hf with ⟨hcs, hx⟩ | ⟨x, l, c, zs, hcs, _, hl, hm, hz, hx, hcell, hwz⟩
  · simp [Value.cells] at hcs
    obtain ⟨rfl, rfl, rfl⟩ := hcs
    exact ⟨[], Rd.nil _ _ W, AllIn.nil, by simp, Or.inl (congrArg Prod.fst hx)⟩
  · simp [Value.cells] at hcs
    obtain ⟨rfl, rfl, rfl⟩ := hcs
    have hd' : d = .slice (lits .u8 (zs.take len)) (lits .u8 (zs.drop len)) := congrArg Prod.fst hx
    subst hd'
    have hr := sized_slice hsz (j := j) (t := 27) (e := 5) ht hd Tryz.underlying27
    rw [bytes_u8] at hr
    obtain ⟨h1, h2⟩ := rd_of_row hl hm (by simpa using hz) hcell hwz
    refine ⟨zs.take len, h1, h2, ?_, Or.inr ⟨_, rfl⟩⟩
    simp [lits, reachBytes] at hr
    simp
    omega

def dbL : List Int := [0, 1, 56, 2, 57, 49, 28, 3, 61, 58, 42, 50, 38, 29, 17, 4, 62, 47, 59, 36, 45, 43, 51, 22, 53, 39, 33, 30, 24, 18, 12, 5, 63, 55, 48, 27, 60, 41, 37, 16, 46, 35, 44, 21, 52, 32, 23, 11, 54, 26, 40, 15, 34, 20, 31, 10, 25, 14, 19, 9, 13, 8, 7, 6]
theorem tab_of {W : World} {n : String} {g : Nat} {t e : TypeId} {kd : IntKind} {len : Nat} {tab : List Int} (hg : Tryz.prog.globalNamed n = some g) (ht : (Tryz.prog.globals[g]?).map (·.type) = some t) (hu : Tryz.prog.underlying t = some (.array len e)) (he : Tryz.prog.underlying e = some (.int kd)) (hce : Tryz.prog.cellsOf e = 1) (hct : Tryz.prog.cellsOf t = len)
    (h : Lib.VarReads Tryz.prog W n (Lib.tabData kd tab)) : Lib.TabIs Tryz.prog W n kd tab := by
  obtain ⟨g', t', cs, fuel, p, hg', ht', hv, hd⟩ := h
  obtain rfl := Option.some.inj (hg.symm.trans hg')
  obtain rfl := Option.some.inj (ht.symm.trans ht')
  unfold Lib.TabIs
  rw [hv, ← Lib.cells_of_tab hu he hce hct hd]
theorem gv_of {W : World} (hL : laidMetH Tryz.prog Rows.objectFixedRow.laid W) : Gv W := by
  rw [MakeChecks.laidMetH_plain _ _ _ (by kernel_rfl)] at hL
  have r0 := Lib.laidMet.reads hL (n := "math/bits.deBruijn64tab") (d := Rows.laid_math_bits_deBruijn64tab) (.tail _ (.head _))
  have r1 := Lib.laidMet.reads hL (n := "internal/strconv.uint64pow10") (d := Rows.laid_internal_strconv_uint64pow10) (.tail _ (.tail _ (.head _)))
  have r2 := Lib.laidMet.reads hL (n := "codicil/sha.roundWords") (d := Rows.laid_codicil_sha_roundWords) (.tail _ (.tail _ (.tail _ (.tail _ (.tail _ (.head _))))))
  have t0 := tab_of (g := 6) (t := 112) (e := 5) (kd := .u8) (tab := dbL) (by kernel_rfl) (by kernel_rfl) Tryz.underlying112 Tryz.underlying5 (by kernel_rfl) (by kernel_rfl) r0
  have t1 := tab_of (g := 1) (t := 154) (e := 114) (kd := .u64) (tab := Lib.pow10Tab) (by kernel_rfl) (by kernel_rfl) Tryz.underlying154 Tryz.underlying114 (by kernel_rfl) (by kernel_rfl) r1
  have t2 := tab_of (g := 0) (t := 137) (e := 84) (kd := .u32) (tab := Sh.ksK) (by kernel_rfl) (by kernel_rfl) Tryz.underlying137 Tryz.underlying84 (by kernel_rfl) (by kernel_rfl) r2
  have hz : W.cell? ⟨6, 7, none⟩ = some (.int .u8 3) := t0.cell (by kernel_rfl) 7 (by decide)
  have hlt : ∀ {b i : Nat} {v : Value}, W.cell? ⟨b, i, none⟩ = some v → b < W.heap.size := fun {b i v} h => by
    rcases Nat.lt_or_ge b W.heap.size with h' | h'
    · exact h'
    · exfalso
      unfold World.cell? at h
      rw [show W.heap[(⟨b, i, none⟩ : Addr).block]? = none from Array.getElem?_eq_none h'] at h
      simp at h
  have hc : ∀ i, i < Sh.ksK.length → W.cell? ⟨0, i, none⟩ = some (.int .u32 (Sh.ksK.getD i 0)) := fun i hi => t2.cell (by kernel_rfl) i hi
  exact ⟨t1, ⟨hlt (hc 0 (by decide)), hc⟩, hz, hlt hz⟩
noncomputable def laidWorld (os : Os) : World := World.laidAll Tryz.prog os Rows.objectFixedRow.laid
theorem laid_met (os : Os) (args : Array Value) : laidMetH Tryz.prog Rows.objectFixedRow.laid ((laidWorld os).forCall (fun _ _ => 0) ⟨#[], args, []⟩).memory := by
  rw [MakeChecks.laidMetH_plain _ _ _ (by kernel_rfl)]
  exact laidMet_laidAll _ (by kernel_rfl) (by kernel_rfl)
theorem iface_cell {P : Program} {w : World} {fuel : Nat} {t : TypeId} {ms : Array (String × TypeId)} {cs : List Value} {name : String} {d : DataW Unit} {p : List MemPlace} (ht : P.underlying t = some (.interface ms))
    (h : DataW.trod (fun _ => ()) P w 0 (fun _ => true) false fuel t cs = some (.iface name d, p)) : ∃ u v, cs = [.iface u v] := by
  cases fuel with
  | zero => simp [DataW.trod] at h
  | succ n =>
    unfold DataW.trod at h
    rw [ht] at h
    split at h <;> simp_all
theorem gl_iface {W : World} {n : String} {g : Nat} {t : TypeId} {ms : Array (String × TypeId)} {name : String} {d : DataW Unit} (hg : Tryz.prog.globalNamed n = some g) (ht : (Tryz.prog.globals[g]?).map (·.type) = some t) (hu : Tryz.prog.underlying t = some (.interface ms))
    (h : Lib.VarReads Tryz.prog W n (.iface name d)) : ∃ te pe, W.cell? ⟨g, 0, none⟩ = some (.iface te pe) := by
  obtain ⟨g', t', cs, fuel, p, hg', ht', hv, hd⟩ := h
  obtain rfl := Option.some.inj (hg.symm.trans hg')
  obtain rfl := Option.some.inj (ht.symm.trans ht')
  obtain ⟨u, v, hc⟩ := iface_cell hu hd
  have := World.var?_cell hg hv 0
  rw [Array.eq_one_of_toList hc] at this
  exact ⟨u, v, by simpa using this⟩
theorem gl_of {W : World} (hL : laidMetH Tryz.prog Rows.objectFixedRow.laid W) (hs : W.ShapedOpen Tryz.prog) : Gl W := by
  have hgv := gv_of hL
  rw [MakeChecks.laidMetH_plain _ _ _ (by kernel_rfl)] at hL
  have r2 := Lib.laidMet.reads hL (n := "strconv.ErrRange") (d := Rows.laid_strconv_ErrRange) (.tail _ (.tail _ (.tail _ (.head _))))
  have r3 := Lib.laidMet.reads hL (n := "strconv.ErrSyntax") (d := Rows.laid_strconv_ErrSyntax) (.tail _ (.tail _ (.tail _ (.tail _ (.head _)))))
  refine ⟨?_, hgv.pow, gl_iface (t := 131) (by kernel_rfl) (by kernel_rfl) Tryz.underlying131 r3, gl_iface (t := 131) (by kernel_rfl) (by kernel_rfl) Tryz.underlying131 r2, ?_⟩
  · exact cell_of_shapedOpen_int (P := Tryz.prog) (g := 2) (t := 3) (zero := #[.int .i64 0]) hs (of_decide_eq_true (by kernel_rfl)) (by kernel_rfl) rfl (by kernel_rfl) (by kernel_rfl) Tryz.underlying3
  · have := hgv.lo
    omega

/-! Structs that came in -/
theorem take_one {l : List Value} {k : Nat} {v : Value} (h : (l.drop k).take 1 = [v]) : l[k]? = some v := by
  have := congrArg (fun q => q[0]?) h
  simpa using this
theorem ints_of {H : Type} {enc : TypeId × Value → H} {P : Program} {W : World} {base : Nat} {sp : Nat → Bool} {held : Bool} {t e : TypeId} {n fuel : Nat} {q : IntKind} (hu : P.underlying t = some (.array n e)) (he : P.underlying e = some (.int q)) (hce : P.cellsOf e = 1) (hct : P.cellsOf t = n)
    {cs : List Value} {x : DataW H × List MemPlace} (h : DataW.trod enc P W base sp held fuel t cs = some x) : ∃ l : List Int, cs = cellsK q l ∧ l.length = n ∧ ∀ y ∈ l, (Lit.int q y).wf = true := by
  obtain ⟨xs, m, -, -, hlen, hxl, hall⟩ := DataW.trod_array hu h
  rw [hct] at hlen
  have hat : ∀ i, i < n → ∃ a, cs[i]? = some (.int q a) ∧ (Lit.int q a).wf = true := fun i hi => by
    have h1 := hall i hi
    rw [hce, Nat.mul_one, List.getElem?_eq_getElem (by omega)] at h1
    obtain ⟨a, ea, _, wa⟩ := DataW.trod_int he h1
    exact ⟨a, take_one ea, wa⟩
  refine ⟨cs.map intOf, ?_, by simpa using hlen, fun y hy => ?_⟩
  · unfold cellsK
    rw [List.map_map]
    apply List.ext_getElem?
    intro i
    rcases Nat.lt_or_ge i n with h | h
    · obtain ⟨a, ha, _⟩ := hat i h
      simp only [List.getElem?_map, ha, Option.map_some]
      rfl
    · simp [List.getElem?_eq_none (show cs.length ≤ i by omega)]
  · obtain ⟨z, hz, rfl⟩ := List.mem_map.1 hy
    obtain ⟨i, hi, rfl⟩ := List.getElem_of_mem hz
    obtain ⟨a, ha, wa⟩ := hat i (by omega)
    rw [List.getElem?_eq_getElem hi] at ha
    rw [Option.some.inj ha]
    exact wa
theorem idt_of_trod {H : Type} {enc : TypeId × Value → H} {W : World} {base : Nat} {sp : Nat → Bool} {held : Bool} {fuel : Nat} {cs : List Value} {x : DataW H × List MemPlace} (h : DataW.trod enc Tryz.prog W base sp held fuel 38 cs = some x) : ∃ i : Idt, cs = igL i := by
  obtain ⟨ys, n, -, he, hlen, hy, hall⟩ := DataW.trod_struct Tryz.underlying38 h
  have hc : Tryz.prog.cellsOf 38 = 4 := by kernel_rfl
  rw [hc] at hlen
  match ys, hy with
  | [y0, y1, y2, y3], _ =>
    have c0 : Tryz.prog.cellsOf 3 = 1 := by kernel_rfl
    have c1 : Tryz.prog.cellsOf 9 = 1 := by kernel_rfl
    have h0 : DataW.trod enc Tryz.prog W base sp held n 9 ((cs.drop 0).take (Tryz.prog.cellsOf 9)) = some y0 := hall 0 _ rfl
    have h1 : DataW.trod enc Tryz.prog W base sp held n 9 ((cs.drop 1).take (Tryz.prog.cellsOf 9)) = some y1 := hall 1 _ rfl
    have h2 : DataW.trod enc Tryz.prog W base sp held n 3 ((cs.drop 2).take (Tryz.prog.cellsOf 3)) = some y2 := hall 2 _ rfl
    have h3 : DataW.trod enc Tryz.prog W base sp held n 3 ((cs.drop 3).take (Tryz.prog.cellsOf 3)) = some y3 := hall 3 _ rfl
    rw [c1] at h0 h1
    rw [c0] at h2 h3
    obtain ⟨nm, e0, -⟩ := DataW.trod_string Tryz.underlying9 h0
    obtain ⟨em, e1, -⟩ := DataW.trod_string Tryz.underlying9 h1
    obtain ⟨tm, e2, -⟩ := DataW.trod_int Tryz.underlying3 h2
    obtain ⟨zn, e3, -⟩ := DataW.trod_int Tryz.underlying3 h3
    have k0 := take_one e0
    have k1 := take_one e1
    have k2 := take_one e2
    have k3 := take_one e3
    refine ⟨⟨nm, em, tm, zn⟩, ?_⟩
    unfold igL
    apply List.ext_getElem?
    intro i
    match i with
    | 0 => rw [k0]; rfl
    | 1 => rw [k1]; rfl
    | 2 => rw [k2]; rfl
    | 3 => rw [k3]; rfl
    | i + 4 => rw [List.getElem?_eq_none (by omega), List.getElem?_eq_none (by simp)]
set_option maxRecDepth 100000 in
theorem lab_of_trod {H : Type} {enc : TypeId × Value → H} {W : World} {base : Nat} {sp : Nat → Bool} {held : Bool} {fuel : Nat} {cs : List Value} {x : DataW H × List MemPlace} (h : DataW.trod enc Tryz.prog W base sp held fuel 127 cs = some x)
    (hw : ∀ n ∈ x.1.weights Tryz.prog 127, n ≤ reachBytes) : ∃ c : LbC, c.ok ∧ cs = c.l := by
  obtain ⟨ys, n, -, he, hlen, hy, hall⟩ := DataW.trod_struct Tryz.underlying127 h
  have hc : Tryz.prog.cellsOf 127 = 39 := by kernel_rfl
  rw [hc] at hlen
  match ys, hy with
  | [y0, y1, y2, y3, y4], _ =>
    have c0 : Tryz.prog.cellsOf 26 = 1 := by kernel_rfl
    have c1 : Tryz.prog.cellsOf 9 = 1 := by kernel_rfl
    have c2 : Tryz.prog.cellsOf 31 = 32 := by kernel_rfl
    have c3 : Tryz.prog.cellsOf 38 = 4 := by kernel_rfl
    have c8 : Tryz.prog.cellsOf 5 = 1 := by kernel_rfl
    have h0 : DataW.trod enc Tryz.prog W base sp held n 31 ((cs.drop 0).take (Tryz.prog.cellsOf 31)) = some y0 := hall 0 _ rfl
    have h1 : DataW.trod enc Tryz.prog W base sp held n 26 ((cs.drop 32).take (Tryz.prog.cellsOf 26)) = some y1 := hall 1 _ rfl
    have h2 : DataW.trod enc Tryz.prog W base sp held n 9 ((cs.drop 33).take (Tryz.prog.cellsOf 9)) = some y2 := hall 2 _ rfl
    have h3 : DataW.trod enc Tryz.prog W base sp held n 38 ((cs.drop 34).take (Tryz.prog.cellsOf 38)) = some y3 := hall 3 _ rfl
    have h4 : DataW.trod enc Tryz.prog W base sp held n 9 ((cs.drop 38).take (Tryz.prog.cellsOf 9)) = some y4 := hall 4 _ rfl
    rw [c0] at h1
    rw [c1] at h2 h4
    obtain ⟨l, e0, hl, wl⟩ := ints_of Tryz.underlying31 Tryz.underlying5 c8 c2 h0
    obtain ⟨k, e1, -, w1⟩ := DataW.trod_int Tryz.underlying26 h1
    obtain ⟨nm, e2, x2, w2⟩ := DataW.trod_string Tryz.underlying9 h2
    obtain ⟨ig, e3⟩ := idt_of_trod h3
    obtain ⟨ms, e4, x4, w4⟩ := DataW.trod_string Tryz.underlying9 h4
    rw [c2] at e0
    rw [c3] at e3
    have b1 := bounds_i64 w1
    have hnb : nm.size ≤ reachBytes ∧ ms.size ≤ reachBytes := by
      subst he
      subst x2
      subst x4
      rw [Lib.size_eq, Lib.size_eq]
      refine ⟨hw _ ?_, hw _ ?_⟩ <;> simp [DataW.weights, Tryz.underlying127, DataW.weightsEach]
    have hrb := reachBytes_lt
    refine ⟨⟨l, k, nm, ig, ms⟩, ⟨hl, fun y hy => by have := bounds_u8 (wl y hy); omega, by simp only; omega, by simp only; omega, by simp only; omega, by simp only; omega⟩, ?_⟩
    have k1 := take_one e1
    have k2 := take_one e2
    have k4 := take_one e4
    have t0 : cs = cs.take 32 ++ cs.drop 32 := (List.take_append_drop 32 cs).symm
    have d1 : cs.drop 32 = .int .i64 k :: .string nm :: (igL ig ++ [.string ms]) := by
      rw [List.drop_eq_getElem_cons (by omega), List.drop_eq_getElem_cons (by omega)]
      rw [List.getElem?_eq_getElem (by omega)] at k1 k2
      rw [Option.some.inj k1, Option.some.inj k2]
      congr 2
      have t3 : cs.drop 34 = (cs.drop 34).take 4 ++ (cs.drop 34).drop 4 := (List.take_append_drop 4 _).symm
      rw [show 32 + 1 + 1 = 34 from rfl, t3, e3, List.drop_drop, show 34 + 4 = 38 from rfl]
      congr 1
      rw [List.drop_eq_getElem_cons (by omega), List.drop_of_length_le (by omega)]
      rw [List.getElem?_eq_getElem (by omega)] at k4
      rw [Option.some.inj k4]
    unfold LbC.l LbC.tl
    rw [t0, d1]
    rw [List.drop_zero] at e0
    rw [e0]
    unfold igL
    simp
set_option maxRecDepth 100000 in
theorem arg_lab {H : Type} {enc : TypeId × Value → H} {W : World} {b0 : Nat} {held : Bool} {r : Reach} {v : Value} {d : DataW H} {ps : List MemPlace} {ts : List TypeId} {ds : List (DataW H)} {j : Nat}
    (hval : Value.okWide Tryz.prog W r b0 127 v) (hd : DataW.Trod enc Tryz.prog W 0 (fun _ => true) held 127 v d ps)
    (hsz : (DataW.weightsEach Tryz.prog ts ds).all (· ≤ reachBytes) = true) (ht : ts[j]? = some 127) (hdj : ds[j]? = some d) : ∃ c : LbC, v = .agg c.l.toArray ∧ c.ok := by
  obtain ⟨xs, rfl, -⟩ := okWide_struct Tryz.underlying127 hval
  obtain ⟨fuel, hf⟩ := hd
  obtain ⟨c, hc, he⟩ := lab_of_trod hf (fun n hn => by
    have := List.all_eq_true.1 hsz _ (DataW.weights_mem_each ht hdj n hn)
    simpa using this)
  refine ⟨c, ?_, hc⟩
  simp only [Value.cells] at he
  rw [← he]
def zeroLD {H : Type} : DataW H := .agg [.agg (List.replicate 32 (.lit (.int .u8 0))), .lit (.int .i64 0), .lit (.string []), .agg [.lit (.string []), .lit (.string []), .lit (.int .i64 0), .lit (.int .i64 0)], .lit (.string [])]
end Go.Proofs.YtkbalngddlhlpaaGreatDoor
