/-
  What the frames of object's laws take: bytes that came in; what the package variables hold; the witness's world.
-/
import Derived.Test.YtkbalngddlhlpaaGreatDoorOM2
import Derived.Deep.Slices
import Derived.WideKeyArr2
import Derived.Test.YtkbalngddlhlpaaGreatDoorRows
import Derived.Test.YtkbalngddlhlpaaGreatDoorCards
import Derived.Test.YtkbalngddlhlpaaGreatDoorTie
import Derived.Lay
import Derived.Lib.LaidTab
import Derived.Lib.LaidU8
import Derived.Shelf.Vars
import Derived.MakeChecks
import Derived.Deep.DeepHandedRow
import Derived.Deep.DeepWitnessRowRef
import Derived.ProofKit
import Derived.OpenShut
import Derived.ShutString
import Derived.ChangeOld
import Derived.Below
import Derived.SizedLaws
namespace Go.Proofs.YtkbalngddlhlpaaGreatDoor
open Go.ChangeShapes Go.WideShapes Go.ChangeAt Go.RowKit Go.Deep

theorem own : ownKnob Tryz.prog.godebug = none := by kernel_rfl
theorem laidOut : laidOutB Tryz.prog = true := by kernel_rfl
theorem cells_u8 : Tryz.prog.cellsOf 5 = 1 := by kernel_rfl
theorem bytes_u8 : Tryz.prog.bytesOf 5 = 1 := by kernel_rfl

theorem rd_of_row {w : World} {x : Addr} {len cap : Nat} {zs : List Int} (hl : len ≤ cap) (hm : cap ≤ maxLen) (hz : zs.length = cap)
    (hcell : ∀ i, i < zs.length → w.cell? (x.add i) = some (.int .u8 (zs.getD i 0))) (hwz : ∀ n ∈ zs, (Lit.int .u8 n).wf = true) : Rd .u8 anyB w (.slice (some x) len cap) (zs.take len) ∧ AllB (zs.take len) := by
  have hlen : (zs.take len).length = len := by simp; omega
  refine ⟨⟨some x, cap, by rw [hlen], by omega, hm, (fun h => by cases h), fun h0 => ?_⟩, fun z hz => ?_⟩
  · obtain ⟨b, off, spot⟩ := x
    have hc := hcell 0 (by omega)
    have hspot : spot = none := by simpa [Addr.add] using World.cell?_spot hc
    subst hspot
    refine ⟨b, off, rfl, ?_, trivial, fun i hi => ?_⟩
    · have hc0 : w.cell? ⟨b, off, none⟩ = some (.int .u8 (zs.getD 0 0)) := by simpa [Addr.add] using hc
      rcases Nat.lt_or_ge b w.heap.size with h | h
      · exact h
      · simp [World.cell?, Array.getElem?_eq_none h] at hc0
    · have := hcell i (by omega)
      rw [add_plain] at this
      rw [this]
      have hi' : i < len := by omega
      simp [List.getD, hi']
  · have := bounds_u8 (hwz z (List.mem_of_mem_take hz))
    omega

theorem arg_bytes {H : Type} {enc : TypeId × Value → H} {W : World} {held : Bool} {a : Option Addr} {len cap : Nat} {d : DataW H} {p : List MemPlace} {ts : List TypeId} {ds : List (DataW H)} {j : Nat}
    (h : ∃ fuel, DataW.trod enc Tryz.prog W 0 (fun _ => true) held fuel 27 (Value.slice a len cap).cells.toList = some (d, p))
    (hsz : (DataW.weightsEach Tryz.prog ts ds).all (· ≤ reachBytes) = true) (ht : ts[j]? = some 27) (hd : ds[j]? = some d) :
    ∃ xs, Rd .u8 anyB W (.slice a len cap) xs ∧ AllB xs ∧ xs.length + 4096 ≤ 140737488355328 ∧ (d = .nil ∨ ∃ sp, d = .slice (lits .u8 xs) sp) := by
  obtain ⟨fuel, hf⟩ := h
  rcases open_ints Tryz.underlying27 Tryz.underlying5 cells_u8 hf with ⟨hcs, hx⟩ | ⟨x, l, c, zs, hcs, _, hl, hm, hz, hx, hcell, hwz⟩
  · simp [Value.cells] at hcs
    obtain ⟨rfl, rfl, rfl⟩ := hcs
    exact ⟨[], Rd.nil _ _ W, AllIn.nil, by simp, Or.inl (congrArg Prod.fst hx)⟩
  · simp [Value.cells] at hcs
    obtain ⟨rfl, rfl, rfl⟩ := hcs
    have hd' : d = .slice (lits .u8 (zs.take len)) (lits .u8 (zs.drop len)) := congrArg Prod.fst hx
    subst hd'
    have hr := sized_slice hsz (j := j) (t := 27) (e := 5) ht hd Tryz.underlying27
    rw [bytes_u8] at hr
    obtain ⟨h1, h2⟩ := rd_of_row hl hm (by simpa using hz) hcell hwz
    refine ⟨zs.take len, h1, h2, ?_, Or.inr ⟨_, rfl⟩⟩
    simp [lits, reachBytes] at hr
    simp
    omega

def dbL : List Int := [0, 1, 56, 2, 57, 49, 28, 3, 61, 58, 42, 50, 38, 29, 17, 4, 62, 47, 59, 36, 45, 43, 51, 22, 53, 39, 33, 30, 24, 18, 12, 5, 63, 55, 48, 27, 60, 41, 37, 16, 46, 35, 44, 21, 52, 32, 23, 11, 54, 26, 40, 15, 34, 20, 31, 10, 25, 14, 19, 9, 13, 8, 7, 6]
theorem tab_of {W : World} {n : String} {g : Nat} {t e : TypeId} {kd : IntKind} {len : Nat} {tab : List Int} (hg : Tryz.prog.globalNamed n = some g) (ht : (Tryz.prog.globals[g]?).map (·.type) = some t) (hu : Tryz.prog.underlying t = some (.array len e)) (he : Tryz.prog.underlying e = some (.int kd)) (hce : Tryz.prog.cellsOf e = 1) (hct : Tryz.prog.cellsOf t = len)
    (h : Lib.VarReads Tryz.prog W n (Lib.tabData kd tab)) : Lib.TabIs Tryz.prog W n kd tab := by
  obtain ⟨g', t', cs, fuel, p, hg', ht', hv, hd⟩ := h
  obtain rfl := Option.some.inj (hg.symm.trans hg')
  obtain rfl := Option.some.inj (ht.symm.trans ht')
  unfold Lib.TabIs
  rw [hv, ← Lib.cells_of_tab hu he hce hct hd]
theorem gv_of {W : World} (hL : laidMetH Tryz.prog Rows.objectMemoryUptoRow.laid W) : Gv W := by
  rw [MakeChecks.laidMetH_plain _ _ _ (by kernel_rfl)] at hL
  have r0 := Lib.laidMet.reads hL (n := "math/bits.deBruijn64tab") (d := Rows.laid_math_bits_deBruijn64tab) (.tail _ (.head _))
  have r1 := Lib.laidMet.reads hL (n := "internal/strconv.uint64pow10") (d := Rows.laid_internal_strconv_uint64pow10) (.tail _ (.tail _ (.head _)))
  have r2 := Lib.laidMet.reads hL (n := "codicil/sha.roundWords") (d := Rows.laid_codicil_sha_roundWords) (.tail _ (.tail _ (.tail _ (.tail _ (.tail _ (.head _))))))
  have t0 := tab_of (g := 6) (t := 112) (e := 5) (kd := .u8) (tab := dbL) (by kernel_rfl) (by kernel_rfl) Tryz.underlying112 Tryz.underlying5 (by kernel_rfl) (by kernel_rfl) r0
  have t1 := tab_of (g := 1) (t := 154) (e := 114) (kd := .u64) (tab := Lib.pow10Tab) (by kernel_rfl) (by kernel_rfl) Tryz.underlying154 Tryz.underlying114 (by kernel_rfl) (by kernel_rfl) r1
  have t2 := tab_of (g := 0) (t := 137) (e := 84) (kd := .u32) (tab := Sh.ksK) (by kernel_rfl) (by kernel_rfl) Tryz.underlying137 Tryz.underlying84 (by kernel_rfl) (by kernel_rfl) r2
  have hz : W.cell? ⟨6, 7, none⟩ = some (.int .u8 3) := t0.cell (by kernel_rfl) 7 (by decide)
  have hlt : ∀ {b i : Nat} {v : Value}, W.cell? ⟨b, i, none⟩ = some v → b < W.heap.size := fun {b i v} h => by
    rcases Nat.lt_or_ge b W.heap.size with h' | h'
    · exact h'
    · exfalso
      unfold World.cell? at h
      rw [show W.heap[(⟨b, i, none⟩ : Addr).block]? = none from Array.getElem?_eq_none h'] at h
      simp at h
  have hc : ∀ i, i < Sh.ksK.length → W.cell? ⟨0, i, none⟩ = some (.int .u32 (Sh.ksK.getD i 0)) := fun i hi => t2.cell (by kernel_rfl) i hi
  exact ⟨t1, ⟨hlt (hc 0 (by decide)), hc⟩, hz, hlt hz⟩
noncomputable def laidWorld (os : Os) : World := World.laidAll Tryz.prog os Rows.objectMemoryUptoRow.laid
theorem laid_met (os : Os) (args : Array Value) : laidMetH Tryz.prog Rows.objectMemoryUptoRow.laid ((laidWorld os).forCall (fun _ _ => 0) ⟨#[], args, []⟩).memory := by
  rw [MakeChecks.laidMetH_plain _ _ _ (by kernel_rfl)]
  exact laidMet_laidAll _ (by kernel_rfl) (by kernel_rfl)
theorem iface_cell {P : Program} {w : World} {fuel : Nat} {t : TypeId} {ms : Array (String × TypeId)} {cs : List Value} {name : String} {d : DataW Unit} {p : List MemPlace} (ht : P.underlying t = some (.interface ms))
    (h : DataW.trod (fun _ => ()) P w 0 (fun _ => true) false fuel t cs = some (.iface name d, p)) : ∃ u v, cs = [.iface u v] := by
  cases fuel with
  | zero => simp [DataW.trod] at h
  | succ n =>
    unfold DataW.trod at h
    rw [ht] at h
    split at h <;> simp_all
theorem gl_iface {W : World} {n : String} {g : Nat} {t : TypeId} {ms : Array (String × TypeId)} {name : String} {d : DataW Unit} (hg : Tryz.prog.globalNamed n = some g) (ht : (Tryz.prog.globals[g]?).map (·.type) = some t) (hu : Tryz.prog.underlying t = some (.interface ms))
    (h : Lib.VarReads Tryz.prog W n (.iface name d)) : ∃ te pe, W.cell? ⟨g, 0, none⟩ = some (.iface te pe) := by
  obtain ⟨g', t', cs, fuel, p, hg', ht', hv, hd⟩ := h
  obtain rfl := Option.some.inj (hg.symm.trans hg')
  obtain rfl := Option.some.inj (ht.symm.trans ht')
  obtain ⟨u, v, hc⟩ := iface_cell hu hd
  have := World.var?_cell hg hv 0
  rw [Array.eq_one_of_toList hc] at this
  exact ⟨u, v, by simpa using this⟩
theorem gl_of {W : World} (hL : laidMetH Tryz.prog Rows.objectMemoryUptoRow.laid W) (hs : W.ShapedOpen Tryz.prog) : Gl W := by
  have hgv := gv_of hL
  rw [MakeChecks.laidMetH_plain _ _ _ (by kernel_rfl)] at hL
  have r2 := Lib.laidMet.reads hL (n := "strconv.ErrRange") (d := Rows.laid_strconv_ErrRange) (.tail _ (.tail _ (.tail _ (.head _))))
  have r3 := Lib.laidMet.reads hL (n := "strconv.ErrSyntax") (d := Rows.laid_strconv_ErrSyntax) (.tail _ (.tail _ (.tail _ (.tail _ (.head _)))))
  refine ⟨?_, hgv.pow, gl_iface (t := 131) (by kernel_rfl) (by kernel_rfl) Tryz.underlying131 r3, gl_iface (t := 131) (by kernel_rfl) (by kernel_rfl) Tryz.underlying131 r2, ?_⟩
  · exact cell_of_shapedOpen_int (P := Tryz.prog) (g := 2) (t := 3) (zero := #[.int .i64 0]) hs (of_decide_eq_true (by kernel_rfl)) (by kernel_rfl) rfl (by kernel_rfl) (by kernel_rfl) Tryz.underlying3
  · have := hgv.lo
    omega

/-! Structs that came in -/
theorem take_one {l : List Value} {k : Nat} {v : Value} (h : (l.drop k).take 1 = [v]) : l[k]? = some v := by
  have := congrArg (fun q => q[0]?) h
  simpa using this
theorem ints_of {H : Type} {enc : TypeId × Value → H} {P : Program} {W : World} {base : Nat} {sp : Nat → Bool} {held : Bool} {t e : TypeId} {n fuel : Nat} {q : IntKind} (hu : P.underlying t = some (.array n e)) (he : P.underlying e = some (.int q)) (hce : P.cellsOf e = 1) (hct : P.cellsOf t = n)
    {cs : List Value} {x : DataW H × List MemPlace} (h : DataW.trod enc P W base sp held fuel t cs = some x) : ∃ l : List Int, cs = cellsK q l ∧ l.length = n ∧ ∀ y ∈ l, (Lit.int q y).wf = true := by
  obtain ⟨xs, m, -, -, hlen, hxl, hall⟩ := DataW.trod_array hu h
  rw [hct] at hlen
  have hat : ∀ i, i < n → ∃ a, cs[i]? = some (.int q a) ∧ (Lit.int q a).wf = true := fun i hi => by
    have h1 := hall i hi
    rw [hce, Nat.mul_one, List.getElem?_eq_getElem (by omega)] at h1
    obtain ⟨a, ea, _, wa⟩ := DataW.trod_int he h1
    exact ⟨a, take_one ea, wa⟩
  refine ⟨cs.map intOf, ?_, by simpa using hlen, fun y hy => ?_⟩
  · unfold cellsK
    rw [List.map_map]
    apply List.ext_getElem?
    intro i
    rcases Nat.lt_or_ge i n with h | h
    · obtain ⟨a, ha, _⟩ := hat i h
      simp only [List.getElem?_map, ha, Option.map_some]
      rfl
    · simp [List.getElem?_eq_none (show cs.length ≤ i by omega)]
  · obtain ⟨z, hz, rfl⟩ := List.mem_map.1 hy
    obtain ⟨i, hi, rfl⟩ := List.getElem_of_mem hz
    obtain ⟨a, ha, wa⟩ := hat i (by omega)
    rw [List.getElem?_eq_getElem hi] at ha
    rw [Option.some.inj ha]
    exact wa
theorem idt_of_trod {H : Type} {enc : TypeId × Value → H} {W : World} {base : Nat} {sp : Nat → Bool} {held : Bool} {fuel : Nat} {cs : List Value} {x : DataW H × List MemPlace} (h : DataW.trod enc Tryz.prog W base sp held fuel 38 cs = some x) : ∃ i : Idt, cs = igL i := by
  obtain ⟨ys, n, -, he, hlen, hy, hall⟩ := DataW.trod_struct Tryz.underlying38 h
  have hc : Tryz.prog.cellsOf 38 = 4 := by kernel_rfl
  rw [hc] at hlen
  match ys, hy with
  | [y0, y1, y2, y3], _ =>
    have c0 : Tryz.prog.cellsOf 3 = 1 := by kernel_rfl
    have c1 : Tryz.prog.cellsOf 9 = 1 := by kernel_rfl
    have h0 : DataW.trod enc Tryz.prog W base sp held n 9 ((cs.drop 0).take (Tryz.prog.cellsOf 9)) = some y0 := hall 0 _ rfl
    have h1 : DataW.trod enc Tryz.prog W base sp held n 9 ((cs.drop 1).take (Tryz.prog.cellsOf 9)) = some y1 := hall 1 _ rfl
    have h2 : DataW.trod enc Tryz.prog W base sp held n 3 ((cs.drop 2).take (Tryz.prog.cellsOf 3)) = some y2 := hall 2 _ rfl
    have h3 : DataW.trod enc Tryz.prog W base sp held n 3 ((cs.drop 3).take (Tryz.prog.cellsOf 3)) = some y3 := hall 3 _ rfl
    rw [c1] at h0 h1
    rw [c0] at h2 h3
    obtain ⟨nm, e0, -⟩ := DataW.trod_string Tryz.underlying9 h0
    obtain ⟨em, e1, -⟩ := DataW.trod_string Tryz.underlying9 h1
    obtain ⟨tm, e2, -⟩ := DataW.trod_int Tryz.underlying3 h2
    obtain ⟨zn, e3, -⟩ := DataW.trod_int Tryz.underlying3 h3
    have k0 := take_one e0
    have k1 := take_one e1
    have k2 := take_one e2
    have k3 := take_one e3
    refine ⟨⟨nm, em, tm, zn⟩, ?_⟩
    unfold igL
    apply List.ext_getElem?
    intro i
    match i with
    | 0 => rw [k0]; rfl
    | 1 => rw [k1]; rfl
    | 2 => rw [k2]; rfl
    | 3 => rw [k3]; rfl
    | i + 4 => rw [List.getElem?_eq_none (by omega), List.getElem?_eq_none (by simp)]
theorem cells_get {w : World} {base : Nat} {a : Addr} {n : Nat} {cs : List Value} (h : w.cells? base a n = some cs) (j : Nat) (u : Value) (hu : cs[j]? = some u) : w.cell? (a.add j) = some u := by
  unfold World.cells? at h
  split at h
  · have hl : cs.length = n := by simpa using mapM_some_length h
    have hj : j < n := by
      rcases Nat.lt_or_ge j cs.length with h' | h'
      · omega
      · rw [List.getElem?_eq_none h'] at hu
        cases hu
    have := mapM_some_get h j j (by simp [hj])
    rw [this, hu]
  · cases h
theorem cellsI : Tryz.prog.cellsOf 31 = 32 := by kernel_rfl
theorem bulk_pos {H : Type} (d : DataW H) : 1 ≤ Rows.uptoBulk d := by
  cases d with
  | lit l => cases l <;> simp [Rows.uptoBulk]
  | _ => simp [Rows.uptoBulk]
theorem bulk_len {H : Type} : ∀ (L : List (DataW H)), L.length ≤ Rows.uptoBulkAll L
  | [] => by simp
  | d :: L => by
    have h1 := bulk_pos d
    have h2 := bulk_len L
    rw [Rows.uptoBulkAll, List.length_cons]
    omega
theorem ids_of_trod {H : Type} {enc : TypeId × Value → H} {W : World} {held : Bool} {fuel : Nat} {cs : List Value} {x : DataW H × List MemPlace} (h : DataW.trod enc Tryz.prog W 0 (fun _ => true) held fuel 36 cs = some x) : ∃ pv ps, cs = [pv] ∧ RdP W pv ps ∧ ps.length ≤ Rows.uptoBulk x.1 := by
  have c8 : Tryz.prog.cellsOf 5 = 1 := by kernel_rfl
  rcases open_slice Tryz.underlying36 h with ⟨hcs, -⟩ | ⟨xa, l, c, m, n, D, Pl, hcs, -, hl, hm, hmm, hx, hr⟩
  · exact ⟨_, [], hcs, RdP.nil W, Nat.zero_le _⟩
  · simp only [if_true] at hmm
    subst hmm
    have hrow : ∀ i, ∃ r : List Int, i < l → IdOk r ∧ (∀ k u, (cellsK .u8 r)[k]? = some u → W.cell? ((xa.add (i * 32)).add k) = some u) := fun i => by
      by_cases hi : i < l
      · obtain ⟨cs', h1, h2⟩ := hr i (by omega)
        rw [cellsI] at h1
        obtain ⟨r, rfl, h3, h4⟩ := ints_of Tryz.underlying31 Tryz.underlying5 c8 cellsI h2
        exact ⟨r, fun _ => ⟨⟨h3, fun y hy => by have := bounds_u8 (h4 y hy); omega⟩, fun k u hu => cells_get h1 k u hu⟩⟩
      · exact ⟨[], fun h => absurd h hi⟩
    obtain ⟨f, hfr⟩ := Classical.skolem.1 hrow
    have hlen : ((List.range l).map f).length = l := by simp
    have hd' : x.1 = .slice ((List.range l).map D) ((List.range (m - l)).map fun j => D (l + j)) := congrArg Prod.fst hx
    have hbl := bulk_len ((List.range l).map D)
    rw [List.length_map, List.length_range] at hbl
    refine ⟨_, (List.range l).map f, hcs, ⟨some xa, m, by rw [hlen], by rw [hlen]; exact hl, fun r hr => ?_, fun h0 => ?_⟩, by rw [hlen, hd', Rows.uptoBulk]; omega⟩
    · obtain ⟨i, hi, rfl⟩ := List.mem_map.1 hr
      exact (hfr i (List.mem_range.1 hi)).1
    · rw [hlen] at h0
      obtain ⟨b, off, spot⟩ := xa
      have h00 := (hfr 0 h0)
      have hl0 : (cellsK .u8 (f 0))[0]? = some (.int .u8 ((f 0).getD 0 0)) := by
        unfold cellsK
        rw [List.getElem?_map, List.getElem?_eq_getElem (by rw [h00.1.1]; omega)]
        simp [List.getD, List.getElem?_eq_getElem (show 0 < (f 0).length by rw [h00.1.1]; omega)]
      have hc0 := h00.2 0 _ hl0
      have hspot : spot = none := by simpa [Addr.add] using World.cell?_spot hc0
      subst hspot
      refine ⟨b, off, rfl, ?_, fun i hi k u hu => ?_⟩
      · simp only [Nat.zero_mul, add_plain, Nat.add_zero] at hc0
        rcases Nat.lt_or_ge b W.heap.size with h' | h'
        · exact h'
        · simp [World.cell?, Array.getElem?_eq_none h'] at hc0
      · rw [hlen] at hi
        rw [List.getElem_map, List.getElem_range] at hu
        have := (hfr i hi).2 k u hu
        simpa only [add_plain] using this
set_option maxRecDepth 100000 in
theorem snap_of_trod {H : Type} {enc : TypeId × Value → H} {W : World} {held : Bool} {fuel : Nat} {cs : List Value} {x : DataW H × List MemPlace} (h : DataW.trod enc Tryz.prog W 0 (fun _ => true) held fuel 40 cs = some x)
    (hw : ∀ n ∈ x.1.weights Tryz.prog 40, n ≤ reachBytes) : ∃ (c : CmC) (pv : Value), c.ok ∧ cs = c.l pv ∧ RdP W pv c.ps ∧ c.ps.length ≤ Rows.uptoBulk x.1 := by
  obtain ⟨ys, n, -, he, hlen, hy, hall⟩ := DataW.trod_struct Tryz.underlying40 h
  have hc : Tryz.prog.cellsOf 40 = 42 := by kernel_rfl
  rw [hc] at hlen
  match ys, hy with
  | [y0, y1, y2, y3, y4], _ =>
    have c0 : Tryz.prog.cellsOf 36 = 1 := by kernel_rfl
    have c1 : Tryz.prog.cellsOf 9 = 1 := by kernel_rfl
    have c3 : Tryz.prog.cellsOf 38 = 4 := by kernel_rfl
    have c8 : Tryz.prog.cellsOf 5 = 1 := by kernel_rfl
    have h0 : DataW.trod enc Tryz.prog W 0 (fun _ => true) held n 31 ((cs.drop 0).take (Tryz.prog.cellsOf 31)) = some y0 := hall 0 _ rfl
    have h1 : DataW.trod enc Tryz.prog W 0 (fun _ => true) held n 36 ((cs.drop 32).take (Tryz.prog.cellsOf 36)) = some y1 := hall 1 _ rfl
    have h2 : DataW.trod enc Tryz.prog W 0 (fun _ => true) held n 38 ((cs.drop 33).take (Tryz.prog.cellsOf 38)) = some y2 := hall 2 _ rfl
    have h3 : DataW.trod enc Tryz.prog W 0 (fun _ => true) held n 38 ((cs.drop 37).take (Tryz.prog.cellsOf 38)) = some y3 := hall 3 _ rfl
    have h4 : DataW.trod enc Tryz.prog W 0 (fun _ => true) held n 9 ((cs.drop 41).take (Tryz.prog.cellsOf 9)) = some y4 := hall 4 _ rfl
    rw [c0] at h1
    rw [c1] at h4
    obtain ⟨l, e0, hl, wl⟩ := ints_of Tryz.underlying31 Tryz.underlying5 c8 cellsI h0
    obtain ⟨pv, ps, e1, hps, hpl⟩ := ids_of_trod h1
    obtain ⟨ia, e2⟩ := idt_of_trod h2
    obtain ⟨ic, e3⟩ := idt_of_trod h3
    obtain ⟨ms, e4, x4, w4⟩ := DataW.trod_string Tryz.underlying9 h4
    rw [cellsI] at e0
    rw [c3] at e2 e3
    have hnb : ms.size ≤ reachBytes := by
      subst he
      subst x4
      rw [Lib.size_eq]
      refine hw _ ?_
      simp [DataW.weights, Tryz.underlying40, DataW.weightsEach]
    have hpb : ps.length ≤ Rows.uptoBulk x.1 := by
      subst he
      simp [Rows.uptoBulk, Rows.uptoBulkAll]
      omega
    have hrb := reachBytes_lt
    have hpo : ∀ p ∈ ps, IdOk p := by obtain ⟨_, _, _, _, h, _⟩ := hps; exact h
    refine ⟨⟨l, ps, ia, ic, ms⟩, pv, ⟨⟨hl, fun y hy => by have := bounds_u8 (wl y hy); omega⟩, hpo, by simp only; omega⟩, ?_, hps, hpb⟩
    have k1 := take_one e1
    have k4 := take_one e4
    have t0 : cs = cs.take 32 ++ cs.drop 32 := (List.take_append_drop 32 cs).symm
    have d1 : cs.drop 32 = pv :: (igL ia ++ (igL ic ++ [.string ms])) := by
      rw [List.drop_eq_getElem_cons (by omega)]
      rw [List.getElem?_eq_getElem (by omega)] at k1
      rw [Option.some.inj k1]
      congr 1
      have t2 : cs.drop 33 = (cs.drop 33).take 4 ++ (cs.drop 33).drop 4 := (List.take_append_drop 4 _).symm
      rw [show 32 + 1 = 33 from rfl, t2, e2, List.drop_drop, show 33 + 4 = 37 from rfl]
      congr 1
      have t3 : cs.drop 37 = (cs.drop 37).take 4 ++ (cs.drop 37).drop 4 := (List.take_append_drop 4 _).symm
      rw [t3, e3, List.drop_drop, show 37 + 4 = 41 from rfl]
      congr 1
      rw [List.drop_eq_getElem_cons (by omega), List.drop_of_length_le (by omega)]
      rw [List.getElem?_eq_getElem (by omega)] at k4
      rw [Option.some.inj k4]
    unfold CmC.l CmC.tl
    rw [t0, d1]
    rw [List.drop_zero] at e0
    rw [e0]
    unfold igL
    simp
set_option maxRecDepth 100000 in
theorem arg_snap {H : Type} {enc : TypeId × Value → H} {W : World} {b0 : Nat} {held : Bool} {r : Reach} {v : Value} {d : DataW H} {ps : List MemPlace} {ts : List TypeId} {ds : List (DataW H)} {j : Nat}
    (hval : Value.okWide Tryz.prog W r b0 40 v) (hd : DataW.Trod enc Tryz.prog W 0 (fun _ => true) held 40 v d ps)
    (hsz : (DataW.weightsEach Tryz.prog ts ds).all (· ≤ reachBytes) = true) (ht : ts[j]? = some 40) (hdj : ds[j]? = some d) : ∃ (c : CmC) (pv : Value), v = .agg (c.l pv).toArray ∧ c.ok ∧ RdP W pv c.ps ∧ c.ps.length ≤ Rows.uptoBulk d := by
  obtain ⟨xs, rfl, -⟩ := okWide_struct Tryz.underlying40 hval
  obtain ⟨fuel, hf⟩ := hd
  obtain ⟨c, pv, hc, he, hp, hpl⟩ := snap_of_trod hf (fun n hn => by
    have := List.all_eq_true.1 hsz _ (DataW.weights_mem_each ht hdj n hn)
    simpa using this)
  refine ⟨c, pv, ?_, hc, hp, hpl⟩
  simp only [Value.cells] at he
  rw [← he]
def zeroSD {H : Type} : DataW H := .agg [.agg (List.replicate 32 (.lit (.int .u8 0))), .nil, .agg [.lit (.string []), .lit (.string []), .lit (.int .i64 0), .lit (.int .i64 0)], .agg [.lit (.string []), .lit (.string []), .lit (.int .i64 0), .lit (.int .i64 0)], .lit (.string [])]
set_option maxRecDepth 100000 in
theorem ent_of_trod {H : Type} {enc : TypeId × Value → H} {W : World} {base : Nat} {sp : Nat → Bool} {held : Bool} {fuel : Nat} {cs : List Value} {x : DataW H × List MemPlace} (h : DataW.trod enc Tryz.prog W base sp held fuel 33 cs = some x) (hb : Rows.uptoBulk x.1 ≤ 1048576) : ∃ r : EnC, r.ok ∧ cs = r.l ∧ r.nm.size + 1 ≤ Rows.uptoBulk x.1 := by
  obtain ⟨ys, n, -, he, hlen, hy, hall⟩ := DataW.trod_struct Tryz.underlying33 h
  have hc : Tryz.prog.cellsOf 33 = 34 := by kernel_rfl
  rw [hc] at hlen
  match ys, hy with
  | [y0, y1, y2], _ =>
    have c0 : Tryz.prog.cellsOf 3 = 1 := by kernel_rfl
    have c1 : Tryz.prog.cellsOf 9 = 1 := by kernel_rfl
    have c2 : Tryz.prog.cellsOf 31 = 32 := by kernel_rfl
    have c8 : Tryz.prog.cellsOf 5 = 1 := by kernel_rfl
    have h0 : DataW.trod enc Tryz.prog W base sp held n 3 ((cs.drop 0).take (Tryz.prog.cellsOf 3)) = some y0 := hall 0 _ rfl
    have h1 : DataW.trod enc Tryz.prog W base sp held n 9 ((cs.drop 1).take (Tryz.prog.cellsOf 9)) = some y1 := hall 1 _ rfl
    have h2 : DataW.trod enc Tryz.prog W base sp held n 31 ((cs.drop 2).take (Tryz.prog.cellsOf 31)) = some y2 := hall 2 _ rfl
    rw [c0] at h0
    rw [c1] at h1
    obtain ⟨m, e0, -, w0⟩ := DataW.trod_int Tryz.underlying3 h0
    obtain ⟨nm, e1, x1, w1⟩ := DataW.trod_string Tryz.underlying9 h1
    obtain ⟨l, e2, hl, wl⟩ := ints_of Tryz.underlying31 Tryz.underlying5 c8 c2 h2
    rw [c2] at e2
    have b0 := bounds_i64 w0
    have hnb : nm.size + 1 ≤ Rows.uptoBulk x.1 := by
      subst he
      subst x1
      simp only [List.map_cons, List.map_nil, Rows.uptoBulk, Rows.uptoBulkAll]
      rw [Lib.size_eq]
      omega
    refine ⟨⟨m, nm, l⟩, ⟨hl, fun y hy => by have := bounds_u8 (wl y hy); omega, by simp only; omega, by simp only; omega, by simp only; omega⟩, ?_, hnb⟩
    · have k0 := take_one e0
      have k1 := take_one e1
      unfold EnC.l
      rw [← e2]
      apply List.ext_getElem?
      intro i
      match i with
      | 0 => simpa using k0
      | 1 => simpa using k1
      | i + 2 =>
        simp only [List.getElem?_cons_succ]
        rcases Nat.lt_or_ge i 32 with hi | hi
        · rw [List.getElem?_take_of_lt hi, List.getElem?_drop, Nat.add_comm]
        · rw [List.getElem?_eq_none (by omega), List.getElem?_eq_none (by rw [List.length_take]; omega)]
theorem cellsE : Tryz.prog.cellsOf 33 = 34 := by kernel_rfl
theorem ents_bulk {H : Type} (f : Nat → EnC) (D : Nat → DataW H) : ∀ (L : List Nat), (∀ i ∈ L, (f i).nm.size + 1 ≤ Rows.uptoBulk (D i)) → tsF (L.map f) ≤ 60 * (Rows.uptoBulkAll (L.map D) : Nat) ∧ L.length ≤ Rows.uptoBulkAll (L.map D) ∧ ∀ i ∈ L, (f i).nm.size ≤ Rows.uptoBulkAll (L.map D)
  | [], _ => ⟨by simp [tsF, Rows.uptoBulkAll], by simp, (fun i hi => by cases hi)⟩
  | i :: L, h => by
    obtain ⟨i1, i2, i3⟩ := ents_bulk f D L (fun j hj => h j (List.mem_cons_of_mem _ hj))
    have h1 := h i List.mem_cons_self
    have h2 := (octS_size (f i).m).2.1
    have e1 : tsF ((i :: L).map f) = (((octS (f i).m).length : Int) + 1 + ((f i).nm.size : Int) + 1 + 32) + tsF (L.map f) := by unfold tsF; rw [List.map_cons, List.map_cons, List.sum_cons]
    have e2 : Rows.uptoBulkAll ((i :: L).map D) = Rows.uptoBulk (D i) + Rows.uptoBulkAll (L.map D) := by rw [List.map_cons, Rows.uptoBulkAll]
    rw [e1, e2, List.length_cons]
    refine ⟨by omega, by omega, fun j hj => ?_⟩
    rcases List.mem_cons.1 hj with rfl | hj
    · omega
    · have := i3 j hj; omega
theorem bulk_mem {H : Type} (D : Nat → DataW H) : ∀ (L : List Nat), ∀ i ∈ L, Rows.uptoBulk (D i) ≤ Rows.uptoBulkAll (L.map D)
  | j :: L, i, hi => by
    rw [List.map_cons, Rows.uptoBulkAll]
    rcases List.mem_cons.1 hi with rfl | hi
    · omega
    · have := bulk_mem D L i hi; omega
theorem arg_ents {H : Type} {enc : TypeId × Value → H} {W : World} {held : Bool} {a : Option Addr} {len cap : Nat} {d : DataW H} {p : List MemPlace}
    (h : ∃ fuel, DataW.trod enc Tryz.prog W 0 (fun _ => true) held fuel 35 (Value.slice a len cap).cells.toList = some (d, p))
    (hk : Rows.uptoBulk d ≤ 1048576) : ∃ es, RdE W (.slice a len cap) es ∧ es.length ≤ 1048576 ∧ tsF es ≤ 100000000 ∧ ∀ e ∈ es, e.nm.size ≤ 1048576 := by
  obtain ⟨fuel, hf⟩ := h
  rcases open_slice Tryz.underlying35 hf with ⟨hcs, -⟩ | ⟨x, l, c, m, n, D, Pl, hcs, -, hl, hm, hmm, hx, hr⟩
  · simp [Value.cells] at hcs
    obtain ⟨rfl, rfl, rfl⟩ := hcs
    exact ⟨[], (OwnE.nil W 0).rdE, by simp, by simp [tsF], (fun _ h => by cases h)⟩
  · simp [Value.cells] at hcs
    obtain ⟨rfl, rfl, rfl⟩ := hcs
    simp only [if_true] at hmm
    subst hmm
    have hd' : d = .slice ((List.range len).map D) ((List.range (m - len)).map fun j => D (len + j)) := congrArg Prod.fst hx
    rw [hd'] at hk
    simp only [Rows.uptoBulk] at hk
    have hrow : ∀ i, ∃ r : EnC, i < len → r.ok ∧ (∀ k u, r.l[k]? = some u → W.cell? ((x.add (i * 34)).add k) = some u) ∧ r.nm.size + 1 ≤ Rows.uptoBulk (D i) := fun i => by
      by_cases hi : i < len
      · obtain ⟨cs', h1, h2⟩ := hr i (by omega)
        rw [cellsE] at h1
        have hbi := bulk_mem D (List.range len) i (List.mem_range.2 hi)
        obtain ⟨r, h3, rfl, h4⟩ := ent_of_trod h2 (by simp only; omega)
        exact ⟨r, fun _ => ⟨h3, fun k u hu => cells_get h1 k u hu, h4⟩⟩
      · exact ⟨⟨0, ⟨#[]⟩, []⟩, fun h => absurd h hi⟩
    obtain ⟨f, hfr⟩ := Classical.skolem.1 hrow
    have hlen : ((List.range len).map f).length = len := by simp
    obtain ⟨u1, u2, u3⟩ := ents_bulk f D (List.range len) (fun i hi => (hfr i (by have := List.mem_range.1 hi; omega)).2.2)
    refine ⟨(List.range len).map f, ⟨some x, m, by rw [hlen], by rw [hlen]; exact hl, fun r hr => ?_, fun h0 => ?_⟩, by rw [hlen]; rw [List.length_range] at u2; omega, by omega, fun r hr => ?_⟩
    · obtain ⟨i, hi, rfl⟩ := List.mem_map.1 hr
      exact (hfr i (by have := List.mem_range.1 hi; omega)).1
    · rw [hlen] at h0
      obtain ⟨b, off, spot⟩ := x
      have hc0 := (hfr 0 (by omega)).2.1 0 (.int .i64 (f 0).m) rfl
      have hspot : spot = none := by simpa [Addr.add] using World.cell?_spot hc0
      subst hspot
      refine ⟨b, off, rfl, ?_, fun i hi k u hu => ?_⟩
      · simp only [Nat.zero_mul, add_plain, Nat.add_zero] at hc0
        rcases Nat.lt_or_ge b W.heap.size with h' | h'
        · exact h'
        · simp [World.cell?, Array.getElem?_eq_none h'] at hc0
      · rw [hlen] at hi
        rw [List.getElem_map, List.getElem_range] at hu
        have := (hfr i (by omega)).2.1 k u hu
        simpa only [add_plain] using this
    · obtain ⟨i, hi, rfl⟩ := List.mem_map.1 hr
      have := u3 i hi
      omega
end Go.Proofs.YtkbalngddlhlpaaGreatDoor
