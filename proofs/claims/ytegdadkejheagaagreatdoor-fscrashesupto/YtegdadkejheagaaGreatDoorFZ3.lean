/-
  What the frames of fs' laws take: bytes that came in; what the package variables hold; the witness's world.
-/
import Derived.Test.YtegdadkejheagaaGreatDoorG21
import Derived.Deep.Slices
import Derived.WideKeyArr2
import Derived.Test.YtegdadkejheagaaGreatDoorRows
import Derived.Test.YtegdadkejheagaaGreatDoorCards
import Derived.Test.YtegdadkejheagaaGreatDoorTie
import Derived.Lay
import Derived.Lib.LaidTab
import Derived.Lib.LaidU8
import Derived.Shelf.Vars
import Derived.MakeChecks
import Derived.Deep.DeepHandedRow
import Derived.Deep.DeepWitnessRowRef
import Derived.ProofKit
import Derived.OpenShut
import Derived.ShutString
import Derived.ChangeOld
import Derived.Below
import Derived.SizedLaws
namespace Go.Proofs.YtegdadkejheagaaGreatDoor
open Go.ChangeShapes Go.WideShapes Go.ChangeAt Go.RowKit Go.Deep

theorem own : ownKnob Tryz.prog.godebug = none := by kernel_rfl
theorem laidOut : laidOutB Tryz.prog = true := by kernel_rfl
theorem cells_u8 : Tryz.prog.cellsOf 5 = 1 := by kernel_rfl
theorem bytes_u8 : Tryz.prog.bytesOf 5 = 1 := by kernel_rfl

theorem rd_of_row {w : World} {x : Addr} {len cap : Nat} {zs : List Int} (hl : len ≤ cap) (hm : cap ≤ maxLen) (hz : zs.length = cap)
    (hcell : ∀ i, i < zs.length → w.cell? (x.add i) = some (.int .u8 (zs.getD i 0))) (hwz : ∀ n ∈ zs, (Lit.int .u8 n).wf = true) : Rd .u8 anyB w (.slice (some x) len cap) (zs.take len) ∧ AllB (zs.take len) := by
  have hlen : (zs.take len).length = len := by simp; omega
  refine ⟨⟨some x, cap, by rw [hlen], by omega, hm, (fun h => by cases h), fun h0 => ?_⟩, fun z hz => ?_⟩
  · obtain ⟨b, off, spot⟩ := x
    have hc := hcell 0 (by omega)
    have hspot : spot = none := by simpa [Addr.add] using World.cell?_spot hc
    subst hspot
    refine ⟨b, off, rfl, ?_, trivial, fun i hi => ?_⟩
    · have hc0 : w.cell? ⟨b, off, none⟩ = some (.int .u8 (zs.getD 0 0)) := by simpa [Addr.add] using hc
      rcases Nat.lt_or_ge b w.heap.size with h | h
      · exact h
      · simp [World.cell?, Array.getElem?_eq_none h] at hc0
    · have := hcell i (by omega)
      rw [add_plain] at this
      rw [this]
      have hi' : i < len := by omega
      simp [List.getD, hi']
  · have := bounds_u8 (hwz z (List.mem_of_mem_take hz))
    omega

/-- A slice of bytes that came in: what it reads as, its datum, and that it lies within the form's reach. -/
theorem arg_bytes {H : Type} {enc : TypeId × Value → H} {W : World} {held : Bool} {a : Option Addr} {len cap : Nat} {d : DataW H} {p : List MemPlace} {ts : List TypeId} {ds : List (DataW H)} {j : Nat}
    (h : ∃ fuel, DataW.trod enc Tryz.prog W 0 (fun _ => true) held fuel 23 (Value.slice a len cap).cells.toList = some (d, p))
    (hsz : (DataW.weightsEach Tryz.prog ts ds).all (· ≤ reachBytes) = true) (ht : ts[j]? = some 23) (hd : ds[j]? = some d) :
    ∃ xs, Rd .u8 anyB W (.slice a len cap) xs ∧ AllB xs ∧ xs.length + 4096 ≤ 140737488355328 ∧ (d = .nil ∨ ∃ sp, d = .slice (lits .u8 xs) sp) := by
  obtain ⟨fuel, hf⟩ := h
  rcases open_ints Tryz.underlying23 Tryz.underlying5 cells_u8 hf with ⟨hcs, hx⟩ | ⟨x, l, c, zs, hcs, _, hl, hm, hz, hx, hcell, hwz⟩
  · simp [Value.cells] at hcs
    obtain ⟨rfl, rfl, rfl⟩ := hcs
    exact ⟨[], Rd.nil _ _ W, AllIn.nil, by simp, Or.inl (congrArg Prod.fst hx)⟩
  · simp [Value.cells] at hcs
    obtain ⟨rfl, rfl, rfl⟩ := hcs
    have hd' : d = .slice (lits .u8 (zs.take len)) (lits .u8 (zs.drop len)) := congrArg Prod.fst hx
    subst hd'
    have hr := sized_slice hsz (j := j) (t := 23) (e := 5) ht hd Tryz.underlying23
    rw [bytes_u8] at hr
    obtain ⟨h1, h2⟩ := rd_of_row hl hm (by simpa using hz) hcell hwz
    refine ⟨zs.take len, h1, h2, ?_, Or.inr ⟨_, rfl⟩⟩
    simp [lits, reachBytes] at hr
    simp
    omega

theorem gl_of {W : World} (hL : laidMetH Tryz.prog Rows.fsCrashesUptoRow.laid W) (hs : W.ShapedOpen Tryz.prog) : Gl W := by
  rw [MakeChecks.laidMetH_plain _ _ _ (by kernel_rfl)] at hL
  have r3 := Lib.laidMet.reads hL (n := "unicode/utf8.acceptRanges") (d := Rows.laid_unicode_utf8_acceptRanges) (.head _)
  refine ⟨?_, ?_⟩
  · exact cell_of_shapedOpen_int (P := Tryz.prog) (g := 0) (t := 3) (zero := #[.int .i64 0]) hs (of_decide_eq_true (by kernel_rfl)) (by kernel_rfl) rfl (by kernel_rfl) (by kernel_rfl) Tryz.underlying3
  · obtain ⟨g', t', cs, fuel, p, hg', ht', hv, hd⟩ := r3
    obtain rfl := Option.some.inj ((show Tryz.prog.globalNamed "unicode/utf8.acceptRanges" = some 2 by kernel_rfl).symm.trans hg')
    rcases Nat.lt_or_ge 2 W.heap.size with h' | h'
    · omega
    · exfalso
      unfold World.var? at hv
      simp only [hg', Option.bind_some] at hv
      rw [Array.getElem?_eq_none h'] at hv
      simp at hv
/-- A world for the witness: the settled one, the listed variables laid. -/
noncomputable def laidWorld (os : Os) : World := World.laidAll Tryz.prog os Rows.fsCrashesUptoRow.laid
theorem laid_met (os : Os) (args : Array Value) : laidMetH Tryz.prog Rows.fsCrashesUptoRow.laid ((laidWorld os).forCall (fun _ _ => 0) ⟨#[], args, []⟩).memory := by
  rw [MakeChecks.laidMetH_plain _ _ _ (by kernel_rfl)]
  exact laidMet_laidAll _ (by kernel_rfl) (by kernel_rfl)

theorem take_one {l : List Value} {k : Nat} {v : Value} (h : (l.drop k).take 1 = [v]) : l[k]? = some v := by
  have := congrArg (fun x : List Value => x[0]?) h
  simpa using this
theorem cells_get {w : World} {base : Nat} {a : Addr} {n : Nat} {cs : List Value} (h : w.cells? base a n = some cs) (j : Nat) (u : Value) (hu : cs[j]? = some u) : w.cell? (a.add j) = some u := by
  unfold World.cells? at h
  split at h
  · have hl : cs.length = n := by simpa using mapM_some_length h
    have hj : j < n := by
      rcases Nat.lt_or_ge j cs.length with h' | h'
      · omega
      · rw [List.getElem?_eq_none h'] at hu
        cases hu
    have := mapM_some_get h j j (by simp [hj])
    rw [this, hu]
  · cases h
theorem bytes_of_trod {H : Type} {enc : TypeId × Value → H} {W : World} {held : Bool} {fuel : Nat} {cs : List Value} {x : DataW H × List MemPlace} (h : DataW.trod enc Tryz.prog W 0 (fun _ => true) held fuel 23 cs = some x) : ∃ v xs, cs = [v] ∧ Rd .u8 anyB W v xs ∧ AllB xs := by
  rcases open_ints Tryz.underlying23 Tryz.underlying5 cells_u8 h with ⟨hcs, -⟩ | ⟨x, l, c, zs, hcs, _, hl, hm, hz, hx, hcell, hwz⟩
  · exact ⟨_, [], hcs, Rd.nil _ _ W, AllIn.nil⟩
  · obtain ⟨h1, h2⟩ := rd_of_row hl hm (by simpa using hz) hcell hwz
    exact ⟨_, zs.take l, hcs, h1, h2⟩
set_option maxRecDepth 100000 in
theorem call_of_trod {H : Type} {enc : TypeId × Value → H} {W : World} {held : Bool} {fuel : Nat} {cs : List Value} {x : DataW H × List MemPlace} (h : DataW.trod enc Tryz.prog W 0 (fun _ => true) held fuel 38 cs = some x)
    (hw : ∀ n ∈ x.1.weights Tryz.prog 38, n ≤ reachBytes) : ∃ r : ClM, r.ok W ∧ cs = r.l ∧ r.c.path.size ≤ Rows.uptoBulk x.1 ∧ r.c.dst.size ≤ Rows.uptoBulk x.1 := by
  obtain ⟨ys, n, -, he, hlen, hy, hall⟩ := DataW.trod_struct Tryz.underlying38 h
  have hc : Tryz.prog.cellsOf 38 = 4 := by kernel_rfl
  rw [hc] at hlen
  match ys, hy with
  | [y0, y1, y2, y3], _ =>
    have c0 : Tryz.prog.cellsOf 3 = 1 := by kernel_rfl
    have c1 : Tryz.prog.cellsOf 9 = 1 := by kernel_rfl
    have c3 : Tryz.prog.cellsOf 23 = 1 := by kernel_rfl
    have h0 : DataW.trod enc Tryz.prog W 0 (fun _ => true) held n 3 ((cs.drop 0).take (Tryz.prog.cellsOf 3)) = some y0 := hall 0 _ rfl
    have h1 : DataW.trod enc Tryz.prog W 0 (fun _ => true) held n 9 ((cs.drop 1).take (Tryz.prog.cellsOf 9)) = some y1 := hall 1 _ rfl
    have h2 : DataW.trod enc Tryz.prog W 0 (fun _ => true) held n 9 ((cs.drop 2).take (Tryz.prog.cellsOf 9)) = some y2 := hall 2 _ rfl
    have h3 : DataW.trod enc Tryz.prog W 0 (fun _ => true) held n 23 ((cs.drop 3).take (Tryz.prog.cellsOf 23)) = some y3 := hall 3 _ rfl
    rw [c0] at h0
    rw [c1] at h1 h2
    rw [c3] at h3
    obtain ⟨k, e0, -, w0⟩ := DataW.trod_int Tryz.underlying3 h0
    obtain ⟨pt, e1, x1, w1⟩ := DataW.trod_string Tryz.underlying9 h1
    obtain ⟨pto, e2, x2, w2⟩ := DataW.trod_string Tryz.underlying9 h2
    obtain ⟨v, ys, e3, hrd, hab⟩ := bytes_of_trod h3
    have b0 := bounds_i64 w0
    have hnb : pt.size ≤ reachBytes := by
      subst he
      subst x1
      rw [Lib.size_eq]
      refine hw _ ?_
      simp [DataW.weights, Tryz.underlying38, DataW.weightsEach]
    have hbp : pt.size ≤ Rows.uptoBulk x.1 ∧ pto.size ≤ Rows.uptoBulk x.1 := by
      subst he
      subst x1
      subst x2
      simp only [List.map_cons, List.map_nil, Rows.uptoBulk, Rows.uptoBulkAll]
      rw [Lib.size_eq, Lib.size_eq]
      omega
    have hrb := reachBytes_lt
    refine ⟨⟨⟨k, pt, pto, ys⟩, v⟩, ⟨hrd, hab, by show pt.size ≤ maxLen; unfold maxLen; omega, by show _ ≤ k; omega, by show k < _; omega⟩, ?_, hbp⟩
    have k0 := take_one e0
    have k1 := take_one e1
    have k2 := take_one e2
    have k3 := take_one e3
    unfold ClM.l
    apply List.ext_getElem?
    intro i
    rcases Nat.lt_or_ge i 4 with hi | hi
    · have : i = 0 ∨ i = 1 ∨ i = 2 ∨ i = 3 := by omega
      rcases this with rfl | rfl | rfl | rfl
      · simpa using k0
      · simpa using k1
      · simpa using k2
      · simpa using k3
    · rw [List.getElem?_eq_none (by omega), List.getElem?_eq_none (by simp; omega)]
theorem cellsC : Tryz.prog.cellsOf 38 = 4 := by kernel_rfl
theorem bytesC : Tryz.prog.bytesOf 38 = 64 := by kernel_rfl
theorem weightsAll_mem {H : Type} {P : Program} {e : TypeId} {d : DataW H} {n : Nat} (hn : n ∈ d.weights P e) : ∀ {L : List (DataW H)}, d ∈ L → n ∈ DataW.weightsAll P e L
  | x :: L, h => by
    rw [DataW.weightsAll]
    rcases List.mem_cons.1 h with rfl | h
    · exact List.mem_append_left _ hn
    · exact List.mem_append_right _ (weightsAll_mem hn h)
theorem bulk_mem {H : Type} (D : Nat → DataW H) : ∀ (L : List Nat), ∀ i ∈ L, Rows.uptoBulk (D i) ≤ Rows.uptoBulkAll (L.map D)
  | j :: L, i, hi => by
    rw [List.map_cons, Rows.uptoBulkAll]
    rcases List.mem_cons.1 hi with rfl | hi
    · omega
    · have := bulk_mem D L i hi; omega
/-- A slice of calls that came in. -/
theorem arg_calls {H : Type} {enc : TypeId × Value → H} {W : World} {held : Bool} {a : Option Addr} {len cap : Nat} {d : DataW H} {p : List MemPlace} {ts : List TypeId} {ds : List (DataW H)} {j : Nat}
    (h : ∃ fuel, DataW.trod enc Tryz.prog W 0 (fun _ => true) held fuel 22 (Value.slice a len cap).cells.toList = some (d, p))
    (hsz : (DataW.weightsEach Tryz.prog ts ds).all (· ≤ reachBytes) = true) (ht : ts[j]? = some 22) (hdj : ds[j]? = some d) (hbk : Rows.uptoBulk d ≤ 1048576) : ∃ es, RdC W (.slice a len cap) es ∧ es.length ≤ 140737488355328 ∧ ∀ r ∈ es, r.c.path.size < 4294967281 ∧ r.c.dst.size < 4294967281 := by
  obtain ⟨fuel, hf⟩ := h
  have hw : ∀ n ∈ d.weights Tryz.prog 22, n ≤ reachBytes := fun n hn => by
    have := List.all_eq_true.1 hsz _ (DataW.weights_mem_each ht hdj n hn)
    simpa using this
  clear hsz ht hdj
  rcases open_slice Tryz.underlying22 hf with ⟨hcs, -⟩ | ⟨x, l, c, m, n, D, Pl, hcs, -, hl, hm, hmm, hx, hr⟩
  · simp [Value.cells] at hcs
    obtain ⟨rfl, rfl, rfl⟩ := hcs
    exact ⟨[], ⟨none, 0, rfl, Nat.le_refl _, by simp, fun h => by simp at h⟩, by simp, by simp⟩
  · simp [Value.cells] at hcs
    obtain ⟨rfl, rfl, rfl⟩ := hcs
    simp only [if_true] at hmm
    subst hmm
    have hd' : d = .slice ((List.range len).map D) ((List.range (m - len)).map fun j => D (len + j)) := congrArg Prod.fst hx
    rw [hd'] at hbk
    simp only [Rows.uptoBulk] at hbk
    subst hd'
    have hww : ∀ n ∈ ((((List.range len).map D).length + ((List.range (m - len)).map fun j => D (len + j)).length) * Tryz.prog.bytesOf 38 :: (DataW.weightsAll Tryz.prog 38 ((List.range len).map D) ++ DataW.weightsAll Tryz.prog 38 ((List.range (m - len)).map fun j => D (len + j)))), n ≤ reachBytes := fun n hn => hw n (by rw [DataW.weights, Tryz.underlying22]; exact hn)
    clear hw
    have hrb := reachBytes_lt
    have h0 := hww _ List.mem_cons_self
    rw [bytesC, List.length_map, List.length_range] at h0
    have hrow : ∀ i, ∃ r : ClM, i < len → r.ok W ∧ (∀ k u, r.l[k]? = some u → W.cell? ((x.add (i * 4)).add k) = some u) ∧ r.c.path.size < 4294967281 ∧ r.c.dst.size < 4294967281 := fun i => by
      by_cases hi : i < len
      · obtain ⟨cs', h1, h2⟩ := hr i (by omega)
        rw [cellsC] at h1
        have hbi := bulk_mem D (List.range len) i (List.mem_range.2 hi)
        obtain ⟨r, h3, rfl, h5, h6⟩ := call_of_trod h2 (fun n hn => hww n (List.mem_cons_of_mem _ (List.mem_append_left _ (weightsAll_mem hn (List.mem_map.2 ⟨i, List.mem_range.2 hi, rfl⟩)))))
        exact ⟨r, fun _ => ⟨h3, fun k u hu => cells_get h1 k u hu, by simp only at h5; omega, by simp only at h6; omega⟩⟩
      · exact ⟨⟨⟨0, ⟨#[]⟩, ⟨#[]⟩, []⟩, .slice none 0 0⟩, fun h => absurd h hi⟩
    obtain ⟨f, hfr⟩ := Classical.skolem.1 hrow
    have hlen : ((List.range len).map f).length = len := by simp
    refine ⟨(List.range len).map f, ⟨some x, m, by rw [hlen], by rw [hlen]; exact hl, fun r hr => ?_, fun h0 => ?_⟩, by rw [hlen]; omega, fun r hr => ?_⟩
    · obtain ⟨i, hi, rfl⟩ := List.mem_map.1 hr
      exact (hfr i (by have := List.mem_range.1 hi; omega)).1
    · rw [hlen] at h0
      obtain ⟨b, off, spot⟩ := x
      have hc0 := (hfr 0 (by omega)).2.1 0 (.int .i64 (f 0).c.kind) rfl
      have hspot : spot = none := by simpa [Addr.add] using World.cell?_spot hc0
      subst hspot
      refine ⟨b, off, rfl, ?_, fun i hi k u hu => ?_⟩
      · simp only [Nat.zero_mul, add_plain, Nat.add_zero] at hc0
        rcases Nat.lt_or_ge b W.heap.size with h' | h'
        · exact h'
        · simp [World.cell?, Array.getElem?_eq_none h'] at hc0
      · rw [hlen] at hi
        rw [List.getElem_map, List.getElem_range] at hu
        have := (hfr i (by omega)).2.1 k u hu
        simpa only [add_plain] using this
    · obtain ⟨i, hi, rfl⟩ := List.mem_map.1 hr
      exact (hfr i (by have := List.mem_range.1 hi; omega)).2.2
end Go.Proofs.YtegdadkejheagaaGreatDoor
