/-
  Walks: Clone, number, readFields.
-/
import Derived.Test.YtbagkmhhgngbcaaDoorN4
import Derived.Lib.AtoiErrMem
namespace Go.Proofs.YtbagkmhhgngbcaaDoor
open Go.RowKit

/-- The number that a text is read as. -/
def atoF (s : ByteArray) : Int := match Lib.atoiAll s.data.toList with
  | .ok v => v
  | .«syntax» => 0
  | .range => Lib.atoiSat s.data.toList

set_option maxHeartbeats 1000000 in
set_option maxRecDepth 100000 in
theorem clone_any (s : ByteArray) (w : World) (hs : s.size ≤ 281474976710656) : Calls Tryd.prog 57 #[.string s] w fun e w' => e = .returned (.string s) ∧ Below w.heap.size w w' := by
  have KC := Kept.mk (Tryd.stringslite_Clone s w hs)
  go_enter Tryd.func57, Tryd.ntmps57
  go_wp2_with fail
  refine Calls.mono KC.out (fun e w1 hp => ?_)
  obtain ⟨rfl, hb⟩ := hp
  have KB := Kept.mk hb
  clear hb
  go_wp2
  go_ret
  exact ⟨rfl, KB.out⟩
theorem below_bytes (w : World) (e : TypeId) (s : ByteArray) : Below w.heap.size w (Lib.bytesWorld w e s) := Lib.bytesWorld_below w e s
theorem atoi_any (s : ByteArray) (w : World) (hg : Gl w) (hs : s.size ≤ 281474976710656) : Calls Tryd.prog 72 #[.string s] w fun e w' => ∃ x, e = .returned (.tuple #[.int .i64 (atoF s), x]) ∧ Below w.heap.size w w' := by
  unfold atoF
  cases h : Lib.atoiAll s.data.toList with
  | ok v =>
    refine (Tryd.strconv_Atoi_ok s (by omega) v h w).mono fun e w' hp => ⟨_, hp.1, ?_⟩
    rcases hp.2 with rfl | ⟨t, rfl⟩
    · exact Below.refl _ _
    · exact below_bytes w 5 t
  | «syntax» =>
    obtain ⟨te, pe, hv⟩ := hg.sy
    refine (Tryd.strconv_Atoi_syntax s hs h _ w hv (Or.inr ⟨te, pe, rfl⟩)).mono fun e w' hp => ?_
    obtain ⟨N, h1, -, -, h2⟩ := hp
    exact ⟨_, h1, h2⟩
  | range =>
    obtain ⟨te, pe, hv⟩ := hg.rg
    refine (Tryd.strconv_Atoi_range s hs h _ w hv (Or.inr ⟨te, pe, rfl⟩)).mono fun e w' hp => ?_
    obtain ⟨N, h1, -, -, h2⟩ := hp
    exact ⟨_, h1, h2⟩
set_option maxHeartbeats 1000000 in
set_option maxRecDepth 100000 in
theorem num_any (s : ByteArray) (w : World) (hg : Gl w) (hs : s.size ≤ 281474976710656) : Calls Tryd.prog 58 #[.string s] w fun e w' => e = .returned (.int .i64 (atoF s)) ∧ Below w.heap.size w w' := by
  have KA := Kept.mk (atoi_any s w hg hs)
  clear hg
  go_enter Tryd.func58, Tryd.ntmps58
  go_wp2_with fail
  refine Calls.mono KA.out (fun e w1 hp => ?_)
  obtain ⟨x, rfl, hb⟩ := hp
  have KB := Kept.mk hb
  clear hb
  go_wp2
  go_ret
  exact ⟨rfl, KB.out⟩

/-- The block of an ident. -/
def IB (w : World) (b : Nat) (i : Idt) : Prop := w.heap[b]? = some (.cells #[.string i.nm, .string i.em, .int .i64 i.tm, .int .i64 i.zn] 27)
section
variable {w : World} {b : Nat} {i : Idt}
theorem IB.lt (h : IB w b i) : b < w.heap.size := by
  rcases Nat.lt_or_ge b w.heap.size with h' | h'
  · exact h'
  · unfold IB at h
    rw [Array.getElem?_eq_none h'] at h
    cases h
theorem IB.c0 (h : IB w b i) : w.cell? ⟨b, 0, none⟩ = some (.string i.nm) := by unfold IB at h; simp [World.cell?, h]
theorem IB.c1 (h : IB w b i) : w.cell? ⟨b, 1, none⟩ = some (.string i.em) := by unfold IB at h; simp [World.cell?, h]
theorem IB.c2 (h : IB w b i) : w.cell? ⟨b, 2, none⟩ = some (.int .i64 i.tm) := by unfold IB at h; simp [World.cell?, h]
theorem IB.c3 (h : IB w b i) : w.cell? ⟨b, 3, none⟩ = some (.int .i64 i.zn) := by unfold IB at h; simp [World.cell?, h]
theorem IB.fz (h : IB w b i) (k : Nat) : w.frozen? ⟨b, k, none⟩ = false := by unfold IB at h; simp [World.frozen?, h]
theorem IB.far {w' : World} (h : IB w b i) (hb : w'.heap[b]? = w.heap[b]?) : IB w' b i := by
  unfold IB at h ⊢
  rw [hb]
  exact h
theorem IB.s0 (h : IB w b i) (n : ByteArray) : IB (w.setCell ⟨b, 0, none⟩ (.string n)) b { i with nm := n } := by
  unfold IB at h ⊢
  simp only [World.setCell, Array.getElem?_modify, h]
  simp
theorem IB.s1 (h : IB w b i) (n : ByteArray) : IB (w.setCell ⟨b, 1, none⟩ (.string n)) b { i with em := n } := by
  unfold IB at h ⊢
  simp only [World.setCell, Array.getElem?_modify, h]
  simp
theorem IB.s2 (h : IB w b i) (n : Int) : IB (w.setCell ⟨b, 2, none⟩ (.int .i64 n)) b { i with tm := n } := by
  unfold IB at h ⊢
  simp only [World.setCell, Array.getElem?_modify, h]
  simp
theorem IB.s3 (h : IB w b i) (n : Int) : IB (w.setCell ⟨b, 3, none⟩ (.int .i64 n)) b { i with zn := n } := by
  unfold IB at h ⊢
  simp only [World.setCell, Array.getElem?_modify, h]
  simp
end
/-- The parts of a text, cut at a sign. -/
def c1B (s : ByteArray) (sep : List UInt8) : ByteArray := ⟨(Lib.cut s.data.toList sep).1.toArray⟩
def c2B (s : ByteArray) (sep : List UInt8) : ByteArray := ⟨(Lib.cut s.data.toList sep).2.1.toArray⟩
/-- What the fields of a text are read as. -/
def rfF (s : ByteArray) : Idt :=
  ⟨c1B s [32, 60], c1B (c2B s [32, 60]) [62, 32], atoF (c1B (c2B (c2B s [32, 60]) [62, 32]) [32]),
    wrap64 (wrap64 (wrap64 ((atoF (c2B (c2B (c2B s [32, 60]) [62, 32]) [32])).tdiv 100) * 60) + (atoF (c2B (c2B (c2B s [32, 60]) [62, 32]) [32])).tmod 100)⟩
theorem cut_size (s : ByteArray) (sep : List UInt8) : (c1B s sep).size ≤ s.size ∧ (c2B s sep).size ≤ s.size := by
  unfold c1B c2B
  show (Lib.cut s.data.toList sep).1.toArray.size ≤ s.size ∧ (Lib.cut s.data.toList sep).2.1.toArray.size ≤ s.size
  rw [List.size_toArray, List.size_toArray, Lib.size_eq]
  unfold Lib.cut
  split
  · simp only [List.length_take, List.length_drop]
    omega
  · simp
theorem cut_any (s : ByteArray) (sep : Array UInt8) (w : World) (hg : Gl w) (hs : s.size < 4294967281) : Calls Tryd.prog 56 #[.string s, .string ⟨sep⟩] w fun e w' => ∃ f, e = .returned (.tuple #[.string (c1B s sep.toList), .string (c2B s sep.toList), .bool f]) ∧ ∃ n, w' = w.drewN n := by
  obtain ⟨m, hm⟩ := hg.mx
  exact (Tryd.strings_Cut s ⟨sep⟩ m w hs hm).mono fun e w' hp => ⟨_, hp.1, hp.2⟩
end Go.Proofs.YtbagkmhhgngbcaaDoor
