/-
  The sum of abc.
-/
import Derived.Test.YtpleamahaogfiaaDoorH
import Derived.Lib.SlBytesConst
namespace Go.Proofs.YtpleamahaogfiaaDoor
open Go.RowKit

/-- The table of the rounds. -/
def ksK : List Int := [1116352408, 1899447441, 3049323471, 3921009573, 961987163, 1508970993, 2453635748, 2870763221, 3624381080, 310598401, 607225278, 1426881987, 1925078388, 2162078206, 2614888103, 3248222580, 3835390401, 4022224774, 264347078, 604807628, 770255983, 1249150122, 1555081692, 1996064986, 2554220882, 2821834349, 2952996808, 3210313671, 3336571891, 3584528711, 113926993, 338241895, 666307205, 773529912, 1294757372, 1396182291, 1695183700, 1986661051, 2177026350, 2456956037, 2730485921, 2820302411, 3259730800, 3345764771, 3516065817, 3600352804, 4094571909, 275423344, 430227734, 506948616, 659060556, 883997877, 958139571, 1322822218, 1537002063, 1747873779, 1955562222, 2024104815, 2227730452, 2361852424, 2428436474, 2756734187, 3204031479, 3329325298]
theorem ksK_length : ksK.length = 64 := by decide
def abcB : List Int := [97, 98, 99, 128, 0, 0, 0, 0, 0, 0, 0, 0, 0, 0, 0, 0, 0, 0, 0, 0, 0, 0, 0, 0, 0, 0, 0, 0, 0, 0, 0, 0, 0, 0, 0, 0, 0, 0, 0, 0, 0, 0, 0, 0, 0, 0, 0, 0, 0, 0, 0, 0, 0, 0, 0, 0, 0, 0, 0, 0, 0, 0, 0, 24]
theorem last_abc : lastF [97, 98, 99] = abcB := by decide
set_option maxRecDepth 100000 in
theorem sch_abc : schF abcB 64 = [1633837952, 0, 0, 0, 0, 0, 0, 0, 0, 0, 0, 0, 0, 0, 0, 24, 1633837952, 983040, 2108187653, 1610613702, 1050508152, 25426944, 316456923, 3806512014, 3357629466, 3073800610, 3854317833, 845560923, 2636160359, 3968280267, 1881225380, 3552024379, 2482346367, 996719219, 2952069057, 4043988066, 176896406, 1924104970, 2483675966, 610538786, 2672279444, 4037431130, 1042573945, 657669027, 206005234, 2215296807, 2049510749, 106709978, 4215179723, 3430291419, 3118885940, 2845390439, 2226839261, 3256115900, 344409900, 2987358873, 4015503821, 3957764664, 2682456414, 2025622859, 2755645205, 1720397816, 4004225740, 313650667] := by kernel_rfl
set_option maxRecDepth 100000 in
theorem sum_abc : digF (sumS ksK [97, 98, 99]).list = [186, 120, 22, 191, 143, 1, 207, 234, 65, 65, 64, 222, 93, 174, 34, 35, 176, 3, 97, 163, 150, 23, 122, 156, 180, 16, 255, 97, 242, 0, 21, 173] := by kernel_rfl
theorem hex_abc : hexF (digF (sumS ksK [97, 98, 99]).list) = [98, 97, 55, 56, 49, 54, 98, 102, 56, 102, 48, 49, 99, 102, 101, 97, 52, 49, 52, 49, 52, 48, 100, 101, 53, 100, 97, 101, 50, 50, 50, 51, 98, 48, 48, 51, 54, 49, 97, 51, 57, 54, 49, 55, 55, 97, 57, 99, 98, 52, 49, 48, 102, 102, 54, 49, 102, 50, 48, 48, 49, 53, 97, 100] := by
  rw [sum_abc]
  decide
theorem str_abc : strOfNums [98, 97, 55, 56, 49, 54, 98, 102, 56, 102, 48, 49, 99, 102, 101, 97, 52, 49, 52, 49, 52, 48, 100, 101, 53, 100, 97, 101, 50, 50, 50, 51, 98, 48, 48, 51, 54, 49, 97, 51, 57, 54, 49, 55, 55, 97, 57, 99, 98, 52, 49, 48, 102, 102, 54, 49, 102, 50, 48, 48, 49, 53, 97, 100] = { data := #[98, 97, 55, 56, 49, 54, 98, 102, 56, 102, 48, 49, 99, 102, 101, 97, 52, 49, 52, 49, 52, 48, 100, 101, 53, 100, 97, 101, 50, 50, 50, 51, 98, 48, 48, 51, 54, 49, 97, 51, 57, 54, 49, 55, 55, 97, 57, 99, 98, 52, 49, 48, 102, 102, 54, 49, 102, 50, 48, 48, 49, 53, 97, 100] } := by kernel_rfl
theorem digF_allB (l : List Int) : AllB (digF l) := by
  intro x hx
  obtain ⟨i, _, rfl⟩ := List.mem_map.1 hx
  unfold digB
  omega
theorem digF_length (l : List Int) : (digF l).length = 32 := by simp [digF]

theorem rd_blockF (w : World) (arr : List Int) (t : TypeId) (fr : Nat × Nat) (hA : AllB arr) (hn : arr.length ≤ 1000000) : Rd (w.alloc (.cells (cellsU8 arr).toArray t fr)) (.slice (some ⟨w.heap.size, 0, none⟩) arr.length arr.length) arr := by
  refine ⟨some ⟨w.heap.size, 0, none⟩, arr.length, rfl, Nat.le_refl _, by unfold maxLen; omega, hA, (fun h => by cases h), fun _ => ⟨w.heap.size, 0, rfl, by simp, fun i hi => ?_⟩⟩
  rw [Nat.zero_add, cell_of_row _ w.heap.size i _ t fr (heap_alloc_new w _)]
  simp [cellsU8, List.getD, List.getElem?_eq_getElem hi]

set_option maxHeartbeats 400000 in
theorem awake_any (w : World) (hB : Tab w ksK) : Calls Tryd.prog 9 #[] w fun e w' => e = .returned (.bool true) ∧ Below w.heap.size w w' := by
  have HB := Kept.mk hB
  clear hB
  have hn : 0 < w.heap.size := HB.out.1
  have kc := fun (w : World) (C : Array Value) (n c : Nat) => Lib.run_convert_bytes_const (P := Tryd.prog) w 28 5 C n c Tryd.underlying28 Tryd.underlying5
  go_enter Tryd.func9, Tryd.ntmps9
  go_wp2_with fail
  have hbel : Below w.heap.size w (w.alloc (.cells #[.int .u8 97, .int .u8 98, .int .u8 99] 5 (3, 4))) := (Below.refl _ _).alloc (Nat.le_refl _) _
  refine Calls.mono (sum_any _ [97, 98, 99] ksK _ (rd_blockF w [97, 98, 99] 5 (3, 4) (by intro x hx; simp at hx; omega) (by decide)) ksK_length (HB.out.far hbel hn)) (fun e w1 hp => ?_)
  obtain ⟨rfl, hb1⟩ := hp
  have BB1 : Below w.heap.size w w1 := hbel.trans (hb1.mono (by simp))
  clear hb1 hbel
  go_wp2_with fail
  refine Calls.mono (hex_any _ _ (digF_length _) (digF_allB _)) (fun e w2 hp => ?_)
  obtain ⟨rfl, hb2⟩ := hp
  have BB2 : Below w.heap.size w w2 := BB1.trans (hb2.mono BB1.size)
  clear hb2 BB1
  rw [hex_abc, str_abc]
  go_wp2
  go_ret
  exact ⟨rfl, BB2⟩
end Go.Proofs.YtpleamahaogfiaaDoor
