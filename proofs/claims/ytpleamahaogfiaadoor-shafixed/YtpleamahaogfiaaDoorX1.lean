/-
  Walks: the law ShaFixed.
-/
import Derived.Test.YtpleamahaogfiaaDoorD2
import Derived.Test.YtpleamahaogfiaaDoorA
namespace Go.Proofs.YtpleamahaogfiaaDoor
open Go.RowKit

def bigE : ByteArray := { data := #[69, 51, 98, 48, 99, 52, 52, 50, 57, 56, 102, 99, 49, 99, 49, 52, 57, 97, 102, 98, 102, 52, 99, 56, 57, 57, 54, 102, 98, 57, 50, 52, 50, 55, 97, 101, 52, 49, 101, 52, 54, 52, 57, 98, 57, 51, 52, 99, 97, 52, 57, 53, 57, 57, 49, 98, 55, 56, 53, 50, 98, 56, 53, 53] }
theorem parF_bigE : parF bigE = z32 := by kernel_rfl
theorem parE_bigE : parE bigE = 4 := by kernel_rfl
set_option maxRecDepth 100000 in
theorem sum_none : digF (sumS ksK []).list = [227, 176, 196, 66, 152, 252, 28, 20, 154, 251, 244, 200, 153, 111, 185, 36, 39, 174, 65, 228, 100, 155, 147, 76, 164, 149, 153, 27, 120, 82, 184, 85] := by kernel_rfl
theorem hex_none : hexF (digF (sumS ksK []).list) = [101, 51, 98, 48, 99, 52, 52, 50, 57, 56, 102, 99, 49, 99, 49, 52, 57, 97, 102, 98, 102, 52, 99, 56, 57, 57, 54, 102, 98, 57, 50, 52, 50, 55, 97, 101, 52, 49, 101, 52, 54, 52, 57, 98, 57, 51, 52, 99, 97, 52, 57, 53, 57, 57, 49, 98, 55, 56, 53, 50, 98, 56, 53, 53] := by
  rw [sum_none]
  decide
theorem str_none : strOfNums [101, 51, 98, 48, 99, 52, 52, 50, 57, 56, 102, 99, 49, 99, 49, 52, 57, 97, 102, 98, 102, 52, 99, 56, 57, 57, 54, 102, 98, 57, 50, 52, 50, 55, 97, 101, 52, 49, 101, 52, 54, 52, 57, 98, 57, 51, 52, 99, 97, 52, 57, 53, 57, 57, 49, 98, 55, 56, 53, 50, 98, 56, 53, 53] = { data := #[101, 51, 98, 48, 99, 52, 52, 50, 57, 56, 102, 99, 49, 99, 49, 52, 57, 97, 102, 98, 102, 52, 99, 56, 57, 57, 54, 102, 98, 57, 50, 52, 50, 55, 97, 101, 52, 49, 101, 52, 54, 52, 57, 98, 57, 51, 52, 99, 97, 52, 57, 53, 57, 57, 49, 98, 55, 56, 53, 50, 98, 56, 53, 53] } := by kernel_rfl

set_option maxHeartbeats 2000000 in
set_option maxRecDepth 100000 in
theorem shaFixed_walk (w : World) (hB : Tab w ksK) : Calls Tryd.prog 8 #[] w fun e w' => e = .returned (.bool true) ∧ Below w.heap.size w w' := by
  have HB := Kept.mk hB
  have hn : 0 < w.heap.size := hB.1
  clear hB
  have HIZ : Kept ((Tryd.prog.info? 32).map (·.size) = some (cellsU8 z32).toArray.size) := ⟨rfl⟩
  have HOZ := Kept.mk (all_oneCell_toArray (cellsU8_one z32))
  have BB0 : Below w.heap.size w w := Below.refl _ _
  go_enter Tryd.func8, Tryd.ntmps8
  go_wp2_with fail
  refine Calls.mono (parse_any bigE _) (fun e w1 hp => ?_)
  obtain ⟨rfl, hb1⟩ := hp
  rw [parF_bigE, parE_bigE]
  generalize hva : Value.agg (cellsU8 z32).toArray = va
  have HVA := Kept.mk hva
  clear hva
  have HT : Kept ((w1.alloc (.cells (cellsU8 z32).toArray 32)).there w1.heap.size 0 (cellsU8 z32).toArray.size) := ⟨(alloc_blk8 w1 z32 32).there8 _ rfl⟩
  have BB1 : Below w.heap.size w ((w1.alloc (.cells #[.int .u8 0, .int .u8 0, .int .u8 0, .int .u8 0, .int .u8 0, .int .u8 0, .int .u8 0, .int .u8 0, .int .u8 0, .int .u8 0, .int .u8 0, .int .u8 0, .int .u8 0, .int .u8 0, .int .u8 0, .int .u8 0, .int .u8 0, .int .u8 0, .int .u8 0, .int .u8 0, .int .u8 0, .int .u8 0, .int .u8 0, .int .u8 0, .int .u8 0, .int .u8 0, .int .u8 0, .int .u8 0, .int .u8 0, .int .u8 0, .int .u8 0, .int .u8 0] 32)).setCells w1.heap.size 0 (cellsU8 z32)) := below_cells hb1.size _ 0 w _ (hb1.alloc hb1.size _)
  clear hb1 BB0
  go_upto_region 2 with (refine wpList_store_mid rfl 32 _ _ rfl w1.heap.size 0 (cellsU8 z32).toArray rfl HVA.out.symm HT.out HIZ.out HOZ.out ?_)
  generalize ((w1.alloc (.cells #[.int .u8 0, .int .u8 0, .int .u8 0, .int .u8 0, .int .u8 0, .int .u8 0, .int .u8 0, .int .u8 0, .int .u8 0, .int .u8 0, .int .u8 0, .int .u8 0, .int .u8 0, .int .u8 0, .int .u8 0, .int .u8 0, .int .u8 0, .int .u8 0, .int .u8 0, .int .u8 0, .int .u8 0, .int .u8 0, .int .u8 0, .int .u8 0, .int .u8 0, .int .u8 0, .int .u8 0, .int .u8 0, .int .u8 0, .int .u8 0, .int .u8 0, .int .u8 0] 32)).setCells w1.heap.size 0 (cellsU8 z32)) = w2 at *
  clear HT HVA HIZ HOZ
  go_wp2_with fail
  refine Calls.mono (awake_any w2 (HB.out.far BB1 hn)) (fun e w3 hp => ?_)
  obtain ⟨rfl, hb3⟩ := hp
  have BB3 : Below w.heap.size w w3 := BB1.trans (hb3.mono BB1.size)
  clear hb3 BB1
  go_wp2_with fail
  refine Calls.mono (sum_any _ [] ksK w3 (Rd.nil w3) ksK_length (HB.out.far BB3 hn)) (fun e w4 hp => ?_)
  obtain ⟨rfl, hb4⟩ := hp
  have BB4 : Below w.heap.size w w4 := BB3.trans (hb4.mono BB3.size)
  clear hb4 BB3
  go_wp2_with fail
  refine Calls.mono (hex_any _ _ (digF_length _) (digF_allB _)) (fun e w5 hp => ?_)
  obtain ⟨rfl, hb5⟩ := hp
  have BB5 : Below w.heap.size w w5 := BB4.trans (hb5.mono BB4.size)
  clear hb5 BB4
  rw [hex_none, str_none]
  go_wp2_with fail
  refine Calls.mono (pad_any (0) 0 _ (by decide) (by decide) (by decide)) (fun e w6 hp => ?_)
  obtain ⟨v6, rfl, ho6, hb6⟩ := hp
  have BB6 : Below w.heap.size w w6 := BB5.trans (hb6.mono BB5.size)
  obtain ⟨g6, c6, rfl, -⟩ := ho6.open (by rw [padF, padP_length]; omega)
  rw [show (padF 0).length = 64 from by rw [padF, padP_length]; decide]
  clear ho6 hb6 BB5
  go_wp2_with fail
  refine Calls.mono (pad_any (55) 55 _ (by decide) (by decide) (by decide)) (fun e w7 hp => ?_)
  obtain ⟨v7, rfl, ho7, hb7⟩ := hp
  have BB7 : Below w.heap.size w w7 := BB6.trans (hb7.mono BB6.size)
  obtain ⟨g7, c7, rfl, -⟩ := ho7.open (by rw [padF, padP_length]; omega)
  rw [show (padF 55).length = 9 from by rw [padF, padP_length]; decide]
  clear ho7 hb7 BB6
  go_wp2_with fail
  refine Calls.mono (pad_any (56) 56 _ (by decide) (by decide) (by decide)) (fun e w8 hp => ?_)
  obtain ⟨v8, rfl, ho8, hb8⟩ := hp
  have BB8 : Below w.heap.size w w8 := BB7.trans (hb8.mono BB7.size)
  obtain ⟨g8, c8, rfl, -⟩ := ho8.open (by rw [padF, padP_length]; omega)
  rw [show (padF 56).length = 72 from by rw [padF, padP_length]; decide]
  clear ho8 hb8 BB7
  go_wp2_with fail
  refine Calls.mono (pad_any (-5) 0 _ (by decide) (by decide) (by decide)) (fun e w9 hp => ?_)
  obtain ⟨v9, rfl, ho9, hb9⟩ := hp
  have BB9 : Below w.heap.size w w9 := BB8.trans (hb9.mono BB8.size)
  obtain ⟨g9, c9, rfl, -⟩ := ho9.open (by rw [padF, padP_length]; omega)
  rw [show (padF 0).length = 64 from by rw [padF, padP_length]; decide]
  clear ho9 hb9 BB8
  go_wp2_with fail
  refine Calls.mono (pad_any (9223372036854775807) 9223372036854775807 _ (by decide) (by decide) (by decide)) (fun e w10 hp => ?_)
  obtain ⟨v10, rfl, ho10, hb10⟩ := hp
  have BB10 : Below w.heap.size w w10 := BB9.trans (hb10.mono BB9.size)
  obtain ⟨g10, c10, rfl, -⟩ := ho10.open (by rw [padF, padP_length]; omega)
  rw [show (padF 9223372036854775807).length = 65 from by rw [padF, padP_length]; decide]
  clear ho10 hb10 BB9
  go_wp2
  go_ret
  exact ⟨rfl, BB10⟩
end Go.Proofs.YtpleamahaogfiaaDoor
