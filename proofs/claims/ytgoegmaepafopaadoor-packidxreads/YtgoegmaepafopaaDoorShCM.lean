/-
  Walks: Compare.
-/
import Derived.Test.YtgoegmaepafopaaDoorShS
import Derived.Test.YtgoegmaepafopaaDoorShX2
import Derived.Lib.Bytealg
import Derived.Lib.BytesEntry
import Derived.Laws.Externs
namespace Go.Proofs.YtgoegmaepafopaaDoor.Sh
open Go.RowKit

def cmpZ : List Int → List Int → Int
  | [], [] => 0
  | [], _ :: _ => -1
  | _ :: _, [] => 1
  | a :: xs, b :: ys => if a < b then -1 else if b < a then 1 else cmpZ xs ys
theorem cmpZ_range (xs ys : List Int) : -1 ≤ cmpZ xs ys ∧ cmpZ xs ys ≤ 1 := by
  induction xs generalizing ys with
  | nil => cases ys <;> simp [cmpZ]
  | cons x xs ih =>
    cases ys with
    | nil => simp [cmpZ]
    | cons y ys =>
      have := ih ys
      unfold cmpZ
      split
      · omega
      · split
        · omega
        · exact this
theorem byte_lt {x y : Int} (hx : 0 ≤ x ∧ x < 256) (hy : 0 ≤ y ∧ y < 256) : (x.toNat.toUInt8 < y.toNat.toUInt8) ↔ x < y := by
  rw [UInt8.lt_iff_toNat_lt]
  simp
  omega
theorem cmp_bytes : ∀ {xs ys : List Int}, AllB xs → AllB ys → Lib.compareBytes (Lib.bytesOf xs) (Lib.bytesOf ys) = cmpZ xs ys
  | [], [], _, _ => rfl
  | [], _ :: _, _, _ => rfl
  | _ :: _, [], _, _ => rfl
  | x :: xs, y :: ys, hx, hy => by
    have ih := cmp_bytes (xs := xs) (ys := ys) (fun z hz => hx z (by simp [hz])) (fun z hz => hy z (by simp [hz]))
    have h1 := byte_lt (hx x (by simp)) (hy y (by simp))
    have h2 := byte_lt (hy y (by simp)) (hx x (by simp))
    show (if x.toNat.toUInt8 < y.toNat.toUInt8 then (-1 : Int) else if y.toNat.toUInt8 < x.toNat.toUInt8 then 1 else Lib.compareBytes (Lib.bytesOf xs) (Lib.bytesOf ys)) = _
    rw [ih, cmpZ]
    simp only [h1, h2]

theorem run_cmp {P : Program} (w : World) (b1 o1 c1 b2 o2 c2 : Nat) (xs ys : List Int) (hA : AllB xs) (hB : AllB ys) (h1 : ∀ i, i < xs.length → w.cell? ⟨b1, o1 + i, none⟩ = some (.int .u8 (xs.getD i 0))) (h2 : ∀ i, i < ys.length → w.cell? ⟨b2, o2 + i, none⟩ = some (.int .u8 (ys.getD i 0))) :
    (Extern.BytealgCompare.compare #[.slice (some ⟨b1, o1, none⟩) xs.length c1, .slice (some ⟨b2, o2, none⟩) ys.length c2]).run P w = .ok (.int .i64 (cmpZ xs ys)) w := by
  have e1 := Lib.run_loadBytesX (P := P) w xs ⟨b1, o1, none⟩ .empty (fun j x hj => by
    rw [add_plain]
    have hlt : j < xs.length := by
      rcases Nat.lt_or_ge j xs.length with h | h
      · exact h
      · rw [List.getElem?_eq_none h] at hj; cases hj
    rw [h1 j hlt]
    simp [List.getD, hj])
  have e2 := Lib.run_loadBytesX (P := P) w ys ⟨b2, o2, none⟩ .empty (fun j x hj => by
    rw [add_plain]
    have hlt : j < ys.length := by
      rcases Nat.lt_or_ge j ys.length with h | h
      · exact h
      · rw [List.getElem?_eq_none h] at hj; cases hj
    rw [h2 j hlt]
    simp [List.getD, hj])
  change Sem.run P (do pure (goInt (Extern.BytealgCompare.cmp (← Extern.Bytes.bytesOf (.slice (some ⟨b1, o1, none⟩) xs.length c1)) (← Extern.Bytes.bytesOf (.slice (some ⟨b2, o2, none⟩) ys.length c2))))) w = _
  simp only [Extern.Bytes.bytesOf, Sem.run_bind, Sem.run_pure, Result.andThen, e1, e2]
  rw [Lib.cmp_eq]
  have : ∀ l : List Int, (⟨ByteArray.empty.data ++ (Lib.bytesOf l).toArray⟩ : ByteArray).data.toList = Lib.bytesOf l := fun l => by simp
  rw [this, this, cmp_bytes hA hB]
  rfl

set_option maxHeartbeats 1000000 in
set_option maxRecDepth 100000 in
theorem bcmp_any (w : World) (b1 o1 c1 b2 o2 c2 : Nat) (xs ys : List Int) (hA : AllB xs) (hB : AllB ys) (h1 : ∀ i, i < xs.length → w.cell? ⟨b1, o1 + i, none⟩ = some (.int .u8 (xs.getD i 0))) (h2 : ∀ i, i < ys.length → w.cell? ⟨b2, o2 + i, none⟩ = some (.int .u8 (ys.getD i 0))) :
    Calls Tryd.prog 50 #[.slice (some ⟨b1, o1, none⟩) xs.length c1, .slice (some ⟨b2, o2, none⟩) ys.length c2] w fun e w' => e = .returned (.int .i64 (cmpZ xs ys)) ∧ w' = w := by
  have HC := Kept.mk (run_cmp (P := Tryd.prog) w b1 o1 c1 b2 o2 c2 xs ys hA hB h1 h2)
  clear h1 h2 hA hB
  go_enter Tryd.func50, Tryd.ntmps50
  go_wp2
  rw [run_callFunc_extern Tryd.func60 (by kernel_rfl) (by kernel_rfl) (by kernel_rfl) (e := Extern.BytealgCompare.compare) (by kernel_rfl), HC.out]
  simp only [Result.andThen]
  rw [Oper.upon_value]
  go_wp2
  go_ret
  exact ⟨rfl, rfl⟩

theorem Blk8.off {w : World} {b : Nat} {t : TypeId} {xs : List Int} (h : Blk8 w b t xs) : ∀ i, i < xs.length → w.cell? ⟨b, 0 + i, none⟩ = some (.int .u8 (xs.getD i 0)) := fun i hi => by rw [Nat.zero_add]; exact h.cell i hi

set_option maxHeartbeats 1000000 in
set_option maxRecDepth 100000 in
theorem compare_any (xs ys : List Int) (w : World) (hl : xs.length = 32) (hm : ys.length = 32) (hA : AllB xs) (hB : AllB ys) :
    Calls Tryd.prog 33 #[.agg (cellsU8 xs).toArray, .agg (cellsU8 ys).toArray] w fun e w' => e = .returned (.int .i64 (cmpZ xs ys)) ∧ Below w.heap.size w w' := by
  have B1 : Blk8 ((w.alloc (.cells (cellsU8 xs).toArray 24)).alloc (.cells (cellsU8 ys).toArray 24)) w.heap.size 24 xs := (alloc_blk8 w xs 24).alloc _
  have B2 : Blk8 ((w.alloc (.cells (cellsU8 xs).toArray 24)).alloc (.cells (cellsU8 ys).toArray 24)) (w.heap.size + 1) 24 ys := by
    have := alloc_blk8 (w.alloc (.cells (cellsU8 xs).toArray 24)) ys 24
    rwa [show (w.alloc (.cells (cellsU8 xs).toArray 24)).heap.size = w.heap.size + 1 from by simp] at this
  have HB : Kept (Below w.heap.size w ((w.alloc (.cells (cellsU8 xs).toArray 24)).alloc (.cells (cellsU8 ys).toArray 24))) := ⟨((Below.refl _ _).alloc (Nat.le_refl _) _).alloc (by simp) _⟩
  have HC : Kept (∀ m, Calls Tryd.prog 50 #[.slice (some ⟨w.heap.size, 0, none⟩) 32 32, .slice (some ⟨w.heap.size + 1, 0, none⟩) 32 32] (((w.alloc (.cells (cellsU8 xs).toArray 24)).alloc (.cells (cellsU8 ys).toArray 24)).drewN m) fun e w' => e = .returned (.int .i64 (cmpZ xs ys)) ∧ w' = ((w.alloc (.cells (cellsU8 xs).toArray 24)).alloc (.cells (cellsU8 ys).toArray 24)).drewN m) := ⟨fun m => by
    have := bcmp_any (((w.alloc (.cells (cellsU8 xs).toArray 24)).alloc (.cells (cellsU8 ys).toArray 24)).drewN m) w.heap.size 0 32 (w.heap.size + 1) 0 32 xs ys hA hB (B1.drewN m).off (B2.drewN m).off
    rwa [hl, hm] at this⟩
  clear B1 B2
  generalize cmpZ xs ys = z at *
  go_enter Tryd.func33, Tryd.ntmps33
  go_upto_region 1 with fail
  go_quiet ((go_at_call 50; exact Calls.quiet_of_same (HC.out _)))
  go_wp2
  go_ret
  exact ⟨rfl, below_drewN HB.out _⟩

/-- ids held against one another from place k on. -/
theorem cmpZ_drop (xs ys : List Int) (k : Nat) (hx : k < xs.length) (hy : k < ys.length) : cmpZ (xs.drop k) (ys.drop k) = if xs.getD k 0 < ys.getD k 0 then -1 else if ys.getD k 0 < xs.getD k 0 then 1 else cmpZ (xs.drop (k + 1)) (ys.drop (k + 1)) := by
  rw [List.drop_eq_getElem_cons hx, List.drop_eq_getElem_cons hy, cmpZ]
  simp [List.getD, List.getElem?_eq_getElem hx, List.getElem?_eq_getElem hy]

set_option maxHeartbeats 1000000 in
set_option maxRecDepth 100000 in
theorem rcompare_any (xs ys : List Int) (w : World) (hl : xs.length = 32) (hm : ys.length = 32) :
    Calls Tryd.prog 29 #[.agg (cellsU8 xs).toArray, .agg (cellsU8 ys).toArray] w fun e w' => e = .returned (.int .i64 (cmpZ xs ys)) ∧ Below w.heap.size w w' := by
  have B1 : Blk8 ((w.alloc (.cells (cellsU8 xs).toArray 24)).alloc (.cells (cellsU8 ys).toArray 24)) w.heap.size 24 xs := (alloc_blk8 w xs 24).alloc _
  have B2 : Blk8 ((w.alloc (.cells (cellsU8 xs).toArray 24)).alloc (.cells (cellsU8 ys).toArray 24)) (w.heap.size + 1) 24 ys := by
    have := alloc_blk8 (w.alloc (.cells (cellsU8 xs).toArray 24)) ys 24
    rwa [show (w.alloc (.cells (cellsU8 xs).toArray 24)).heap.size = w.heap.size + 1 from by simp] at this
  have HB : Kept (Below w.heap.size w ((w.alloc (.cells (cellsU8 xs).toArray 24)).alloc (.cells (cellsU8 ys).toArray 24))) := ⟨((Below.refl _ _).alloc (Nat.le_refl _) _).alloc (by simp) _⟩
  have HB1 := Kept.mk B1
  have HB2 := Kept.mk B2
  have HZ : Kept (cmpZ xs ys = cmpZ (xs.drop 0) (ys.drop 0)) := ⟨rfl⟩
  clear B1 B2
  generalize cmpZ xs ys = z at *
  go_enter Tryd.func29, Tryd.ntmps29
  go_upto_region 1 with fail
  generalize (w.alloc (.cells (cellsU8 xs).toArray 24)).alloc (.cells (cellsU8 ys).toArray 24) = w0 at *
  go_wp2
  go_loopw [6] (fun i wr => ∃ (k m : Nat), k ≤ 32 ∧ i = .int .i64 k ∧ z = cmpZ (xs.drop k) (ys.drop k) ∧ wr = w0.drewN m) (fun i _ => 32 - (intOf i).toNat)
  case atStart => exact ⟨0, 0, by omega, rfl, HZ.out, rfl⟩
  case round =>
    obtain ⟨k, m, hk, rfl, hz, rfl⟩ := hrel
    have HZK := Kept.mk hz
    clear hz HZ
    by_cases hlt : k < 32
    · have c1 := HB1.out.cell k (by omega)
      have c2 := HB2.out.cell k (by omega)
      have hd := cmpZ_drop xs ys k (by omega) (by omega)
      have HD := Kept.mk hd
      clear hd
      generalize xs.getD k 0 = x at *
      generalize ys.getD k 0 = y at *
      by_cases hxy : x < y
      · have hzz : z = -1 := by rw [HZK.out, HD.out, if_pos hxy]
        subst hzz
        clear HZK HD
        go_upto_region 4 with fail
        go_quiet (fail)
        go_wp2
        go_ret
        exact ⟨rfl, by first | exact below_drewN HB.out _ | exact below_drewN (below_drewN HB.out _) _⟩
      · by_cases hyx : y < x
        · have hzz : z = 1 := by rw [HZK.out, HD.out, if_neg hxy, if_pos hyx]
          subst hzz
          clear HZK HD
          go_upto_region 4 with fail
          go_quiet (fail)
          go_upto_region 6 with fail
          go_quiet (fail)
          go_wp2
          go_ret
          exact ⟨rfl, by first | exact below_drewN HB.out _ | exact below_drewN (below_drewN HB.out _) _⟩
        · have hzz : z = cmpZ (xs.drop (k + 1)) (ys.drop (k + 1)) := by rw [HZK.out, HD.out, if_neg hxy, if_neg hyx]
          have HZ2 := Kept.mk hzz
          clear HZK HD hzz
          go_upto_region 4 with fail
          go_quiet (fail)
          go_upto_region 6 with fail
          go_quiet (fail)
          go_wp2
          go_roundw
          case rel => exact ⟨k + 1, _, by omega, by go_num, HZ2.out, rfl⟩
          case measure => simp [intOf]; omega
    · obtain rfl : k = 32 := by omega
      have hzz : z = 0 := by rw [HZK.out, List.drop_of_length_le (by omega), List.drop_of_length_le (by omega)]; rfl
      subst hzz
      clear HZK
      go_wp2
      go_ret
      exact ⟨rfl, by first | exact below_drewN HB.out _ | exact below_drewN (below_drewN HB.out _) _⟩
end Go.Proofs.YtgoegmaepafopaaDoor.Sh
