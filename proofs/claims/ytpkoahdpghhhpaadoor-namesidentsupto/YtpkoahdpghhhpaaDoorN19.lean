/-
  Walks of the document: two, Put.
-/
import Derived.Test.YtpkoahdpghhhpaaDoorN18
import Derived.Lib.SlBytesRow
namespace Go.Proofs.YtpkoahdpghhhpaaDoor
open Go.RowKit

def twoB (n : Nat) : ByteArray := ⟨#[UInt8.ofNat (48 + n / 10), UInt8.ofNat (48 + n % 10)]⟩

theorem two_str (n : Nat) (hn : n < 100) (w : World) : (convert 65 9 (.slice (some ⟨w.heap.size, 0, none⟩) 2 2)).run Tryd.prog (w.alloc (.cells #[.int .u8 (48 + (n : Int) / 10), .int .u8 (48 + (n : Int) % 10)] 5)) = .ok (.string (twoB n)) (w.alloc (.cells #[.int .u8 (48 + (n : Int) / 10), .int .u8 (48 + (n : Int) % 10)] 5)) := by
  have h := heap_alloc_new w (.cells #[.int .u8 (48 + (n : Int) / 10), .int .u8 (48 + (n : Int) % 10)] 5)
  refine Lib.run_convert_whole (P := Tryd.prog) _ 65 5 9 Tryd.underlying65 Tryd.underlying5 Tryd.underlying9 w.heap.size 0 (twoB n) (fun i hi => ?_) 2
  have hi : i < 2 := hi
  have e1 := dig_nat (show n / 10 < 10 by omega)
  have e2 := dig_nat (show n % 10 < 10 by omega)
  unfold World.cell?
  simp only [h]
  match i, hi with
  | 0, _ => show some (Value.int .u8 (48 + (n : Int) / 10)) = some (.int .u8 ((UInt8.ofNat (48 + n / 10)).toNat : Int)); rw [e1]; congr 2
  | 1, _ => show some (Value.int .u8 (48 + (n : Int) % 10)) = some (.int .u8 ((UInt8.ofNat (48 + n % 10)).toNat : Int)); rw [e2]; congr 2

set_option maxHeartbeats 1000000 in
set_option maxRecDepth 100000 in
theorem two_any (n : Nat) (hn : n < 100) (w : World) : Calls Tryd.prog 55 #[.int .i64 n] w fun e w' => e = .returned (.string (twoB n)) ∧ Below w.heap.size w w' := by
  have q1 : ((n : Int)).tdiv 10 = ((n / 10 : Nat) : Int) := rfl
  have q2 : ((n : Int)).tmod 10 = ((n % 10 : Nat) : Int) := rfl
  have a1 : n / 10 < 10 := by omega
  have a2 : n % 10 < 10 := by omega
  have w1 : IntKind.i64.wrap ((n / 10 : Nat) : Int) = ((n / 10 : Nat) : Int) := by rw [IntKind.wrap_i64]; omega
  have w2 : IntKind.i64.wrap (48 + ((n / 10 : Nat) : Int)) = 48 + ((n / 10 : Nat) : Int) := by rw [IntKind.wrap_i64]; omega
  have w3 : IntKind.i64.wrap (48 + ((n % 10 : Nat) : Int)) = 48 + ((n % 10 : Nat) : Int) := by rw [IntKind.wrap_i64]; omega
  have hcv := two_str n hn w
  go_enter Tryd.func55, Tryd.ntmps55
  go_wp2
  go_ret
  exact ⟨rfl, (Below.refl _ _).alloc (Nat.le_refl _) _⟩

theorem zone_two {z : Int} (h0 : -1439 ≤ z) (h1 : z ≤ 1439) : zoneB z = (if z < 0 then ⟨#[45]⟩ else ⟨#[43]⟩) ++ twoB (z.natAbs / 60) ++ twoB (z.natAbs % 60) := by
  apply ByteArray.ext
  apply Array.toList_inj.1
  rw [zone_list h0 h1, ByteArray.data_append, ByteArray.data_append, Array.toList_append, Array.toList_append]
  have g : ∀ k : Nat, (twoB k).data.toList = [UInt8.ofNat (48 + k / 10), UInt8.ofNat (48 + k % 10)] := fun _ => rfl
  have e0 : (if z < 0 then (⟨#[45]⟩ : ByteArray) else ⟨#[43]⟩).data.toList = [if z < 0 then 45 else 43] := by split <;> rfl
  rw [g, g, e0]
  unfold zl
  obtain ⟨a, ha, hb⟩ : ∃ a, z.natAbs = a ∧ a ≤ 1439 := ⟨_, rfl, by omega⟩
  rw [ha]
  rw [show (a / 60 * 100 + a % 60) / 1000 = a / 60 / 10 by omega, show (a / 60 * 100 + a % 60) / 100 % 10 = a / 60 % 10 by omega, show (a / 60 * 100 + a % 60) / 10 % 10 = a % 60 / 10 by omega, show (a / 60 * 100 + a % 60) % 10 = a % 60 % 10 by omega]
  rfl
end Go.Proofs.YtpkoahdpghhhpaaDoor
