/-
  Both sums; the awake of layer 5.
-/
import Derived.Test.YtjijkcmbbccfmaaDoorK
import Derived.Lib.SlBytesConst
namespace Go.Proofs.YtjijkcmbbccfmaaDoor
open Go.RowKit

/-- Both parts of Adler's sum behind a list. -/
def adlP : List Int → Int → Int → Int × Int
  | [], a, b => (a, b)
  | x :: l, a, b => adlP l ((a + x) % 65521) ((b + (a + x) % 65521) % 65521)
def adlF (p : List Int) : Int := 65536 * (adlP p 1 0).2 + (adlP p 1 0).1

/-- One turn of the CRC. -/
def crcS (c : Int) : Int := if c % 2 = 1 then bits .xor .u32 (c / 2) 3988292384 else c / 2
def crcN : Nat → Int → Int
  | 0, c => c
  | n + 1, c => crcN n (crcS c)
def crcP : List Int → Int → Int
  | [], c => c
  | x :: l, c => crcP l (crcN 8 (bits .xor .u32 c x))
def crcF (p : List Int) : Int := bits .xor .u32 IntKind.u32.max (crcP p 4294967295)

theorem bits_w (op : BinOp) (a b : Int) : 0 ≤ bits op .u32 a b ∧ bits op .u32 a b < 4294967296 := by
  have := bits_within op .u32 a b
  have e1 : IntKind.u32.min = 0 := by decide
  have e2 : IntKind.u32.max = 4294967295 := by decide
  omega
theorem crcS_range (c : Int) (h0 : 0 ≤ c) (h1 : c < 4294967296) : 0 ≤ crcS c ∧ crcS c < 4294967296 := by
  unfold crcS
  split
  · exact bits_w _ _ _
  · omega
theorem and_one (c : Int) (h0 : 0 ≤ c) (h1 : c < 4294967296) : bits .and .u32 c 1 = c % 2 := by
  rw [u32_and c 1 h0 h1 (by omega) (by omega), show (1 : Int).toNat = 1 from rfl, Nat.and_one_is_mod]
  omega
theorem or_add (i : Nat) (x y : Int) (hx0 : 0 ≤ x) (hx1 : x < 4294967296) (hm : x.toNat % 2 ^ i = 0) (hy0 : 0 ≤ y) (hy : y.toNat < 2 ^ i) (hy1 : y < 4294967296) : bits .or .u32 x y = x + y := by
  rw [u32_or x y hx0 hx1 hy0 hy1, nat_join i x.toNat y.toNat hm hy]
  omega
theorem adl_or (a b : Int) (h0 : 0 ≤ a) (h1 : a < 65521) (h2 : 0 ≤ b) (h3 : b < 65521) : bits .or .u32 (b * 65536) a = 65536 * b + a := by
  rw [or_add 16 (b * 65536) a (by omega) (by omega) (by omega) (by omega) (by omega) (by omega)]
  omega

set_option maxHeartbeats 1000000 in
set_option maxRecDepth 100000 in
theorem adler_any {S : Nat → Prop} (w : World) (v : Value) (l : List Int) (hl : AllB l) (hr : Rd .u8 S w v l) :
    Calls Tryd.prog 17 #[v] w fun e w' => e = .returned (.int .u32 (adlF l)) ∧ w' = w := by
  obtain ⟨va, vc, rfl, -, hlc, hcm⟩ := hr.form
  have KR := Kept.mk hr
  have KL := Kept.mk hl
  have hlen : l.length ≤ 9223372036854775807 := by unfold maxLen at hcm; omega
  clear hr hl hcm
  go_enter Tryd.func17, Tryd.ntmps17
  go_wp2
  go_loopw [3, 4, 9, 6] (fun s3 s4 s9 _ wr => wr = w ∧ ∃ (k : Nat) (a b : Int), k ≤ l.length ∧ s9 = .int .i64 k ∧ s3 = .int .u32 a ∧ s4 = .int .u32 b ∧ adlP (l.drop k) a b = adlP l 1 0 ∧ 0 ≤ a ∧ a < 65521 ∧ 0 ≤ b ∧ b < 65521) (fun _ _ s9 _ _ => l.length - (intOf s9).toNat)
  case atStart => exact ⟨rfl, 0, 1, 0, by omega, rfl, rfl, rfl, by simp, by omega, by omega, by omega, by omega⟩
  case round =>
    obtain ⟨rfl, k, a, b, hk, rfl, rfl, rfl, hz, ha0, ha1, hb0, hb1⟩ := hrel
    by_cases hlt : k < l.length
    · have hlti : (k : Int) < (l.length : Int) := by omega
      obtain ⟨bb, off, cc, hva, -, -, -, -, hcells⟩ := KR.out.open (by omega)
      injection hva with hva1 hva2 hva3
      subst hva1
      have ck := hcells k hlt
      have hd : l.drop k = l.getD k 0 :: l.drop (k + 1) := by
        rw [List.drop_eq_getElem_cons hlt]
        simp [List.getD, List.getElem?_eq_getElem hlt]
      rw [hd, adlP] at hz
      have hby := KL.out.getD (by omega) k
      clear hd hcells
      generalize l.getD k 0 = x at *
      have KZ := Kept.mk hz
      clear hz
      have hx0 := hby.1
      have hx1 := hby.2
      clear hby
      have hm0 : 0 ≤ (a + x) % 65521 := by omega
      have hm1 : (a + x) % 65521 < 65521 := by omega
      go_wp2
      go_roundw
      case rel => exact ⟨trivial, k + 1, (a + x) % 65521, (b + (a + x) % 65521) % 65521, by omega, by go_num, rfl, rfl, KZ.out, by omega, by omega, by omega, by omega⟩
      case measure => simp [intOf]; omega
    · have hd : l.drop k = [] := List.eq_nil_of_length_eq_zero (by simp; omega)
      rw [hd, adlP] at hz
      have KE : Kept (adlF l = 65536 * b + a) := ⟨by unfold adlF; rw [← hz]⟩
      have hor := adl_or a b ha0 ha1 hb0 hb1
      clear hz hd
      go_wp2
      go_ret
      rw [KE.out]
      rw [← hor]
      exact ⟨rfl, rfl⟩

set_option maxHeartbeats 1000000 in
set_option maxRecDepth 100000 in
theorem radler_any {S : Nat → Prop} (w : World) (v : Value) (l : List Int) (hl : AllB l) (hr : Rd .u8 S w v l) :
    Calls Tryd.prog 35 #[v] w fun e w' => e = .returned (.int .u32 (adlF l)) ∧ w' = w := by
  obtain ⟨va, vc, rfl, -, hlc, hcm⟩ := hr.form
  have KR := Kept.mk hr
  have KL := Kept.mk hl
  have hlen : l.length ≤ 9223372036854775807 := by unfold maxLen at hcm; omega
  clear hr hl hcm
  go_enter Tryd.func35, Tryd.ntmps35
  go_wp2
  go_loopw [3, 4, 9, 6] (fun s3 s4 s9 _ wr => wr = w ∧ ∃ (k : Nat) (a b : Int), k ≤ l.length ∧ s9 = .int .i64 k ∧ s3 = .int .u32 a ∧ s4 = .int .u32 b ∧ adlP (l.drop k) a b = adlP l 1 0 ∧ 0 ≤ a ∧ a < 65521 ∧ 0 ≤ b ∧ b < 65521) (fun _ _ s9 _ _ => l.length - (intOf s9).toNat)
  case atStart => exact ⟨rfl, 0, 1, 0, by omega, rfl, rfl, rfl, by simp, by omega, by omega, by omega, by omega⟩
  case round =>
    obtain ⟨rfl, k, a, b, hk, rfl, rfl, rfl, hz, ha0, ha1, hb0, hb1⟩ := hrel
    by_cases hlt : k < l.length
    · have hlti : (k : Int) < (l.length : Int) := by omega
      obtain ⟨bb, off, cc, hva, -, -, -, -, hcells⟩ := KR.out.open (by omega)
      injection hva with hva1 hva2 hva3
      subst hva1
      have ck := hcells k hlt
      have hd : l.drop k = l.getD k 0 :: l.drop (k + 1) := by
        rw [List.drop_eq_getElem_cons hlt]
        simp [List.getD, List.getElem?_eq_getElem hlt]
      rw [hd, adlP] at hz
      have hby := KL.out.getD (by omega) k
      clear hd hcells
      generalize l.getD k 0 = x at *
      have KZ := Kept.mk hz
      clear hz
      have hx0 := hby.1
      have hx1 := hby.2
      clear hby
      have hm0 : 0 ≤ (a + x) % 65521 := by omega
      have hm1 : (a + x) % 65521 < 65521 := by omega
      go_wp2
      go_roundw
      case rel => exact ⟨trivial, k + 1, (a + x) % 65521, (b + (a + x) % 65521) % 65521, by omega, by go_num, rfl, rfl, KZ.out, by omega, by omega, by omega, by omega⟩
      case measure => simp [intOf]; omega
    · have hd : l.drop k = [] := List.eq_nil_of_length_eq_zero (by simp; omega)
      rw [hd, adlP] at hz
      have KE : Kept (adlF l = 65536 * b + a) := ⟨by unfold adlF; rw [← hz]⟩
      have hor := adl_or a b ha0 ha1 hb0 hb1
      clear hz hd
      go_wp2
      go_ret
      rw [KE.out]
      exact ⟨rfl, rfl⟩

set_option maxHeartbeats 1000000 in
set_option maxRecDepth 100000 in
theorem crc_any {S : Nat → Prop} (w : World) (v : Value) (l : List Int) (hl : AllB l) (hr : Rd .u8 S w v l) :
    Calls Tryd.prog 18 #[v] w fun e w' => e = .returned (.int .u32 (crcF l)) ∧ w' = w := by
  obtain ⟨va, vc, rfl, -, hlc, hcm⟩ := hr.form
  have KR := Kept.mk hr
  have KL := Kept.mk hl
  have hlen : l.length ≤ 9223372036854775807 := by unfold maxLen at hcm; omega
  clear hr hl hcm
  go_enter Tryd.func18, Tryd.ntmps18
  go_wp2
  go_loopw [3, 9] (fun s3 s9 wr => wr = w ∧ ∃ (k : Nat) (c : Int), k ≤ l.length ∧ s9 = .int .i64 k ∧ s3 = .int .u32 c ∧ crcP (l.drop k) c = crcP l 4294967295 ∧ 0 ≤ c ∧ c < 4294967296) (fun _ s9 _ => l.length - (intOf s9).toNat)
  case atStart => exact ⟨rfl, 0, 4294967295, by omega, rfl, rfl, by simp, by omega, by omega⟩
  case round =>
    obtain ⟨rfl, k, c, hk, rfl, rfl, hz, hc0, hc1⟩ := hrel
    by_cases hlt : k < l.length
    · have hlti : (k : Int) < (l.length : Int) := by omega
      obtain ⟨bb, off, cc, hva, -, -, -, -, hcells⟩ := KR.out.open (by omega)
      injection hva with hva1 hva2 hva3
      subst hva1 hva3
      clear hva2
      have ck := hcells k hlt
      have hd : l.drop k = l.getD k 0 :: l.drop (k + 1) := by
        rw [List.drop_eq_getElem_cons hlt]
        simp [List.getD, List.getElem?_eq_getElem hlt]
      rw [hd, crcP] at hz
      have hby := KL.out.getD (by omega) k
      clear hd hcells
      generalize l.getD k 0 = x at *
      have KZ := Kept.mk hz
      clear hz
      have hx0 := hby.1
      have hx1 := hby.2
      clear hby
      have hy := bits_w .xor c x
      obtain ⟨y, hyy⟩ : ∃ y, bits .xor .u32 c x = y := ⟨_, rfl⟩
      rw [hyy] at hy KZ
      have hy0 := hy.1
      have hy1 := hy.2
      clear hy
      go_wp2
      go_loopw [3, 17] (fun s3 sj wq => wq = wr ∧ ∃ (j : Nat) (z : Int), j ≤ 8 ∧ sj = .int .i64 j ∧ s3 = .int .u32 z ∧ crcN (8 - j) z = crcN 8 y ∧ 0 ≤ z ∧ z < 4294967296) (fun _ sj _ => 8 - (intOf sj).toNat)
      case atStart => exact ⟨rfl, 0, y, by omega, rfl, by rw [← hyy], rfl, hy0, hy1⟩
      case round =>
        obtain ⟨rfl, j, z, hj, rfl, rfl, hn, hz0, hz1⟩ := hrel
        clear hyy
        by_cases hlj : j < 8
        · have hlji : (j : Int) < 8 := by omega
          have hnj : ¬ (8 : Int) ≤ (j : Int) := by omega
          rw [show 8 - j = (8 - (j + 1)) + 1 from by omega, crcN] at hn
          have hand := and_one z hz0 hz1
          by_cases hb : z % 2 = 1
          · have hS : crcS z = bits .xor .u32 (z / 2) 3988292384 := by unfold crcS; rw [if_pos hb]
            have hSr := bits_w .xor (z / 2) 3988292384
            rw [hS] at hn
            have KN := Kept.mk hn
            have KS := Kept.mk hSr
            clear hn hSr hS
            go_wp2
            go_roundw
            case rel => exact ⟨trivial, j + 1, _, by omega, by go_num, rfl, KN.out, KS.out.1, KS.out.2⟩
            case measure => simp [intOf]; omega
          · have hS : crcS z = z / 2 := by unfold crcS; rw [if_neg hb]
            have hb0 : z % 2 = 0 := by omega
            rw [hS] at hn
            have KN := Kept.mk hn
            clear hn hS
            go_wp2
            go_roundw
            case rel => exact ⟨trivial, j + 1, _, by omega, by go_num, rfl, KN.out, by omega, by omega⟩
            case measure => simp [intOf]; omega
        · have hj8 : j = 8 := by omega
          subst hj8
          have hn' : z = crcN 8 y := hn
          rw [← hn'] at KZ
          clear hn hn'
          go_wp2
          go_roundw
          case rel => exact ⟨trivial, k + 1, z, by omega, by go_num, rfl, KZ.out, hz0, hz1⟩
          case measure => simp [intOf]; omega
    · have hd : l.drop k = [] := List.eq_nil_of_length_eq_zero (by simp; omega)
      rw [hd, crcP] at hz
      have KE : Kept (crcF l = bits .xor .u32 IntKind.u32.max c) := ⟨by unfold crcF; rw [← hz]⟩
      clear hz hd
      go_wp2
      go_ret
      rw [KE.out]

      exact ⟨rfl, rfl⟩

theorem rd_const (w : World) (arr : List Int) (t : TypeId) (fr : Nat × Nat) (hn : arr.length ≤ 1000000) : Rd .u8 anyB (w.alloc (.cells (cellsK .u8 arr).toArray t fr)) (.slice (some ⟨w.heap.size, 0, none⟩) arr.length arr.length) arr := by
  refine ⟨some ⟨w.heap.size, 0, none⟩, arr.length, rfl, Nat.le_refl _, by unfold maxLen; omega, (fun h => by cases h), fun _ => ⟨w.heap.size, 0, rfl, by simp, trivial, fun i hi => ?_⟩⟩
  rw [Nat.zero_add]
  simp only [World.cell?, heap_alloc_new]
  simp [cellsK, List.getElem?_eq_getElem hi, List.getD]

theorem adl_abc : adlF [97, 98, 99] = 38600999 := by decide
set_option maxRecDepth 100000 in
theorem crc_nine : crcF [49, 50, 51, 52, 53, 54, 55, 56, 57] = 3421780262 := by kernel_rfl

set_option maxHeartbeats 400000 in
set_option maxRecDepth 100000 in
theorem awake_any (w : World) : Calls Tryd.prog 14 #[] w fun e w' => e = .returned (.bool true) ∧ Below w.heap.size w w' := by
  have kc := fun (w : World) (C : Array Value) (n c : Nat) => Lib.run_convert_bytes_const (P := Tryd.prog) w 22 5 C n c Tryd.underlying22 Tryd.underlying5
  go_enter Tryd.func14, Tryd.ntmps14
  go_wp2_with fail
  refine Calls.mono (adler_any _ _ [97, 98, 99] (by intro x hx; simp at hx; omega) (rd_const w [97, 98, 99] 5 (3, 4) (by decide))) (fun e w1 hp => ?_)
  obtain ⟨rfl, hw1⟩ := hp
  have hbel : Below w.heap.size w w1 := by
    rw [hw1]
    exact (Below.refl _ _).alloc (Nat.le_refl _) _
  clear hw1
  rw [adl_abc]
  go_wp2_with fail
  refine Calls.mono (crc_any _ _ [49, 50, 51, 52, 53, 54, 55, 56, 57] (by intro x hx; simp at hx; omega) (rd_const w1 [49, 50, 51, 52, 53, 54, 55, 56, 57] 5 (9, 10) (by decide))) (fun e w2 hp => ?_)
  obtain ⟨rfl, hw2⟩ := hp
  have hbel2 : Below w.heap.size w w2 := by
    rw [hw2]
    exact hbel.alloc hbel.size _
  clear hw2
  rw [crc_nine]
  go_wp2
  go_ret
  exact ⟨rfl, hbel2⟩


open Go.RowKit

/-- What is wrong with a head. -/
def hdF (p : List Int) : Int := if p.length < 2 then 5 else if p.getD 0 0 % 16 ≠ 8 ∨ 128 ≤ p.getD 0 0 ∨ (256 * p.getD 0 0 + p.getD 1 0) % 31 ≠ 0 ∨ p.getD 1 0 / 32 % 2 = 1 then 4 else 0
/-- What is wrong with the sum that stands there. -/
def smF (p : List Int) (s : Int) : Int := if p.length < 4 then 5 else if 16777216 * p.getD 0 0 + 65536 * p.getD 1 0 + 256 * p.getD 2 0 + p.getD 3 0 = s then 0 else 6

theorem and32_all : (List.range 256).all (fun n => decide (bits .and .i64 (n : Int) 32 = 32 * ((n : Int) / 32 % 2))) = true := by kernel_rfl
theorem and32 (y : Int) (h0 : 0 ≤ y) (h1 : y < 256) : bits .and .i64 y 32 = 32 * (y / 32 % 2) := by
  obtain ⟨n, rfl⟩ := Int.eq_ofNat_of_zero_le h0
  have := List.all_eq_true.1 and32_all n (by simp; omega)
  simpa using this

theorem Rd.two {k : IntKind} {S : Nat → Prop} {w : World} {v : Value} {p : List Int} (h : Rd k S w v p) (h2 : 0 < p.length) : ∃ b off c, v = .slice (some ⟨b, off, none⟩) p.length c ∧ p.length ≤ c ∧ ∀ i, i < p.length → w.cell? ⟨b, off + i, none⟩ = some (.int k (p.getD i 0)) := by
  obtain ⟨b, off, c, hv, -, h4, -, -, h5⟩ := h.open h2
  exact ⟨b, off, c, hv, h4, h5⟩

set_option maxHeartbeats 1000000 in
set_option maxRecDepth 100000 in
theorem checkHead_any {S : Nat → Prop} (w : World) (v : Value) (p : List Int) (hp : AllB p) (hr : Rd .u8 S w v p) :
    Calls Tryd.prog 33 #[v] w fun e w' => e = .returned (.int .i64 (hdF p)) ∧ Below w.heap.size w w' := by
  obtain ⟨va, vc, rfl, -, hlc, hcm⟩ := hr.form
  by_cases h2 : p.length < 2
  · have hh : hdF p = 5 := by unfold hdF; rw [if_pos h2]
    have h2i : (p.length : Int) < 2 := by omega
    rw [hh]
    go_enter Tryd.func33, Tryd.ntmps33
    go_wp2
    go_ret
    exact ⟨rfl, Below.refl _ _⟩
  · obtain ⟨b, off, c, hv, -, hc⟩ := hr.two (by omega)
    injection hv with hv1 hv2 hv3
    subst hv1
    have h2i : ¬ (p.length : Int) < 2 := by omega
    have hx1 : (0 : Int) < (p.length : Int) := by omega
    have hx2 : (1 : Int) < (p.length : Int) := by omega
    have c0 := hc 0 (by omega)
    have c1 := hc 1 (by omega)
    rw [Nat.add_zero] at c0
    have hh : hdF p = if p.getD 0 0 % 16 ≠ 8 ∨ 128 ≤ p.getD 0 0 ∨ (256 * p.getD 0 0 + p.getD 1 0) % 31 ≠ 0 ∨ p.getD 1 0 / 32 % 2 = 1 then 4 else 0 := by unfold hdF; rw [if_neg h2]
    have hb0 := hp.getD (by omega) 0
    have hb1 := hp.getD (by omega) 1
    rw [hh]
    clear hh hc hr hp hv2 hv3
    generalize p.getD 0 0 = x at *
    generalize p.getD 1 0 = y at *
    have hand := and32 y hb1.1 hb1.2
    obtain ⟨hx0, hx256⟩ := hb0
    obtain ⟨hy0, hy256⟩ := hb1
    by_cases e1 : x % 16 = 8
    · by_cases e2 : 128 ≤ x
      · rw [if_pos (by omega)]
        go_enter Tryd.func33, Tryd.ntmps33
        go_wp2
        go_quiet (fail)
        go_wp2
        go_ret
        exact ⟨rfl, below_drewN (Below.refl _ _) _⟩
      · by_cases e3 : (256 * x + y) % 31 = 0
        · by_cases e4 : y / 32 % 2 = 1
          · rw [if_pos (by omega)]
            have hand2 : bits .and .i64 y 32 = 32 := by rw [hand, e4]; rfl
            clear hand
            go_enter Tryd.func33, Tryd.ntmps33
            go_wp2
            go_quiet (fail)
            go_wp2
            go_ret
            exact ⟨rfl, below_drewN (Below.refl _ _) _⟩
          · rw [if_neg (by omega)]
            have hand2 : bits .and .i64 y 32 = 0 := by rw [hand, show y / 32 % 2 = 0 from by omega]; rfl
            clear hand
            go_enter Tryd.func33, Tryd.ntmps33
            go_wp2
            go_quiet (fail)
            go_wp2
            go_ret
            exact ⟨rfl, below_drewN (Below.refl _ _) _⟩
        · rw [if_pos (by omega)]
          go_enter Tryd.func33, Tryd.ntmps33
          go_wp2
          go_quiet (fail)
          go_wp2
          go_ret
          exact ⟨rfl, below_drewN (Below.refl _ _) _⟩
    · rw [if_pos (by omega)]
      go_enter Tryd.func33, Tryd.ntmps33
      go_wp2
      go_quiet (fail)
      go_wp2
      go_ret
      exact ⟨rfl, below_drewN (Below.refl _ _) _⟩

theorem big_or (a b c d : Int) (a0 : 0 ≤ a) (a1 : a < 256) (b0 : 0 ≤ b) (b1 : b < 256) (c0 : 0 ≤ c) (c1 : c < 256) (d0 : 0 ≤ d) (d1 : d < 256) :
    bits .or .u32 (bits .or .u32 (bits .or .u32 (a * 16777216) (b * 65536)) (c * 256)) d = 16777216 * a + 65536 * b + 256 * c + d := by
  rw [or_add 24 (a * 16777216) (b * 65536) (by omega) (by omega) (by omega) (by omega) (by omega) (by omega), or_add 16 (a * 16777216 + b * 65536) (c * 256) (by omega) (by omega) (by omega) (by omega) (by omega) (by omega), or_add 8 (a * 16777216 + b * 65536 + c * 256) d (by omega) (by omega) (by omega) (by omega) (by omega) (by omega)]
  omega

set_option maxHeartbeats 1000000 in
set_option maxRecDepth 100000 in
theorem checkSum_any {S : Nat → Prop} (w : World) (v : Value) (p : List Int) (s : Int) (hp : AllB p) (hr : Rd .u8 S w v p) :
    Calls Tryd.prog 34 #[v, .int .u32 s] w fun e w' => e = .returned (.int .i64 (smF p s)) ∧ Below w.heap.size w w' := by
  obtain ⟨va, vc, rfl, -, hlc, hcm⟩ := hr.form
  by_cases h2 : p.length < 4
  · have hh : smF p s = 5 := by unfold smF; rw [if_pos h2]
    have h2i : (p.length : Int) < 4 := by omega
    rw [hh]
    go_enter Tryd.func34, Tryd.ntmps34
    go_wp2
    go_ret
    exact ⟨rfl, Below.refl _ _⟩
  · obtain ⟨b, off, c, hv, -, hc⟩ := hr.two (by omega)
    injection hv with hv1 hv2 hv3
    subst hv1
    have h2i : ¬ (p.length : Int) < 4 := by omega
    have hx1 : (0 : Int) < (p.length : Int) := by omega
    have hx2 : (1 : Int) < (p.length : Int) := by omega
    have hx3 : (2 : Int) < (p.length : Int) := by omega
    have hx4 : (3 : Int) < (p.length : Int) := by omega
    have c0 := hc 0 (by omega)
    have c1 := hc 1 (by omega)
    have c2 := hc 2 (by omega)
    have c3 := hc 3 (by omega)
    rw [Nat.add_zero] at c0
    have hh : smF p s = if 16777216 * p.getD 0 0 + 65536 * p.getD 1 0 + 256 * p.getD 2 0 + p.getD 3 0 = s then 0 else 6 := by unfold smF; rw [if_neg h2]
    have hb0 := hp.getD (by omega) 0
    have hb1 := hp.getD (by omega) 1
    have hb2 := hp.getD (by omega) 2
    have hb3 := hp.getD (by omega) 3
    rw [hh]
    clear hh hc hr hp hv2 hv3
    generalize p.getD 0 0 = x0 at *
    generalize p.getD 1 0 = x1 at *
    generalize p.getD 2 0 = x2 at *
    generalize p.getD 3 0 = x3 at *
    have hor := big_or x0 x1 x2 x3 hb0.1 hb0.2 hb1.1 hb1.2 hb2.1 hb2.2 hb3.1 hb3.2
    obtain ⟨l0, u0⟩ := hb0
    obtain ⟨l1, u1⟩ := hb1
    obtain ⟨l2, u2⟩ := hb2
    obtain ⟨l3, u3⟩ := hb3
    by_cases he : 16777216 * x0 + 65536 * x1 + 256 * x2 + x3 = s
    · rw [if_pos he]
      subst he
      go_enter Tryd.func34, Tryd.ntmps34
      go_wp2
      go_quiet (fail)
      go_wp2
      go_ret
      exact ⟨rfl, below_drewN (Below.refl _ _) _⟩
    · rw [if_neg he]
      go_enter Tryd.func34, Tryd.ntmps34
      go_wp2
      go_quiet (fail)
      go_wp2
      go_ret
      exact ⟨rfl, below_drewN (Below.refl _ _) _⟩
end Go.Proofs.YtjijkcmbbccfmaaDoor
