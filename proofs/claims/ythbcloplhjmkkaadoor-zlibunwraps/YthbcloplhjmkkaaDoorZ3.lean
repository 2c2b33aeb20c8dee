/-
  Both sums; the awake of layer 5.
-/
import Derived.Test.YthbcloplhjmkkaaDoorK
import Derived.Lib.SlBytesConst
import Derived.Test.YthbcloplhjmkkaaDoorP2
import Derived.Test.YthbcloplhjmkkaaDoorI2
namespace Go.Proofs.YthbcloplhjmkkaaDoor
open Go.RowKit

/-- Both parts of Adler's sum behind a list. -/
def adlP : List Int → Int → Int → Int × Int
  | [], a, b => (a, b)
  | x :: l, a, b => adlP l ((a + x) % 65521) ((b + (a + x) % 65521) % 65521)
def adlF (p : List Int) : Int := 65536 * (adlP p 1 0).2 + (adlP p 1 0).1

/-- One turn of the CRC. -/
def crcS (c : Int) : Int := if c % 2 = 1 then bits .xor .u32 (c / 2) 3988292384 else c / 2
def crcN : Nat → Int → Int
  | 0, c => c
  | n + 1, c => crcN n (crcS c)
def crcP : List Int → Int → Int
  | [], c => c
  | x :: l, c => crcP l (crcN 8 (bits .xor .u32 c x))
def crcF (p : List Int) : Int := bits .xor .u32 IntKind.u32.max (crcP p 4294967295)

theorem bits_w (op : BinOp) (a b : Int) : 0 ≤ bits op .u32 a b ∧ bits op .u32 a b < 4294967296 := by
  have := bits_within op .u32 a b
  have e1 : IntKind.u32.min = 0 := by decide
  have e2 : IntKind.u32.max = 4294967295 := by decide
  omega
theorem crcS_range (c : Int) (h0 : 0 ≤ c) (h1 : c < 4294967296) : 0 ≤ crcS c ∧ crcS c < 4294967296 := by
  unfold crcS
  split
  · exact bits_w _ _ _
  · omega
theorem and_one (c : Int) (h0 : 0 ≤ c) (h1 : c < 4294967296) : bits .and .u32 c 1 = c % 2 := by
  rw [u32_and c 1 h0 h1 (by omega) (by omega), show (1 : Int).toNat = 1 from rfl, Nat.and_one_is_mod]
  omega
theorem or_add (i : Nat) (x y : Int) (hx0 : 0 ≤ x) (hx1 : x < 4294967296) (hm : x.toNat % 2 ^ i = 0) (hy0 : 0 ≤ y) (hy : y.toNat < 2 ^ i) (hy1 : y < 4294967296) : bits .or .u32 x y = x + y := by
  rw [u32_or x y hx0 hx1 hy0 hy1, nat_join i x.toNat y.toNat hm hy]
  omega
theorem adl_or (a b : Int) (h0 : 0 ≤ a) (h1 : a < 65521) (h2 : 0 ≤ b) (h3 : b < 65521) : bits .or .u32 (b * 65536) a = 65536 * b + a := by
  rw [or_add 16 (b * 65536) a (by omega) (by omega) (by omega) (by omega) (by omega) (by omega)]
  omega

set_option maxHeartbeats 1000000 in
set_option maxRecDepth 100000 in
theorem adler_any {S : Nat → Prop} (w : World) (v : Value) (l : List Int) (hl : AllB l) (hr : Rd .u8 S w v l) :
    Calls Tryd.prog 9 #[v] w fun e w' => e = .returned (.int .u32 (adlF l)) ∧ w' = w := by
  obtain ⟨va, vc, rfl, -, hlc, hcm⟩ := hr.form
  have KR := Kept.mk hr
  have KL := Kept.mk hl
  have hlen : l.length ≤ 9223372036854775807 := by unfold maxLen at hcm; omega
  clear hr hl hcm
  go_enter Tryd.func9, Tryd.ntmps9
  go_wp2
  go_loopw [3, 4, 9, 6] (fun s3 s4 s9 _ wr => wr = w ∧ ∃ (k : Nat) (a b : Int), k ≤ l.length ∧ s9 = .int .i64 k ∧ s3 = .int .u32 a ∧ s4 = .int .u32 b ∧ adlP (l.drop k) a b = adlP l 1 0 ∧ 0 ≤ a ∧ a < 65521 ∧ 0 ≤ b ∧ b < 65521) (fun _ _ s9 _ _ => l.length - (intOf s9).toNat)
  case atStart => exact ⟨rfl, 0, 1, 0, by omega, rfl, rfl, rfl, by simp, by omega, by omega, by omega, by omega⟩
  case round =>
    obtain ⟨rfl, k, a, b, hk, rfl, rfl, rfl, hz, ha0, ha1, hb0, hb1⟩ := hrel
    by_cases hlt : k < l.length
    · have hlti : (k : Int) < (l.length : Int) := by omega
      obtain ⟨bb, off, cc, hva, -, -, -, -, hcells⟩ := KR.out.open (by omega)
      injection hva with hva1 hva2 hva3
      subst hva1
      have ck := hcells k hlt
      have hd : l.drop k = l.getD k 0 :: l.drop (k + 1) := by
        rw [List.drop_eq_getElem_cons hlt]
        simp [List.getD, List.getElem?_eq_getElem hlt]
      rw [hd, adlP] at hz
      have hby := KL.out.getD (by omega) k
      clear hd hcells
      generalize l.getD k 0 = x at *
      have KZ := Kept.mk hz
      clear hz
      have hx0 := hby.1
      have hx1 := hby.2
      clear hby
      have hm0 : 0 ≤ (a + x) % 65521 := by omega
      have hm1 : (a + x) % 65521 < 65521 := by omega
      go_wp2
      go_roundw
      case rel => exact ⟨trivial, k + 1, (a + x) % 65521, (b + (a + x) % 65521) % 65521, by omega, by go_num, rfl, rfl, KZ.out, by omega, by omega, by omega, by omega⟩
      case measure => simp [intOf]; omega
    · have hd : l.drop k = [] := List.eq_nil_of_length_eq_zero (by simp; omega)
      rw [hd, adlP] at hz
      have KE : Kept (adlF l = 65536 * b + a) := ⟨by unfold adlF; rw [← hz]⟩
      have hor := adl_or a b ha0 ha1 hb0 hb1
      clear hz hd
      go_wp2
      go_ret
      rw [KE.out]
      rw [← hor]
      exact ⟨rfl, rfl⟩

set_option maxHeartbeats 1000000 in
set_option maxRecDepth 100000 in
theorem radler_any {S : Nat → Prop} (w : World) (v : Value) (l : List Int) (hl : AllB l) (hr : Rd .u8 S w v l) :
    Calls Tryd.prog 15 #[v] w fun e w' => e = .returned (.int .u32 (adlF l)) ∧ w' = w := by
  obtain ⟨va, vc, rfl, -, hlc, hcm⟩ := hr.form
  have KR := Kept.mk hr
  have KL := Kept.mk hl
  have hlen : l.length ≤ 9223372036854775807 := by unfold maxLen at hcm; omega
  clear hr hl hcm
  go_enter Tryd.func15, Tryd.ntmps15
  go_wp2
  go_loopw [3, 4, 9, 6] (fun s3 s4 s9 _ wr => wr = w ∧ ∃ (k : Nat) (a b : Int), k ≤ l.length ∧ s9 = .int .i64 k ∧ s3 = .int .u32 a ∧ s4 = .int .u32 b ∧ adlP (l.drop k) a b = adlP l 1 0 ∧ 0 ≤ a ∧ a < 65521 ∧ 0 ≤ b ∧ b < 65521) (fun _ _ s9 _ _ => l.length - (intOf s9).toNat)
  case atStart => exact ⟨rfl, 0, 1, 0, by omega, rfl, rfl, rfl, by simp, by omega, by omega, by omega, by omega⟩
  case round =>
    obtain ⟨rfl, k, a, b, hk, rfl, rfl, rfl, hz, ha0, ha1, hb0, hb1⟩ := hrel
    by_cases hlt : k < l.length
    · have hlti : (k : Int) < (l.length : Int) := by omega
      obtain ⟨bb, off, cc, hva, -, -, -, -, hcells⟩ := KR.out.open (by omega)
      injection hva with hva1 hva2 hva3
      subst hva1
      have ck := hcells k hlt
      have hd : l.drop k = l.getD k 0 :: l.drop (k + 1) := by
        rw [List.drop_eq_getElem_cons hlt]
        simp [List.getD, List.getElem?_eq_getElem hlt]
      rw [hd, adlP] at hz
      have hby := KL.out.getD (by omega) k
      clear hd hcells
      generalize l.getD k 0 = x at *
      have KZ := Kept.mk hz
      clear hz
      have hx0 := hby.1
      have hx1 := hby.2
      clear hby
      have hm0 : 0 ≤ (a + x) % 65521 := by omega
      have hm1 : (a + x) % 65521 < 65521 := by omega
      go_wp2
      go_roundw
      case rel => exact ⟨trivial, k + 1, (a + x) % 65521, (b + (a + x) % 65521) % 65521, by omega, by go_num, rfl, rfl, KZ.out, by omega, by omega, by omega, by omega⟩
      case measure => simp [intOf]; omega
    · have hd : l.drop k = [] := List.eq_nil_of_length_eq_zero (by simp; omega)
      rw [hd, adlP] at hz
      have KE : Kept (adlF l = 65536 * b + a) := ⟨by unfold adlF; rw [← hz]⟩
      have hor := adl_or a b ha0 ha1 hb0 hb1
      clear hz hd
      go_wp2
      go_ret
      rw [KE.out]
      exact ⟨rfl, rfl⟩

set_option maxHeartbeats 1000000 in
set_option maxRecDepth 100000 in
theorem crc_any {S : Nat → Prop} (w : World) (v : Value) (l : List Int) (hl : AllB l) (hr : Rd .u8 S w v l) :
    Calls Tryd.prog 10 #[v] w fun e w' => e = .returned (.int .u32 (crcF l)) ∧ w' = w := by
  obtain ⟨va, vc, rfl, -, hlc, hcm⟩ := hr.form
  have KR := Kept.mk hr
  have KL := Kept.mk hl
  have hlen : l.length ≤ 9223372036854775807 := by unfold maxLen at hcm; omega
  clear hr hl hcm
  go_enter Tryd.func10, Tryd.ntmps10
  go_wp2
  go_loopw [3, 9] (fun s3 s9 wr => wr = w ∧ ∃ (k : Nat) (c : Int), k ≤ l.length ∧ s9 = .int .i64 k ∧ s3 = .int .u32 c ∧ crcP (l.drop k) c = crcP l 4294967295 ∧ 0 ≤ c ∧ c < 4294967296) (fun _ s9 _ => l.length - (intOf s9).toNat)
  case atStart => exact ⟨rfl, 0, 4294967295, by omega, rfl, rfl, by simp, by omega, by omega⟩
  case round =>
    obtain ⟨rfl, k, c, hk, rfl, rfl, hz, hc0, hc1⟩ := hrel
    by_cases hlt : k < l.length
    · have hlti : (k : Int) < (l.length : Int) := by omega
      obtain ⟨bb, off, cc, hva, -, -, -, -, hcells⟩ := KR.out.open (by omega)
      injection hva with hva1 hva2 hva3
      subst hva1 hva3
      clear hva2
      have ck := hcells k hlt
      have hd : l.drop k = l.getD k 0 :: l.drop (k + 1) := by
        rw [List.drop_eq_getElem_cons hlt]
        simp [List.getD, List.getElem?_eq_getElem hlt]
      rw [hd, crcP] at hz
      have hby := KL.out.getD (by omega) k
      clear hd hcells
      generalize l.getD k 0 = x at *
      have KZ := Kept.mk hz
      clear hz
      have hx0 := hby.1
      have hx1 := hby.2
      clear hby
      have hy := bits_w .xor c x
      obtain ⟨y, hyy⟩ : ∃ y, bits .xor .u32 c x = y := ⟨_, rfl⟩
      rw [hyy] at hy KZ
      have hy0 := hy.1
      have hy1 := hy.2
      clear hy
      go_wp2
      go_loopw [3, 17] (fun s3 sj wq => wq = wr ∧ ∃ (j : Nat) (z : Int), j ≤ 8 ∧ sj = .int .i64 j ∧ s3 = .int .u32 z ∧ crcN (8 - j) z = crcN 8 y ∧ 0 ≤ z ∧ z < 4294967296) (fun _ sj _ => 8 - (intOf sj).toNat)
      case atStart => exact ⟨rfl, 0, y, by omega, rfl, by rw [← hyy], rfl, hy0, hy1⟩
      case round =>
        obtain ⟨rfl, j, z, hj, rfl, rfl, hn, hz0, hz1⟩ := hrel
        clear hyy
        by_cases hlj : j < 8
        · have hlji : (j : Int) < 8 := by omega
          have hnj : ¬ (8 : Int) ≤ (j : Int) := by omega
          rw [show 8 - j = (8 - (j + 1)) + 1 from by omega, crcN] at hn
          have hand := and_one z hz0 hz1
          by_cases hb : z % 2 = 1
          · have hS : crcS z = bits .xor .u32 (z / 2) 3988292384 := by unfold crcS; rw [if_pos hb]
            have hSr := bits_w .xor (z / 2) 3988292384
            rw [hS] at hn
            have KN := Kept.mk hn
            have KS := Kept.mk hSr
            clear hn hSr hS
            go_wp2
            go_roundw
            case rel => exact ⟨trivial, j + 1, _, by omega, by go_num, rfl, KN.out, KS.out.1, KS.out.2⟩
            case measure => simp [intOf]; omega
          · have hS : crcS z = z / 2 := by unfold crcS; rw [if_neg hb]
            have hb0 : z % 2 = 0 := by omega
            rw [hS] at hn
            have KN := Kept.mk hn
            clear hn hS
            go_wp2
            go_roundw
            case rel => exact ⟨trivial, j + 1, _, by omega, by go_num, rfl, KN.out, by omega, by omega⟩
            case measure => simp [intOf]; omega
        · have hj8 : j = 8 := by omega
          subst hj8
          have hn' : z = crcN 8 y := hn
          rw [← hn'] at KZ
          clear hn hn'
          go_wp2
          go_roundw
          case rel => exact ⟨trivial, k + 1, z, by omega, by go_num, rfl, KZ.out, hz0, hz1⟩
          case measure => simp [intOf]; omega
    · have hd : l.drop k = [] := List.eq_nil_of_length_eq_zero (by simp; omega)
      rw [hd, crcP] at hz
      have KE : Kept (crcF l = bits .xor .u32 IntKind.u32.max c) := ⟨by unfold crcF; rw [← hz]⟩
      clear hz hd
      go_wp2
      go_ret
      rw [KE.out]

      exact ⟨rfl, rfl⟩

theorem rd_const (w : World) (arr : List Int) (t : TypeId) (fr : Nat × Nat) (hn : arr.length ≤ 1000000) : Rd .u8 anyB (w.alloc (.cells (cellsK .u8 arr).toArray t fr)) (.slice (some ⟨w.heap.size, 0, none⟩) arr.length arr.length) arr := by
  refine ⟨some ⟨w.heap.size, 0, none⟩, arr.length, rfl, Nat.le_refl _, by unfold maxLen; omega, (fun h => by cases h), fun _ => ⟨w.heap.size, 0, rfl, by simp, trivial, fun i hi => ?_⟩⟩
  rw [Nat.zero_add]
  simp only [World.cell?, heap_alloc_new]
  simp [cellsK, List.getElem?_eq_getElem hi, List.getD]

theorem adl_abc : adlF [97, 98, 99] = 38600999 := by decide
set_option maxRecDepth 100000 in
theorem crc_nine : crcF [49, 50, 51, 52, 53, 54, 55, 56, 57] = 3421780262 := by kernel_rfl

set_option maxHeartbeats 400000 in
set_option maxRecDepth 100000 in
theorem awake_any (w : World) : Calls Tryd.prog 4 #[] w fun e w' => e = .returned (.bool true) ∧ Below w.heap.size w w' := by
  have kc := fun (w : World) (C : Array Value) (n c : Nat) => Lib.run_convert_bytes_const (P := Tryd.prog) w 22 5 C n c Tryd.underlying22 Tryd.underlying5
  go_enter Tryd.func4, Tryd.ntmps4
  go_wp2_with fail
  refine Calls.mono (adler_any _ _ [97, 98, 99] (by intro x hx; simp at hx; omega) (rd_const w [97, 98, 99] 5 (3, 4) (by decide))) (fun e w1 hp => ?_)
  obtain ⟨rfl, hw1⟩ := hp
  have hbel : Below w.heap.size w w1 := by
    rw [hw1]
    exact (Below.refl _ _).alloc (Nat.le_refl _) _
  clear hw1
  rw [adl_abc]
  go_wp2_with fail
  refine Calls.mono (crc_any _ _ [49, 50, 51, 52, 53, 54, 55, 56, 57] (by intro x hx; simp at hx; omega) (rd_const w1 [49, 50, 51, 52, 53, 54, 55, 56, 57] 5 (9, 10) (by decide))) (fun e w2 hp => ?_)
  obtain ⟨rfl, hw2⟩ := hp
  have hbel2 : Below w.heap.size w w2 := by
    rw [hw2]
    exact hbel.alloc hbel.size _
  clear hw2
  rw [crc_nine]
  go_wp2
  go_ret
  exact ⟨rfl, hbel2⟩



/-- What is wrong with a head. -/
def hdF (p : List Int) : Int := if p.length < 2 then 5 else if p.getD 0 0 % 16 ≠ 8 ∨ 128 ≤ p.getD 0 0 ∨ (256 * p.getD 0 0 + p.getD 1 0) % 31 ≠ 0 ∨ p.getD 1 0 / 32 % 2 = 1 then 4 else 0
/-- What is wrong with the sum that stands there. -/
def smF (p : List Int) (s : Int) : Int := if p.length < 4 then 5 else if 16777216 * p.getD 0 0 + 65536 * p.getD 1 0 + 256 * p.getD 2 0 + p.getD 3 0 = s then 0 else 6

theorem and32_all : (List.range 256).all (fun n => decide (bits .and .i64 (n : Int) 32 = 32 * ((n : Int) / 32 % 2))) = true := by kernel_rfl
theorem and32 (y : Int) (h0 : 0 ≤ y) (h1 : y < 256) : bits .and .i64 y 32 = 32 * (y / 32 % 2) := by
  obtain ⟨n, rfl⟩ := Int.eq_ofNat_of_zero_le h0
  have := List.all_eq_true.1 and32_all n (by simp; omega)
  simpa using this

theorem Rd.two {k : IntKind} {S : Nat → Prop} {w : World} {v : Value} {p : List Int} (h : Rd k S w v p) (h2 : 0 < p.length) : ∃ b off c, v = .slice (some ⟨b, off, none⟩) p.length c ∧ p.length ≤ c ∧ ∀ i, i < p.length → w.cell? ⟨b, off + i, none⟩ = some (.int k (p.getD i 0)) := by
  obtain ⟨b, off, c, hv, -, h4, -, -, h5⟩ := h.open h2
  exact ⟨b, off, c, hv, h4, h5⟩

set_option maxHeartbeats 1000000 in
set_option maxRecDepth 100000 in
theorem checkHead_any {S : Nat → Prop} (w : World) (v : Value) (p : List Int) (hp : AllB p) (hr : Rd .u8 S w v p) :
    Calls Tryd.prog 11 #[v] w fun e w' => e = .returned (.int .i64 (hdF p)) ∧ Below w.heap.size w w' := by
  obtain ⟨va, vc, rfl, -, hlc, hcm⟩ := hr.form
  by_cases h2 : p.length < 2
  · have hh : hdF p = 5 := by unfold hdF; rw [if_pos h2]
    have h2i : (p.length : Int) < 2 := by omega
    rw [hh]
    go_enter Tryd.func11, Tryd.ntmps11
    go_wp2
    go_ret
    exact ⟨rfl, Below.refl _ _⟩
  · obtain ⟨b, off, c, hv, -, hc⟩ := hr.two (by omega)
    injection hv with hv1 hv2 hv3
    subst hv1
    have h2i : ¬ (p.length : Int) < 2 := by omega
    have hx1 : (0 : Int) < (p.length : Int) := by omega
    have hx2 : (1 : Int) < (p.length : Int) := by omega
    have c0 := hc 0 (by omega)
    have c1 := hc 1 (by omega)
    rw [Nat.add_zero] at c0
    have hh : hdF p = if p.getD 0 0 % 16 ≠ 8 ∨ 128 ≤ p.getD 0 0 ∨ (256 * p.getD 0 0 + p.getD 1 0) % 31 ≠ 0 ∨ p.getD 1 0 / 32 % 2 = 1 then 4 else 0 := by unfold hdF; rw [if_neg h2]
    have hb0 := hp.getD (by omega) 0
    have hb1 := hp.getD (by omega) 1
    rw [hh]
    clear hh hc hr hp hv2 hv3
    generalize p.getD 0 0 = x at *
    generalize p.getD 1 0 = y at *
    have hand := and32 y hb1.1 hb1.2
    obtain ⟨hx0, hx256⟩ := hb0
    obtain ⟨hy0, hy256⟩ := hb1
    by_cases e1 : x % 16 = 8
    · by_cases e2 : 128 ≤ x
      · rw [if_pos (by omega)]
        go_enter Tryd.func11, Tryd.ntmps11
        go_wp2
        go_quiet (fail)
        go_wp2
        go_ret
        exact ⟨rfl, below_drewN (Below.refl _ _) _⟩
      · by_cases e3 : (256 * x + y) % 31 = 0
        · by_cases e4 : y / 32 % 2 = 1
          · rw [if_pos (by omega)]
            have hand2 : bits .and .i64 y 32 = 32 := by rw [hand, e4]; rfl
            clear hand
            go_enter Tryd.func11, Tryd.ntmps11
            go_wp2
            go_quiet (fail)
            go_wp2
            go_ret
            exact ⟨rfl, below_drewN (Below.refl _ _) _⟩
          · rw [if_neg (by omega)]
            have hand2 : bits .and .i64 y 32 = 0 := by rw [hand, show y / 32 % 2 = 0 from by omega]; rfl
            clear hand
            go_enter Tryd.func11, Tryd.ntmps11
            go_wp2
            go_quiet (fail)
            go_wp2
            go_ret
            exact ⟨rfl, below_drewN (Below.refl _ _) _⟩
        · rw [if_pos (by omega)]
          go_enter Tryd.func11, Tryd.ntmps11
          go_wp2
          go_quiet (fail)
          go_wp2
          go_ret
          exact ⟨rfl, below_drewN (Below.refl _ _) _⟩
    · rw [if_pos (by omega)]
      go_enter Tryd.func11, Tryd.ntmps11
      go_wp2
      go_quiet (fail)
      go_wp2
      go_ret
      exact ⟨rfl, below_drewN (Below.refl _ _) _⟩

theorem big_or (a b c d : Int) (a0 : 0 ≤ a) (a1 : a < 256) (b0 : 0 ≤ b) (b1 : b < 256) (c0 : 0 ≤ c) (c1 : c < 256) (d0 : 0 ≤ d) (d1 : d < 256) :
    bits .or .u32 (bits .or .u32 (bits .or .u32 (a * 16777216) (b * 65536)) (c * 256)) d = 16777216 * a + 65536 * b + 256 * c + d := by
  rw [or_add 24 (a * 16777216) (b * 65536) (by omega) (by omega) (by omega) (by omega) (by omega) (by omega), or_add 16 (a * 16777216 + b * 65536) (c * 256) (by omega) (by omega) (by omega) (by omega) (by omega) (by omega), or_add 8 (a * 16777216 + b * 65536 + c * 256) d (by omega) (by omega) (by omega) (by omega) (by omega) (by omega)]
  omega

set_option maxHeartbeats 1000000 in
set_option maxRecDepth 100000 in
theorem checkSum_any {S : Nat → Prop} (w : World) (v : Value) (p : List Int) (s : Int) (hp : AllB p) (hr : Rd .u8 S w v p) :
    Calls Tryd.prog 13 #[v, .int .u32 s] w fun e w' => e = .returned (.int .i64 (smF p s)) ∧ Below w.heap.size w w' := by
  obtain ⟨va, vc, rfl, -, hlc, hcm⟩ := hr.form
  by_cases h2 : p.length < 4
  · have hh : smF p s = 5 := by unfold smF; rw [if_pos h2]
    have h2i : (p.length : Int) < 4 := by omega
    rw [hh]
    go_enter Tryd.func13, Tryd.ntmps13
    go_wp2
    go_ret
    exact ⟨rfl, Below.refl _ _⟩
  · obtain ⟨b, off, c, hv, -, hc⟩ := hr.two (by omega)
    injection hv with hv1 hv2 hv3
    subst hv1
    have h2i : ¬ (p.length : Int) < 4 := by omega
    have hx1 : (0 : Int) < (p.length : Int) := by omega
    have hx2 : (1 : Int) < (p.length : Int) := by omega
    have hx3 : (2 : Int) < (p.length : Int) := by omega
    have hx4 : (3 : Int) < (p.length : Int) := by omega
    have c0 := hc 0 (by omega)
    have c1 := hc 1 (by omega)
    have c2 := hc 2 (by omega)
    have c3 := hc 3 (by omega)
    rw [Nat.add_zero] at c0
    have hh : smF p s = if 16777216 * p.getD 0 0 + 65536 * p.getD 1 0 + 256 * p.getD 2 0 + p.getD 3 0 = s then 0 else 6 := by unfold smF; rw [if_neg h2]
    have hb0 := hp.getD (by omega) 0
    have hb1 := hp.getD (by omega) 1
    have hb2 := hp.getD (by omega) 2
    have hb3 := hp.getD (by omega) 3
    rw [hh]
    clear hh hc hr hp hv2 hv3
    generalize p.getD 0 0 = x0 at *
    generalize p.getD 1 0 = x1 at *
    generalize p.getD 2 0 = x2 at *
    generalize p.getD 3 0 = x3 at *
    have hor := big_or x0 x1 x2 x3 hb0.1 hb0.2 hb1.1 hb1.2 hb2.1 hb2.2 hb3.1 hb3.2
    obtain ⟨l0, u0⟩ := hb0
    obtain ⟨l1, u1⟩ := hb1
    obtain ⟨l2, u2⟩ := hb2
    obtain ⟨l3, u3⟩ := hb3
    by_cases he : 16777216 * x0 + 65536 * x1 + 256 * x2 + x3 = s
    · rw [if_pos he]
      subst he
      go_enter Tryd.func13, Tryd.ntmps13
      go_wp2
      go_quiet (fail)
      go_wp2
      go_ret
      exact ⟨rfl, below_drewN (Below.refl _ _) _⟩
    · rw [if_neg he]
      go_enter Tryd.func13, Tryd.ntmps13
      go_wp2
      go_quiet (fail)
      go_wp2
      go_ret
      exact ⟨rfl, below_drewN (Below.refl _ _) _⟩


theorem storedGo_le (p : List Int) (M : Nat) : ∀ (n : Nat) (out : List Int) (t : Nat) (o : List Int) (t' : Nat), t ≤ 8 * p.length → storedGo p M n out t = .ok o t' → t' ≤ 8 * p.length
  | 0, out, t, o, t', ht, h => by rw [storedGo] at h; cases h; omega
  | n + 1, out, t, o, t', ht, h => by
    rw [storedGo] at h
    rcases h1 : numF p 8 t with ⟨a, t1⟩ | er
    · rw [h1] at h
      dsimp only at h
      have := numF_ok h1
      split at h
      · cases h
      · exact storedGo_le p M n _ _ _ _ (by omega) h
    · rw [h1] at h; cases h
theorem wayF_le {p : List Int} {M : Nat} {y : Int} {out o : List Int} {t t' : Nat} (h : wayF p M y out t = .ok o t') : t' ≤ 8 * p.length := by
  unfold wayF at h
  split at h
  · unfold storedF at h
    rcases h1 : numF p 16 ((t + 7) / 8 * 8) with ⟨a, t1⟩ | er
    · rw [h1] at h
      dsimp only at h
      rcases h2 : numF p 16 t1 with ⟨b, t2⟩ | er
      · rw [h2] at h
        dsimp only at h
        have := numF_ok h2
        split at h
        · exact storedGo_le p M _ _ _ _ _ (by omega) h
        · cases h
      · rw [h2] at h; cases h
    · rw [h1] at h; cases h
  · split at h
    · exact (blockF_ok okL okD _ _ _ _ _ h).2.1
    · split at h
      · rcases h1 : toldF p t with ⟨⟨c, d⟩, t1⟩ | er
        · rw [h1] at h
          dsimp only at h
          obtain ⟨x1, x2, x3, x4⟩ := toldF_ok h1
          exact (blockF_ok x1 x2 _ _ _ _ _ h).2.1
        · rw [h1] at h; cases h
      · cases h
theorem streamF_le {p : List Int} {M : Nat} : ∀ (f : Nat) (out : List Int) (t : Nat) (o : List Int) (t' : Nat), streamF p M f out t = .ok o t' → t' ≤ 8 * p.length
  | 0, _, _, _, _, h => by rw [streamF] at h; cases h
  | f + 1, out, t, o, t', h => by
    rw [streamF] at h
    rcases h1 : headF p t with ⟨⟨l, y⟩, t1⟩ | er
    · rw [h1] at h
      dsimp only at h
      rcases h2 : wayF p M y out t1 with ⟨o2, t2⟩ | er
      · rw [h2] at h
        dsimp only at h
        split at h
        · exact streamF_le f _ _ _ _ h
        · cases h
          exact wayF_le h2
      · rw [h2] at h; cases h
    · rw [h1] at h; cases h
section
variable {p o : List Int} {M t : Nat}
theorem inflF_n (h : inflF p M = .ok o t) : 1 ≤ (t + 7) / 8 ∧ (t + 7) / 8 ≤ p.length := by
  have h1 := streamF_ok _ _ _ _ _ h
  have h2 := streamF_le _ _ _ _ _ h
  omega
theorem inflF_len (h : inflF p M = .ok o t) : o.length ≤ M := by
  have h2 := streamF_le _ _ _ _ _ h
  rcases Nat.lt_or_ge M o.length with hl | hl
  · have hc := (streamF_cut (p := p) (q := p) (B := 8 * p.length) (L := M) (M := M) ⟨fun _ _ => rfl, Nat.le_refl _⟩ (8 * p.length + 1) (8 * p.length + 1) [] 0 (by omega) (by simp) (by omega) o t h).2.1 h2 hl
    have h' : streamF p M (8 * p.length + 1) [] 0 = .ok o t := h
    rw [h'] at hc
    cases hc
  · exact hl
theorem agr_take (n : Nat) (hn : n ≤ p.length) (more : List Int) : Agr p (p.take n ++ more) (8 * n) := by
  refine ⟨fun i hi => ?_, by simp; omega⟩
  unfold bitF
  congr 2
  have h1 : i / 8 < n := by omega
  simp only [List.getD, List.getElem?_append, List.length_take, List.getElem?_take]
  rw [if_pos (by omega), if_pos h1]
/-- What stands behind a stream makes no difference. -/
theorem ends_more (h : inflF p M = .ok o t) (more : List Int) : inflF (p.take ((t + 7) / 8) ++ more) o.length = .ok o t := by
  have hn := inflF_n h
  exact (streamF_cut (L := o.length) (agr_take ((t + 7) / 8) hn.2 more) (8 * p.length + 1) _ [] 0 (by omega) (by simp) (by omega) o t h).1 (by omega) (Nat.le_refl _)
/-- With fewer bytes it is too short. -/
theorem ends_short (h : inflF p M = .ok o t) (k : Nat) (hk : k < (t + 7) / 8) : inflF (p.take k) M = .bad .short := by
  have hn := inflF_n h
  have hl := inflF_len h
  have ha := agr_take (p := p) k (by omega) []
  rw [List.append_nil] at ha
  exact (streamF_cut (L := M) ha (8 * p.length + 1) _ [] 0 (by omega) (by simp) (by omega) o t h).2.2 (by simp; omega) (by omega) hl
/-- With too little room it is refused. -/
theorem ends_limit (h : inflF p M = .ok o t) (L : Nat) (hL : L < o.length) : inflF (p.take ((t + 7) / 8)) L = .bad .limit := by
  have hn := inflF_n h
  have ha := agr_take (p := p) ((t + 7) / 8) hn.2 []
  rw [List.append_nil] at ha
  exact (streamF_cut (L := L) ha (8 * p.length + 1) _ [] 0 (by omega) (by simp) (by omega) o t h).2.1 (by omega) hL
end


/-- What Unwrap answers. -/
def unF (p : List Int) (most : Nat) : Except Int (List Int × Nat) :=
  if hdF p ≠ 0 then .error (hdF p) else
  match inflF (p.drop 2) most with
  | .bad er => .error er.v
  | .ok o t => if smF (p.drop (2 + (t + 7) / 8)) (adlF o) ≠ 0 then .error (smF (p.drop (2 + (t + 7) / 8)) (adlF o)) else .ok (o, 2 + (t + 7) / 8 + 4)
def AfterU (w w' : World) (r : Except Int (List Int × Nat)) (e : Ending) : Prop :=
  match r with
  | .ok (o, n) => ∃ v, e = .returned (.tuple #[v, .int .i64 n, .int .i64 0]) ∧ Own .u8 5 w' w.heap.size v o ∧ AllB o ∧ Below w.heap.size w w'
  | .error c => e = .returned (.tuple #[.slice none 0 0, .int .i64 0, .int .i64 c]) ∧ Below w.heap.size w w'
theorem hdF_two {p : List Int} (h : hdF p = 0) : 2 ≤ p.length := by
  unfold hdF at h
  by_cases h2 : p.length < 2
  · rw [if_pos h2] at h
    cases h
  · omega
theorem infl_nil (most : Nat) : inflF [] most = .bad .short := rfl
theorem Rd.empty {k : IntKind} {S : Nat → Prop} {w : World} {b off c : Nat} (hc : c ≤ maxLen) : Rd k S w (.slice (some ⟨b, off, none⟩) 0 c) [] :=
  ⟨some ⟨b, off, none⟩, c, rfl, Nat.zero_le _, hc, (fun e => by cases e), fun h => by simp at h⟩

set_option maxHeartbeats 1000000 in
set_option maxRecDepth 100000 in
theorem unwrap_arg {v : Value} (w : World) (most : Int) (h : most < 0 ∨ 1048576 < most) :
    Calls Tryd.prog 5 #[v, .int .i64 most] w fun e w' => e = .returned (.tuple #[.slice none 0 0, .int .i64 0, .int .i64 1]) ∧ w' = w := by
  by_cases h0 : most < 0
  · clear h
    go_enter Tryd.func5, Tryd.ntmps5
    go_wp2
    go_ret3
    exact ⟨rfl, rfl⟩
  · have h1 : 1048576 < most := by omega
    clear h
    go_enter Tryd.func5, Tryd.ntmps5
    go_wp2
    go_ret3
    exact ⟨rfl, rfl⟩

set_option maxHeartbeats 400000 in
set_option maxRecDepth 100000 in
theorem unwrap_any {S : Nat → Prop} (v : Value) (p : List Int) (most : Nat) (w : World) (hT : Tab w) (hv : Rd .u8 S w v p) (hp : AllB p) (hl : p.length ≤ 1000000) (hm : most ≤ 1048576) :
    Calls Tryd.prog 5 #[v, .int .i64 most] w fun e w' => AfterU w w' (unF p most) e := by
  have hm0 : ¬ (most : Int) < 0 := by omega
  have hm1 : ¬ (1048576 : Int) < (most : Int) := by omega
  obtain ⟨va, vc, rfl, -, hlc, hcm⟩ := hv.form
  have KH := Kept.mk (checkHead_any w _ p hp hv)
  have KV := Kept.mk hv
  have KP := Kept.mk hp
  have KT := Kept.mk hT
  clear hv hp hT
  by_cases hh : hdF p = 0
  · have h2 := hdF_two hh
    obtain ⟨b, off, c, hvv, -, -⟩ := KV.out.two (by omega)
    injection hvv with hv1 hv2 hv3
    subst hv1 hv3
    have KHH := Kept.mk hh
    rw [hh] at KH
    clear hv2 hh
    have hx0 : (2 : Int) ≤ (p.length : Int) := by omega
    have hx1 : (2 : Int) ≤ (vc : Int) := by omega
    have hx2 : (p.length : Int) ≤ (vc : Int) := by omega
    by_cases hc2 : vc = 2
    · subst hc2
      have hp2 : p.length = 2 := by omega
      have hd : p.drop 2 = [] := List.eq_nil_of_length_eq_zero (by simp; omega)
      have hu : unF p most = .error 5 := by
        unfold unF
        rw [if_neg (by rw [KHH.out]; simp), hd, infl_nil]
        rfl
      rw [hu]
      have KL0 : Kept (p.length - 2 = 0) := ⟨by omega⟩
      clear hu hd hp2
      go_enter Tryd.func5, Tryd.ntmps5
      go_wp2_with fail
      refine Calls.mono KH.out (fun e w1 hp => ?_)
      obtain ⟨rfl, hb1⟩ := hp
      have KB1 := Kept.mk hb1
      clear hb1
      have CI := Kept.mk (inflate_any (.slice (some ⟨b, off, none⟩) 0 0) [] most w1 (KT.out.far KB1.out) (Rd.empty (S := anyB) (by unfold maxLen; omega)) AllIn.nil (by simp) hm)
      rw [infl_nil] at CI
      go_wp2_with fail
      refine Calls.mono CI.out (fun e w2 hp => ?_)
      obtain ⟨rfl, hb2⟩ := hp
      have KB2 := Kept.mk (KB1.out.trans (hb2.mono KB1.out.size))
      clear hb2
      go_wp2
      go_ret3
      exact ⟨rfl, KB2.out⟩
    · rcases hq : inflF (p.drop 2) most with ⟨o, t⟩ | er
      · have hn := inflF_n hq
        obtain ⟨n, hnn⟩ : ∃ n, (t + 7) / 8 = n := ⟨_, rfl⟩
        rw [hnn] at hn
        simp only [List.length_drop] at hn
        have hu : unF p most = if smF (p.drop (2 + n)) (adlF o) ≠ 0 then .error (smF (p.drop (2 + n)) (adlF o)) else .ok (o, 2 + n + 4) := by
          unfold unF
          rw [if_neg (by rw [KHH.out]; simp), hq]
          dsimp only
          rw [hnn]
        have KU := Kept.mk hu
        rw [hu]
        obtain ⟨hn1, hn2⟩ := hn
        have hy1 : (2 : Int) + (n : Int) ≤ (p.length : Int) := by omega
        have hy2 : (2 : Int) + (n : Int) ≤ (vc : Int) := by omega
        have hy3 : (n : Int) ≤ 1000000 := by omega
        have KQ := Kept.mk hq
        have KNN := Kept.mk hnn
        clear hu hq hnn
        have hsm : ∃ x, smF (p.drop (2 + n)) (adlF o) = x := ⟨_, rfl⟩
        obtain ⟨x, hx⟩ := hsm
        rw [hx]
        have KX := Kept.mk hx
        clear hx
        go_enter Tryd.func5, Tryd.ntmps5
        go_wp2_with fail
        refine Calls.mono KH.out (fun e w1 hp => ?_)
        obtain ⟨rfl, hb1⟩ := hp
        have KB1 := Kept.mk hb1
        clear hb1
        have CI := Kept.mk (inflate_any _ (p.drop 2) most w1 (KT.out.far KB1.out) ((KV.out.dropAt 2 h2).later KB1.out (Nat.le_refl _)) (KP.out.drop 2) (by simp; omega) hm)
        rw [KQ.out] at CI
        go_wp2_with fail
        refine Calls.mono CI.out (fun e w2 hp => ?_)
        obtain ⟨ov, rfl, ho2, hao, -, hb2⟩ := hp
        rw [KNN.out]
        have KB2 := Kept.mk (KB1.out.trans (hb2.mono KB1.out.size))
        have KO2 := Kept.mk ho2
        have KAO := Kept.mk hao
        have CA := Kept.mk (adler_any (w2.drewN 1) ov o hao (ho2.rd.later (below_drewN (Below.refl _ w2) 1) (Nat.le_refl _)))
        have KVD := Kept.mk ((KV.out.later KB2.out (Nat.le_refl _)).later (below_drewN (Below.refl _ w2) 1) (Nat.le_refl _))
        clear ho2 hao hb2 CI
        have htn : (2 + (n : Int)).toNat = 2 + n := by omega
        have hz0 : (0 : Int) ≤ 2 + (n : Int) := by omega
        by_cases hcE : vc = 2 + n
        · subst hcE
          have hd0 : p.drop (2 + n) = [] := List.eq_nil_of_length_eq_zero (by simp; omega)
          have CS := Kept.mk (checkSum_any (w2.drewN 1) (.slice (some ⟨b, off, none⟩) 0 0) (p.drop (2 + n)) (adlF o) (KP.out.drop _) (by rw [hd0]; exact Rd.empty (S := anyB) (by unfold maxLen; omega)))
          rw [KX.out] at CS
          clear hd0
          go_upto_region 10 with fail
          refine wp_region_noPanic (wp_region_any (by kernel_rfl) ?_)
          show wpAny _ _ _ _ _ _ _ (w2.drewN 1)
          refine wpAny_take (i := 0) (v := .slice (some ⟨b, off, none⟩) p.length (2 + n)) rfl (by kernel_rfl) (by kernel_rfl) (by kernel_rfl) (fun _ _ _ h => h) (Or.inl ⟨rfl, fun W => by rfl⟩) ?_
          simp only [Act.put]
          refine wpAny_take (i := 1) (v := .int .i64 (2 + (n : Int))) rfl (by kernel_rfl) (by kernel_rfl) (by kernel_rfl) (fun _ _ _ h => h) (Or.inl ⟨rfl, fun W => by rfl⟩) ?_
          simp only [Act.put]
          refine wpAny_take (i := 2) (v := .slice (some ⟨b, off, none⟩) (p.length - (2 + n)) 0) rfl (by kernel_rfl) (by kernel_rfl) (by kernel_rfl) (fun _ _ _ h => h) (Or.inl ⟨rfl, fun W => by go_simp⟩) ?_
          simp only [Act.put]
          refine wpAny_take (i := 3) (v := ov) rfl (by kernel_rfl) (by kernel_rfl) (by kernel_rfl) (fun _ _ _ h => h) (Or.inl ⟨rfl, fun W => by rfl⟩) ?_
          simp only [Act.put]
          refine wpAny_one (i := 4) (by kernel_rfl) rfl rfl (fun K hK => ?_)
          go_simp
          refine Calls.mono CA.out (fun e w3 hp => ?_)
          obtain ⟨rfl, hw3⟩ := hp
          subst hw3
          refine hK _ _ ?_
          clear hK K
          refine wpAny_one (i := 5) (by kernel_rfl) rfl rfl (fun K hK => ?_)
          go_simp
          refine Calls.mono CS.out (fun e w4 hp => ?_)
          obtain ⟨rfl, hb4⟩ := hp
          refine hK _ _ ?_
          clear hK K
          have KB4 := Kept.mk (KB2.out.trans ((below_drewN (Below.refl _ _) 1).trans hb4 |>.mono KB2.out.size))
          have KO4 := Kept.mk (KO2.out.later ((below_drewN (Below.refl _ _) 1).trans hb4) (Nat.le_refl _))
          clear hb4
          refine wpAny_one (i := 6) (by kernel_rfl) rfl rfl (fun K hK => ?_)
          go_simp
          refine hK _ _ ?_
          clear hK K
          refine wpAny_done (by kernel_rfl) (NoPanic.normal ?_) _
          by_cases hx00 : x = 0
          · subst hx00
            go_wp2
            go_ret3
            have hcast : ((2 + n + 4 : Nat) : Int) = 2 + (n : Int) + 4 := by omega
            exact ⟨_, by rw [hcast]; rfl, KO4.out.mono KB1.out.size, KAO.out, KB4.out⟩
          · go_wp2
            go_ret3
            exact ⟨rfl, KB4.out⟩
        · have hcEi : ¬ (vc : Int) = 2 + (n : Int) := by omega
          have CS := Kept.mk (checkSum_any (w2.drewN 1) _ (p.drop (2 + n)) (adlF o) (KP.out.drop _) (KVD.out.dropAt (2 + n) (by omega)))
          rw [KX.out] at CS
          go_upto_region 10 with fail
          refine wp_region_noPanic (wp_region_any (by kernel_rfl) ?_)
          show wpAny _ _ _ _ _ _ _ (w2.drewN 1)
          refine wpAny_take (i := 0) (v := .slice (some ⟨b, off, none⟩) p.length vc) rfl (by kernel_rfl) (by kernel_rfl) (by kernel_rfl) (fun _ _ _ h => h) (Or.inl ⟨rfl, fun W => by rfl⟩) ?_
          simp only [Act.put]
          refine wpAny_take (i := 1) (v := .int .i64 (2 + (n : Int))) rfl (by kernel_rfl) (by kernel_rfl) (by kernel_rfl) (fun _ _ _ h => h) (Or.inl ⟨rfl, fun W => by rfl⟩) ?_
          simp only [Act.put]
          refine wpAny_take (i := 2) (v := .slice (some ⟨b, off + (2 + n), none⟩) (p.length - (2 + n)) (vc - (2 + n))) rfl (by kernel_rfl) (by kernel_rfl) (by kernel_rfl) (fun _ _ _ h => h) (Or.inl ⟨rfl, fun W => by go_simp⟩) ?_
          simp only [Act.put]
          refine wpAny_take (i := 3) (v := ov) rfl (by kernel_rfl) (by kernel_rfl) (by kernel_rfl) (fun _ _ _ h => h) (Or.inl ⟨rfl, fun W => by rfl⟩) ?_
          simp only [Act.put]
          refine wpAny_one (i := 4) (by kernel_rfl) rfl rfl (fun K hK => ?_)
          go_simp
          refine Calls.mono CA.out (fun e w3 hp => ?_)
          obtain ⟨rfl, hw3⟩ := hp
          subst hw3
          refine hK _ _ ?_
          clear hK K
          refine wpAny_one (i := 5) (by kernel_rfl) rfl rfl (fun K hK => ?_)
          go_simp
          refine Calls.mono CS.out (fun e w4 hp => ?_)
          obtain ⟨rfl, hb4⟩ := hp
          refine hK _ _ ?_
          clear hK K
          have KB4 := Kept.mk (KB2.out.trans ((below_drewN (Below.refl _ _) 1).trans hb4 |>.mono KB2.out.size))
          have KO4 := Kept.mk (KO2.out.later ((below_drewN (Below.refl _ _) 1).trans hb4) (Nat.le_refl _))
          clear hb4
          refine wpAny_one (i := 6) (by kernel_rfl) rfl rfl (fun K hK => ?_)
          go_simp
          refine hK _ _ ?_
          clear hK K
          refine wpAny_done (by kernel_rfl) (NoPanic.normal ?_) _
          by_cases hx00 : x = 0
          · subst hx00
            go_wp2
            go_ret3
            have hcast : ((2 + n + 4 : Nat) : Int) = 2 + (n : Int) + 4 := by omega
            exact ⟨_, by rw [hcast]; rfl, KO4.out.mono KB1.out.size, KAO.out, KB4.out⟩
          · go_wp2
            go_ret3
            exact ⟨rfl, KB4.out⟩
      · have hu : unF p most = .error er.v := by
          unfold unF
          rw [if_neg (by rw [KHH.out]; simp), hq]
        rw [hu]
        have her := er.rng
        have hne : ¬ er.v = 0 := by omega
        have KQ := Kept.mk hq
        clear hu hq her
        go_enter Tryd.func5, Tryd.ntmps5
        go_wp2_with fail
        refine Calls.mono KH.out (fun e w1 hp => ?_)
        obtain ⟨rfl, hb1⟩ := hp
        have KB1 := Kept.mk hb1
        clear hb1
        have CI := Kept.mk (inflate_any _ (p.drop 2) most w1 (KT.out.far KB1.out) ((KV.out.dropAt 2 h2).later KB1.out (Nat.le_refl _)) (KP.out.drop 2) (by simp; omega) hm)
        rw [KQ.out] at CI
        go_wp2_with fail
        refine Calls.mono CI.out (fun e w2 hp => ?_)
        obtain ⟨rfl, hb2⟩ := hp
        have KB2 := Kept.mk (KB1.out.trans (hb2.mono KB1.out.size))
        clear hb2
        go_wp2
        go_ret3
        exact ⟨rfl, KB2.out⟩
  · have hu : unF p most = .error (hdF p) := by unfold unF; rw [if_pos hh]
    rw [hu]
    clear hu
    generalize hdF p = x at *
    go_enter Tryd.func5, Tryd.ntmps5
    go_wp2_with fail
    refine Calls.mono KH.out (fun e w1 hp => ?_)
    obtain ⟨rfl, hb1⟩ := hp
    have KB1 := Kept.mk hb1
    clear hb1
    go_wp2
    go_ret3
    exact ⟨rfl, KB1.out⟩
end Go.Proofs.YthbcloplhjmkkaaDoor
