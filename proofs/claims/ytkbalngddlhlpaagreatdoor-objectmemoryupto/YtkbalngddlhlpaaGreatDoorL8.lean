/-
  Walks: PutTag.
-/
import Derived.Test.YtkbalngddlhlpaaGreatDoorL4
import Derived.Test.YtkbalngddlhlpaaGreatDoorShH2
import Derived.Test.YtkbalngddlhlpaaGreatDoorO9
import Derived.Test.YtkbalngddlhlpaaGreatDoorN21
import Derived.Test.YtkbalngddlhlpaaGreatDoorO10B
import Derived.Test.YtkbalngddlhlpaaGreatDoorO14
namespace Go.Proofs.YtkbalngddlhlpaaGreatDoor
open Go.RowKit

theorem idF_facts {i : Idt} (h : idF i = true) : 0 ≤ i.tm ∧ i.tm ≤ 1099511627776 ∧ -1439 ≤ i.zn ∧ i.zn ≤ 1439 ∧ i.nm.size ≤ 100 ∧ i.em.size ≤ 100 := by
  unfold idF whoF at h
  simp only [Bool.and_eq_true, decide_eq_true_eq] at h
  omega
theorem putB_small {i : Idt} (h : idF i = true) : (putB i).size ≤ 300 := by
  have hb := idF_facts h
  have hTl : (⟨(Lib.itoa i.tm).toArray⟩ : ByteArray).size ≤ 20 := by
    show (Lib.itoa i.tm).toArray.size ≤ 20
    rw [List.size_toArray]
    unfold Lib.itoa
    rw [if_neg (by omega), Lib.decDigits_length]
    exact Nat.le_trans (ndig_le i.tm.toNat 13 (by omega) (by have : (10 ^ 13 : Nat) = 10000000000000 := by decide
                                                             omega)) (by omega)
  have hZl : (zoneB i.zn).size ≤ 10 := by
    unfold zoneB
    rw [size_cat, ByteArray.size_extract, zdB_size (by omega)]
    split
    · show 1 + _ ≤ 10; omega
    · show 1 + _ ≤ 10; omega
  have l2 : (⟨#[32, 60]⟩ : ByteArray).size = 2 := rfl
  have l3 : (⟨#[62, 32]⟩ : ByteArray).size = 2 := rfl
  have l4 : (⟨#[32]⟩ : ByteArray).size = 1 := rfl
  unfold putB
  simp only [size_cat]
  omega
theorem strL_back {l : List Int} (h : ∀ c ∈ l, 0 ≤ c ∧ c < 256) : strL (strOfNums l) = l := by
  unfold strL
  rw [strOfNums_data]
  induction l with
  | nil => rfl
  | cons c l ih =>
    have hc := h c List.mem_cons_self
    have := ih (fun x hx => h x (List.mem_cons_of_mem _ hx))
    simp only [List.map_cons, List.cons.injEq]
    refine ⟨?_, this⟩
    have e : (UInt8.ofNat c.toNat).toNat = c.toNat := by rw [UInt8.toNat_ofNat']; omega
    omega


def msF (s : ByteArray) : Int := if 65536 < s.size then 2 else if hasF s 0 = true then 4 else 0
theorem msF_least (s : ByteArray) : lsF (lsF 0 (if decide ((65536 : Int) < (s.size : Int)) = true then 2 else 0)) (if hasF s 0 = true then 4 else 0) = msF s := by
  unfold msF lsF
  by_cases h1 : 65536 < s.size
  · have h1i : (65536 : Int) < (s.size : Int) := by omega
    rw [if_pos h1, decide_eq_true h1i]
    cases hasF s 0 <;> simp
  · have h1i : ¬ (65536 : Int) < (s.size : Int) := by omega
    rw [if_neg h1, decide_eq_false h1i]
    cases hasF s 0 <;> simp
set_option maxHeartbeats 1000000 in
set_option maxRecDepth 100000 in
theorem message_any (s : ByteArray) (w : World) (hs : s.size < 9223372036854775807) : Calls Tryz.prog 86 #[.string s] w fun e w' => e = .returned (.int .i64 (msF s)) ∧ Below w.heap.size w w' := by
  have KM := Kept.mk (msF_least s)
  have KI1 := Kept.mk (if_any (decide ((65536 : Int) < (s.size : Int))) 2 w)
  have KH := Kept.mk (has_any s 0 0 rfl w hs)
  have KI2 : Kept (∀ W, Calls Tryz.prog 80 #[.bool (hasF s 0), .int .i64 4] W fun x w' => x = .returned (.int .i64 (if hasF s 0 = true then 4 else 0)) ∧ w' = W) := ⟨fun W => if_any (hasF s 0) 4 W⟩
  have KLs : Kept (∀ (a b : Int) (g : Nat) (w : World), w.heap[g]? = some (.cells #[.int .i64 a, .int .i64 b] 23) → Calls Tryz.prog 79 #[.slice (some ⟨g, 0, none⟩) 2 2] w fun e w' => e = .returned (.int .i64 (lsF (lsF 0 a) b)) ∧ w' = w) := ⟨fun a b g w h => least_two a b g w h⟩
  obtain ⟨q1, hq1⟩ : ∃ q1, decide ((65536 : Int) < (s.size : Int)) = q1 := ⟨_, rfl⟩
  rw [hq1] at KI1 KM
  generalize (if q1 = true then (2 : Int) else 0) = A1 at *
  generalize hA2 : (if hasF s 0 = true then (4 : Int) else 0) = A2 at *
  generalize hasF s 0 = q2 at *
  generalize msF s = MS at *
  clear hA2
  go_enter Tryz.func86, Tryz.ntmps86
  go_wp2_with fail
  refine Calls.mono KI1.out (fun e w1 hp => ?_)
  obtain ⟨rfl, hw1⟩ := hp
  have hw1 := hw1.symm
  subst hw1
  clear KI1
  go_wp2_with fail
  refine Calls.mono KH.out (fun e w2 hp => ?_)
  obtain ⟨rfl, hb2⟩ := hp
  have KB2 := Kept.mk hb2
  clear hb2 KH
  go_wp2_with fail
  refine Calls.mono (KI2.out w2) (fun e w3 hp => ?_)
  obtain ⟨rfl, hw3⟩ := hp
  have hw3 := hw3.symm
  subst hw3
  clear KI2
  have K4 := Kept.mk (KLs.out A1 A2 w2.heap.size (w2.alloc (.cells #[.int .i64 A1, .int .i64 A2] 23)) (heap_alloc_new w2 _))
  have KB4 : Kept (Below w.heap.size w (w2.alloc (.cells #[.int .i64 A1, .int .i64 A2] 23))) := ⟨KB2.out.alloc KB2.out.size _⟩
  rw [KM.out] at K4
  clear KLs KM
  go_wp2_with fail
  refine Calls.mono K4.out (fun e w5 hp => ?_)
  obtain ⟨rfl, hw5⟩ := hp
  have hw5 := hw5.symm
  subst hw5
  go_wp2
  go_ret
  exact ⟨rfl, KB4.out⟩


def LnAt (t word rest behind : List UInt8) : Prop := t = word ++ 32 :: (rest ++ 10 :: behind) ∧ (10 : UInt8) ∉ rest
def LnNo (t word : List UInt8) : Prop := ∀ rest behind, ¬ LnAt t word rest behind
def LnEnd (t word : ByteArray) (w : World) (e : Ending) (w' : World) : Prop :=
  (LnNo t.data.toList word.data.toList ∧ e = .returned (.tuple #[.string ⟨#[]⟩, .string ⟨#[]⟩, .bool false]) ∧ Below w.heap.size w w') ∨
  (∃ a b : ByteArray, LnAt t.data.toList word.data.toList a.data.toList b.data.toList ∧ e = .returned (.tuple #[.string a, .string b, .bool true]) ∧ Below w.heap.size w w')
theorem ext_list (t : ByteArray) (a b : Nat) : (t.extract a b).data.toList = (t.data.toList.drop a).take (b - a) := by
  rw [ByteArray.data_extract, Array.toList_extract, List.extract_eq_take_drop]
theorem ln_short {t word : ByteArray} (h : t.size < word.size + 1) : LnNo t.data.toList word.data.toList := fun rest behind hl => by
  have := congrArg List.length hl.1
  rw [← Lib.size_eq] at this
  simp only [List.length_append, List.length_cons, ← Lib.size_eq] at this
  omega
theorem ln_other {t word : ByteArray} (h : t.extract 0 (word.size + 1) ≠ word ++ ⟨#[32]⟩) : LnNo t.data.toList word.data.toList := fun rest behind hl => h (by
  apply ByteArray.ext
  apply Array.ext'
  rw [ext_list, hl.1, ByteArray.data_append, Array.toList_append, Lib.size_eq, List.drop_zero, Nat.sub_zero, List.take_append, List.take_of_length_le (by omega), Nat.add_sub_cancel_left]
  rfl)
theorem ln_none {t word : ByteArray} (h : ∀ j, word.size + 1 ≤ j → j < t.size → sN t j ≠ 10) : LnNo t.data.toList word.data.toList := fun rest behind hl => by
  have hlen := congrArg List.length hl.1
  rw [← Lib.size_eq] at hlen
  simp only [List.length_append, List.length_cons, ← Lib.size_eq] at hlen
  refine h (word.size + 1 + rest.length) (by omega) (by omega) ((sN_eq t 10 (by omega)).2 ?_)
  rw [hl.1, List.getElem?_append_right (by rw [← Lib.size_eq]; omega), ← Lib.size_eq, show word.size + 1 + rest.length - word.size = rest.length + 1 by omega, List.getElem?_cons_succ, List.getElem?_append_right (Nat.le_refl _), Nat.sub_self]
  rfl
theorem ln_yes {t word : ByteArray} {i : Nat} (hp : t.extract 0 (word.size + 1) = word ++ ⟨#[32]⟩) (h : ∀ j, word.size + 1 ≤ j → j < i → sN t j ≠ 10) (h1 : word.size + 1 ≤ i) (h2 : i < t.size) (hi : sN t i = 10) : LnAt t.data.toList word.data.toList (t.extract (word.size + 1) i).data.toList (t.extract (i + 1) t.size).data.toList := by
  have hl : t.data.toList.length = t.size := by rw [Lib.size_eq]
  have e1 : t.data.toList.take (word.size + 1) = word.data.toList ++ [32] := by
    have := congrArg (fun b : ByteArray => b.data.toList) hp
    rw [ext_list, List.drop_zero, Nat.sub_zero, ByteArray.data_append, Array.toList_append] at this
    exact this
  have e2 : t.data.toList[i]? = some 10 := (sN_eq t 10 h2).1 hi
  have e3 : t.data.toList.drop i = 10 :: t.data.toList.drop (i + 1) := by
    rw [List.drop_eq_getElem_cons (by omega)]
    rw [List.getElem?_eq_getElem (by omega)] at e2
    rw [Option.some.inj e2]
  refine ⟨?_, fun hm => ?_⟩
  · rw [ext_list, ext_list, List.take_of_length_le (i := t.size - (i + 1)) (by rw [List.length_drop]; omega), ← e3]
    have e4 : t.data.toList.drop (word.size + 1) = (t.data.toList.drop (word.size + 1)).take (i - (word.size + 1)) ++ t.data.toList.drop i := by
      have := List.take_append_drop (i - (word.size + 1)) (t.data.toList.drop (word.size + 1))
      rw [List.drop_drop, show word.size + 1 + (i - (word.size + 1)) = i by omega] at this
      exact this.symm
    rw [← e4]
    have e5 := List.take_append_drop (word.size + 1) t.data.toList
    rw [e1] at e5
    rw [List.append_assoc] at e5
    exact e5.symm
  · rw [ext_list] at hm
    obtain ⟨j, hj, he⟩ := List.getElem_of_mem hm
    have hj' : j < i - (word.size + 1) := by rw [List.length_take] at hj; omega
    refine h (word.size + 1 + j) (by omega) (by omega) ((sN_eq t 10 (by omega)).2 ?_)
    rw [List.getElem_take, List.getElem_drop] at he
    rw [List.getElem?_eq_getElem (by omega), he]
set_option maxHeartbeats 1000000 in
set_option maxRecDepth 100000 in
theorem line_any (t word : ByteArray) (w : World) (hs : t.size ≤ 1048576) (hw : word.size ≤ 100) : Calls Tryz.prog 42 #[.string t, .string word] w (LnEnd t word w) := by
  obtain ⟨n, hn⟩ : ∃ n, n = word.size + 1 := ⟨_, rfl⟩
  have e1 : IntKind.i64.wrap ((word.size : Int) + 1) = (n : Int) := by rw [IntKind.wrap_i64]; omega
  by_cases h1 : t.size < n
  · have h1i : (t.size : Int) < (n : Int) := by omega
    have KN : Kept (LnNo t.data.toList word.data.toList) := ⟨ln_short (by omega)⟩
    clear h1 hn
    go_enter Tryz.func42, Tryz.ntmps42
    go_wp2
    refine bodyPost_ret (v := .tuple #[.string ⟨#[]⟩, .string ⟨#[]⟩, .bool false]) (by simp [results, Tryz.results42]) rfl ?_
    exact .inl ⟨KN.out, rfl, Below.refl _ _⟩
  · have h1i : ¬ (t.size : Int) < (n : Int) := by omega
    have h1j : (n : Int) ≤ (t.size : Int) := by omega
    have hadd := run_string_add_sum (P := Tryz.prog) w word ⟨#[32]⟩ (by have : (⟨#[32]⟩ : ByteArray).size = 1 := rfl; omega)
    have hq := beq_bytes (t.extract 0 n) (word ++ ⟨#[32]⟩)
    by_cases h2 : t.extract 0 n = word ++ ⟨#[32]⟩
    · have hpre := h2
      rw [decide_eq_true h2] at hq
      have KY : Kept (∀ i, (∀ j, n ≤ j → j < i → sN t j ≠ 10) → n ≤ i → i < t.size → sN t i = 10 → LnAt t.data.toList word.data.toList (t.extract n i).data.toList (t.extract (i + 1) t.size).data.toList) := ⟨fun i g1 g2 g3 g4 => by subst hn; exact ln_yes hpre g1 g2 g3 g4⟩
      have KNn : Kept ((∀ j, n ≤ j → j < t.size → sN t j ≠ 10) → LnNo t.data.toList word.data.toList) := ⟨fun g => by subst hn; exact ln_none g⟩
      have Knt : Kept (n ≤ t.size) := ⟨by omega⟩
      clear h1 h2 hpre hn
      generalize word ++ (⟨#[32]⟩ : ByteArray) = WS at *
      go_enter Tryz.func42, Tryz.ntmps42
      go_wp2_with fail
      go_loopw [8] (fun iv wr => ∃ i : Nat, n ≤ i ∧ i ≤ t.size ∧ iv = .int .i64 i ∧ wr = w ∧ ∀ j, n ≤ j → j < i → sN t j ≠ 10) (fun iv _ => t.size - (intOf iv).toNat)
      case atStart => exact ⟨n, Nat.le_refl _, Knt.out, rfl, rfl, fun j g1 g2 => by omega⟩
      case round =>
        obtain ⟨i, hni, hit, rfl, hww, hno⟩ := hrel
        have hww := hww.symm
        subst hww
        have Kno := Kept.mk hno
        clear hno hadd hq e1
        by_cases hlt : i < t.size
        · have hii : (i : Int) < (t.size : Int) := by omega
          have hix := run_index_text w t .i64 i hlt
          by_cases h10 : sN t i = 10
          · have KL := Kept.mk (KY.out i Kno.out hni hlt h10)
            rw [h10] at hix
            obtain ⟨i1, hi1⟩ : ∃ i1, i1 = i + 1 := ⟨_, rfl⟩
            rw [← hi1] at KL
            have e4 : IntKind.i64.wrap ((i : Int) + 1) = (i1 : Int) := by rw [IntKind.wrap_i64]; omega
            have g1 : (n : Int) ≤ (i : Int) := by omega
            have g2 : (i : Int) ≤ (t.size : Int) := by omega
            have g3 : (i1 : Int) ≤ (t.size : Int) := by omega
            clear h10 hi1 KY KNn
            go_upto_region 8 with fail
            refine wp_region_noPanic ?_
            have hSt : True := trivial
            refine wp_region_held_drew (S := fun _ => True) (by kernel_rfl) hSt (fun hHeld => ?_)
            refine wpAnyH_takeD (i := 0) (d := some 35) (v := .string t) rfl rfl (by kernel_rfl) (by kernel_rfl) (by kernel_rfl) (fun _ _ _ h => h) (Or.inl ⟨by rfl, fun W hSw => by clear hSw; go_simp⟩) (by assumption) ?_
            simp only [Act.put, List.setIfInBounds_toArray, List.set_cons_zero, List.set_cons_succ]
            refine wpAnyH_takeD (i := 1) (d := some 36) (v := .int .i64 n) rfl rfl (by kernel_rfl) (by kernel_rfl) (by kernel_rfl) (fun _ _ _ h => h) (Or.inl ⟨by rfl, fun W hSw => by clear hSw; go_simp⟩) (by assumption) ?_
            simp only [Act.put, List.setIfInBounds_toArray, List.set_cons_zero, List.set_cons_succ]
            refine wpAnyH_takeD (i := 2) (d := some 37) (v := .int .i64 i) rfl rfl (by kernel_rfl) (by kernel_rfl) (by kernel_rfl) (fun _ _ _ h => h) (Or.inl ⟨by rfl, fun W hSw => by clear hSw; go_simp⟩) (by assumption) ?_
            simp only [Act.put, List.setIfInBounds_toArray, List.set_cons_zero, List.set_cons_succ]
            refine wpAnyH_takeD (i := 3) (d := some 38) (v := .string (t.extract n i)) rfl rfl (by kernel_rfl) (by kernel_rfl) (by kernel_rfl) (fun _ _ _ h => h) (Or.inl ⟨by rfl, fun W hSw => by clear hSw; go_simp⟩) (by assumption) ?_
            simp only [Act.put, List.setIfInBounds_toArray, List.set_cons_zero, List.set_cons_succ]
            refine wpAnyH_takeD (i := 4) (d := some 39) (v := .string t) rfl rfl (by kernel_rfl) (by kernel_rfl) (by kernel_rfl) (fun _ _ _ h => h) (Or.inl ⟨by rfl, fun W hSw => by clear hSw; go_simp⟩) (by assumption) ?_
            simp only [Act.put, List.setIfInBounds_toArray, List.set_cons_zero, List.set_cons_succ]
            refine wpAnyH_takeD (i := 5) (d := some 40) (v := .int .i64 i) rfl rfl (by kernel_rfl) (by kernel_rfl) (by kernel_rfl) (fun _ _ _ h => h) (Or.inl ⟨by rfl, fun W hSw => by clear hSw; go_simp⟩) (by assumption) ?_
            simp only [Act.put, List.setIfInBounds_toArray, List.set_cons_zero, List.set_cons_succ]
            refine wpAnyH_takeD (i := 6) (d := some 41) (v := .int .i64 i1) rfl rfl (by kernel_rfl) (by kernel_rfl) (by kernel_rfl) (fun _ _ _ h => h) (Or.inl ⟨by rfl, fun W hSw => by clear hSw; go_simp⟩) (by assumption) ?_
            simp only [Act.put, List.setIfInBounds_toArray, List.set_cons_zero, List.set_cons_succ]
            refine wpAnyH_takeD (i := 7) (d := some 42) (v := .string (t.extract i1 t.size)) rfl rfl (by kernel_rfl) (by kernel_rfl) (by kernel_rfl) (fun _ _ _ h => h) (Or.inl ⟨by rfl, fun W hSw => by clear hSw; go_simp⟩) (by assumption) ?_
            simp only [Act.put, List.setIfInBounds_toArray, List.set_cons_zero, List.set_cons_succ]
            refine wpAnyH_takeD (i := 8) (d := some 4) (v := .string (t.extract n i)) rfl rfl (by kernel_rfl) (by kernel_rfl) (by kernel_rfl) (fun _ _ _ h => h) (Or.inl ⟨by rfl, fun W hSw => by clear hSw; go_simp⟩) (by assumption) ?_
            simp only [Act.put, List.setIfInBounds_toArray, List.set_cons_zero, List.set_cons_succ]
            refine wpAnyH_takeD (i := 9) (d := some 5) (v := .string (t.extract i1 t.size)) rfl rfl (by kernel_rfl) (by kernel_rfl) (by kernel_rfl) (fun _ _ _ h => h) (Or.inl ⟨by rfl, fun W hSw => by clear hSw; go_simp⟩) (by assumption) ?_
            simp only [Act.put, List.setIfInBounds_toArray, List.set_cons_zero, List.set_cons_succ]
            refine wpAnyH_takeD (i := 10) (d := some 6) (v := .bool true) rfl rfl (by kernel_rfl) (by kernel_rfl) (by kernel_rfl) (fun _ _ _ h => h) (Or.inl ⟨by rfl, fun W hSw => by clear hSw; go_simp⟩) (by assumption) ?_
            simp only [Act.put, List.setIfInBounds_toArray, List.set_cons_zero, List.set_cons_succ]
            refine wpAnyH_done (by kernel_rfl) ?_ _
            refine NoPanic.normal ?_
            go_wp2
            refine bodyPost_ret (v := .tuple #[.string (t.extract n i), .string (t.extract i1 t.size), .bool true]) (by simp [results, Tryz.results42]) rfl ?_
            exact .inr ⟨_, _, KL.out, rfl, (Below.refl _ w).drew⟩
          · have KR : Kept (∀ j, n ≤ j → j < i + 1 → sN t j ≠ 10) := ⟨fun j g1 g2 => by
              rcases Nat.lt_or_ge j i with g | g
              · exact Kno.out j g1 g
              · rw [show j = i by omega]; exact h10⟩
            have e3 : IntKind.i64.wrap ((i : Int) + 1) = (i : Int) + 1 := by rw [IntKind.wrap_i64]; omega
            generalize sN t i = y at *
            go_wp2
            go_roundw
            case rel => exact ⟨i + 1, by omega, by omega, by go_num, trivial, KR.out⟩
            case measure => simp [intOf]; omega
        · have hii : ¬ (i : Int) < (t.size : Int) := by omega
          have KN : Kept (LnNo t.data.toList word.data.toList) := ⟨KNn.out fun j g1 g2 => Kno.out j g1 (by omega)⟩
          go_wp2
          refine bodyPost_ret (v := .tuple #[.string ⟨#[]⟩, .string ⟨#[]⟩, .bool false]) (by simp [results, Tryz.results42]) rfl ?_
          exact .inl ⟨KN.out, rfl, Below.refl _ _⟩
    · have KN : Kept (LnNo t.data.toList word.data.toList) := ⟨ln_other (by rw [← hn]; exact h2)⟩
      rw [decide_eq_false h2] at hq
      clear h1 h2 hn
      generalize word ++ (⟨#[32]⟩ : ByteArray) = WS at *
      go_enter Tryz.func42, Tryz.ntmps42
      go_wp2
      refine bodyPost_ret (v := .tuple #[.string ⟨#[]⟩, .string ⟨#[]⟩, .bool false]) (by simp [results, Tryz.results42]) rfl ?_
      exact .inl ⟨KN.out, rfl, Below.refl _ _⟩


theorem setL_mid : ∀ (vs pre old suf : List Value), old.length = vs.length → Sh.setL (pre ++ (old ++ suf)).toArray pre.length vs = (pre ++ (vs ++ suf)).toArray
  | [], pre, old, suf, h => by
    have : old = [] := List.eq_nil_of_length_eq_zero (by simpa using h)
    subst this
    rfl
  | v :: vs, pre, old, suf, h => by
    cases old with
    | nil => simp at h
    | cons o old =>
      have ih := setL_mid vs (pre ++ [v]) old suf (by simpa using h)
      have e : (pre ++ (o :: old ++ suf)).toArray.setIfInBounds pre.length v = (pre ++ [v] ++ (old ++ suf)).toArray := by
        rw [List.setIfInBounds_toArray]
        congr 1
        rw [List.set_append_right _ _ (Nat.le_refl _), Nat.sub_self]
        simp
      rw [Sh.setL, e]
      rw [List.length_append, List.length_singleton] at ih
      rw [ih]
      simp
section
variable {w w' : World} {g : Nat} {c : LbC}
theorem LbB.setTg (h : LbB w g c) (hok : c.ok) {ids : List Int} (hi : ids.length = 32) : LbB (w.setCells g 0 (cellsK .u8 ids)) g { c with tg := ids } := by
  have h1 := Sh.heap_setCells g 127 (cellsK .u8 ids) 0 w _ h
  have h2 := setL_mid (cellsK .u8 ids) [] (cellsK .u8 c.tg) c.tl (by rw [cellsK_length, cellsK_length, hok.1, hi])
  unfold LbB
  rw [h1]
  unfold LbC.l
  rw [List.nil_append, List.length_nil] at h2
  rw [h2]
  rfl
theorem LbB.setT (h : LbB w g c) (hok : c.ok) (j : Nat) (v : Value) (hj : j < 7) : (w.setCell ⟨g, 32 + j, none⟩ v).heap[g]? = some (.cells (cellsK .u8 c.tg ++ c.tl.set j v).toArray 127) := by
  rw [heap_setCell_same w g (32 + j) _ 127 v h]
  congr 2
  unfold LbC.l
  rw [List.setIfInBounds_toArray, List.set_append_right _ _ (by rw [cellsK_length, hok.1]; omega), cellsK_length, hok.1, Nat.add_sub_cancel_left]
theorem LbB.setMs (h : LbB w g c) (hok : c.ok) (x : ByteArray) : LbB (w.setCell ⟨g, 38, none⟩ (.string x)) g { c with ms := x } := h.setT hok 6 _ (by omega)
theorem LbB.frozen (h : LbB w g c) (i : Nat) : w.frozen? ⟨g, i, none⟩ = false := by
  unfold LbB at h
  simp [World.frozen?, h]
theorem LbB.other {g' i : Nat} (h : LbB w g c) (hne : g ≠ g') (u : Value) : LbB (w.setCell ⟨g', i, none⟩ u) g c := by
  unfold LbB at h ⊢
  rw [Below.heap_setCell _ _ _ _ hne]
  exact h
theorem LbB.there (h : LbB w g c) (hok : c.ok) (n : Nat) (hn : n ≤ 39) : w.there g 0 n := by
  intro j hj
  rw [Nat.zero_add]
  have hl := LbC.len hok
  have := h.range j (c.l[j]'(by omega)) (by rw [List.getElem?_eq_getElem])
  rw [Nat.zero_add] at this
  exact ⟨by rw [this]; rfl, h.frozen j⟩
end
def z32N : List Int := List.replicate 32 0
end Go.Proofs.YtkbalngddlhlpaaGreatDoor
