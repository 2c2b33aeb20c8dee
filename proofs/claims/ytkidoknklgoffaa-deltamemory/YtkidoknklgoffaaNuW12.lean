/-
  Walks: Size and DocSize.
-/
import Derived.Test.YtkidoknklgoffaaNuW11
namespace Go.Proofs.Ytkidoknklgoffaa.Nu
open Go.RowKit

theorem endOf_all (v : Value) (xs : List Int) (t : Int) (w : World) (h : Rd w v xs) (ht : t ≤ 9223372036854775807) (hl : xs.length + 20 ≤ 140737488355328) :
    Calls Try.prog 37 #[v, .int .i64 t] w fun e w' => e = .returned (.tuple #[.int .i64 (endS xs t).1, .int .i64 (endS xs t).2]) ∧ w = w' := by
  by_cases h0 : t < 0
  · refine (endOf_neg v t w h0).mono fun e w' hp => ⟨?_, hp.2.symm⟩
    rw [hp.1]
    simp [endS, h0]
  · obtain ⟨m, rfl⟩ := Int.eq_ofNat_of_zero_le (show 0 ≤ t by omega)
    exact (endOf_pos v xs m w h ht hl).mono fun e w' hp => ⟨hp.1, hp.2.symm⟩

theorem endS_ok {xs : List Int} {t : Int} (h : (endS xs t).2 = 0) : ∃ (n m : Nat), t = n ∧ endL (xs.drop n) = some m ∧ (endS xs t).1 = (n : Int) + m ∧ 1 ≤ m ∧ n + m ≤ xs.length := by
  unfold endS at h
  split at h
  · simp at h
  · rename_i h0
    obtain ⟨n, rfl⟩ := Int.eq_ofNat_of_zero_le (show 0 ≤ t by omega)
    rw [Int.toNat_natCast] at h
    cases he : endL (xs.drop n) with
    | none => simp [he] at h
    | some m =>
      have hb := endL_le he
      simp at hb
      refine ⟨n, m, rfl, he, ?_, hb.1, by omega⟩
      unfold endS
      rw [if_neg h0, Int.toNat_natCast, he]

theorem endS_err {xs : List Int} {t : Int} (h : (endS xs t).2 ≠ 0) : ((endS xs t).2 != 0) = true := by simpa using h

/-- A part of such a slice. -/
theorem Rd.sub {w : World} {b off c : Nat} {xs : List Int} (h : Rd w (.slice (some ⟨b, off, none⟩) xs.length c) xs) (t m : Nat) (hm : t + m ≤ xs.length) (h0 : 0 < xs.length) : Rd w (.slice (some ⟨b, off + t, none⟩) m (c - t)) ((xs.drop t).take m) := by
  have hlen : ((xs.drop t).take m).length = m := by simp; omega
  obtain ⟨a, c', hv, h1, h2, h3, h4, h5⟩ := h
  obtain ⟨b', off', ha, hlt, hc⟩ := h5 h0
  subst ha
  injection hv with e1 e2 e3
  injection e1 with e1
  injection e1 with e4 e5
  subst e3 e4 e5
  refine ⟨some ⟨b, off + t, none⟩, c - t, by rw [hlen], by omega, by omega, (h3.drop t).take m, (fun h => by cases h), fun hp => ⟨b, off + t, rfl, hlt, fun i hi => ?_⟩⟩
  have hi' : i < m := by omega
  rw [Nat.add_assoc, hc (t + i) (by omega)]
  simp [List.getD, hi']
theorem Rd.zero {w : World} (a : Option Addr) (c : Nat) (hc : c ≤ maxLen) (h : a = none → c = 0) : Rd w (.slice a 0 c) [] := ⟨a, c, rfl, Nat.zero_le _, hc, AllB.nil, h, fun h => by simp at h⟩

def sizeS (xs : List Int) (t : Int) : Int × Int × Int :=
  if (endS xs t).2 = 0 then
    if sizeV ((xs.drop t.toNat).take ((endS xs t).1 - t).toNat) < 18446744073709551616 then (sizeV ((xs.drop t.toNat).take ((endS xs t).1 - t).toNat), (endS xs t).1, 0) else (0, 0, 10)
  else (0, 0, (endS xs t).2)

theorem endS_cases {xs : List Int} {t : Int} (h : (endS xs t).2 ≠ 0) : t < 0 ∧ (endS xs t).2 = 1 ∨ 0 ≤ t ∧ (endS xs t).2 = 5 := by
  unfold endS at h ⊢
  by_cases h0 : t < 0
  · exact Or.inl ⟨h0, by rw [if_pos h0]⟩
  · refine Or.inr ⟨by omega, ?_⟩
    rw [if_neg h0] at h ⊢
    split at h
    · rfl
    · simp at h

theorem sizeS_some {xs : List Int} {n m : Nat} (he : (endS xs n).2 = 0) (h1 : (endS xs n).1 = (n : Int) + m) :
    sizeS xs n = if sizeV ((xs.drop n).take m) < 18446744073709551616 then (sizeV ((xs.drop n).take m), (n : Int) + m, 0) else (0, 0, 10) := by
  unfold sizeS
  rw [if_pos he, h1, Int.toNat_natCast, show ((n : Int) + m - n).toNat = m from by omega]

theorem Rd.capOf {w : World} {a : Option Addr} {c : Nat} {xs : List Int} (h : Rd w (.slice a xs.length c) xs) : xs.length ≤ c ∧ c ≤ 9223372036854775807 := by
  obtain ⟨a, c', hv, h1, h2, _⟩ := h
  injection hv with _ _ e3
  unfold maxLen at h2
  omega

set_option maxHeartbeats 1000000 in
theorem size_any (v : Value) (xs : List Int) (t : Int) (w : World) (h : Rd w v xs) (ht : t ≤ 9223372036854775807) (hl : xs.length + 20 ≤ 140737488355328) :
    Calls Try.prog 30 #[v, .int .i64 t] w fun e w' => e = .returned (.tuple #[.int .u64 (sizeS xs t).1, .int .i64 (sizeS xs t).2.1, .int .i64 (sizeS xs t).2.2]) ∧ w' = w := by
  have hcon := endOf_all v xs t w h ht hl
  by_cases he : (endS xs t).2 = 0
  · obtain ⟨n, m, rfl, hem, h1, hm1, hnm⟩ := endS_ok he
    rw [h1, he] at hcon
    have HC : Hid _ := hcon
    clear hcon
    obtain ⟨b, off, c, rfl, hlt, hc⟩ := h.open (by omega)
    have hrs := h.sub n m hnm (by omega)
    have hlen : ((xs.drop n).take m).length = m := by simp; omega
    have hcs := sizeValue_any _ _ w hrs (by omega)
    have HS : Hid _ := sizeS_some he h1
    have hcap := h.capOf
    clear hc h hrs he h1 hem hlen
    have hb1 : (n : Int) + m ≤ xs.length := by omega
    have hb2 : (n : Int) + m ≤ c := by omega
    have hb3 : ¬ c = n := by omega
    by_cases hV : sizeV ((xs.drop n).take m) < 18446744073709551616
    · have HR : Hid (sizeS xs n = (sizeV ((xs.drop n).take m), (n : Int) + m, 0)) := (by show _ = _; rw [HS.out, if_pos hV])
      rw [show sizeOk ((xs.drop n).take m) = true from by simp [sizeOk, hV], show sizeOut ((xs.drop n).take m) = sizeV ((xs.drop n).take m) from by simp [sizeOut, hV]] at hcs
      generalize sizeV ((xs.drop n).take m) = V at *
      have HCS : Hid _ := hcs
      clear hcs HS hV
      go_enter Try.func30, Try.ntmps30
      go_wp2_with fail
      refine Calls.mono HC.out (fun e w1 hp => ?_)
      obtain ⟨rfl, rfl⟩ := hp
      go_wp2_with fail
      refine Calls.mono HCS.out (fun e w1 hp => ?_)
      obtain ⟨rfl, hw⟩ := hp
      subst hw
      go_wp2
      go_ret3
      exact ⟨by rw [HR.out]; rfl, rfl⟩
    · have HR : Hid (sizeS xs n = (0, 0, 10)) := (by show _ = _; rw [HS.out, if_neg hV])
      rw [show sizeOk ((xs.drop n).take m) = false from by simp [sizeOk]; omega] at hcs
      have HCS : Hid _ := hcs
      clear hcs HS hV
      go_enter Try.func30, Try.ntmps30
      go_wp2_with fail
      refine Calls.mono HC.out (fun e w1 hp => ?_)
      obtain ⟨rfl, rfl⟩ := hp
      go_wp2_with fail
      refine Calls.mono HCS.out (fun e w1 hp => ?_)
      obtain ⟨rfl, hw⟩ := hp
      subst hw
      go_wp2
      go_ret3
      exact ⟨by rw [HR.out]; rfl, rfl⟩
  · have HR : Hid (sizeS xs t = (0, 0, (endS xs t).2)) := (by show _ = _; unfold sizeS; rw [if_neg he])
    have hne := endS_err he
    clear he h
    have HC : Hid _ := hcon
    clear hcon
    generalize (endS xs t).2 = E at *
    generalize (endS xs t).1 = E1 at *
    go_enter Try.func30, Try.ntmps30
    go_wp2_with fail
    refine Calls.mono HC.out (fun e w1 hp => ?_)
    obtain ⟨rfl, rfl⟩ := hp
    go_wp2
    go_ret3
    exact ⟨by rw [HR.out]; rfl, rfl⟩

set_option maxHeartbeats 1000000 in
theorem docSize_any (v : Value) (xs : List Int) (t : Int) (w : World) (h : Rd w v xs) (ht : t ≤ 9223372036854775807) (hl : xs.length + 20 ≤ 140737488355328) :
    Calls Try.prog 22 #[v, .int .i64 t] w fun e w' => e = .returned (.tuple #[.int .u64 (sizeS xs t).1, .int .i64 (sizeS xs t).2.1, .int .i64 (sizeS xs t).2.2]) ∧ w' = w := by
  by_cases he : (endS xs t).2 = 0
  · obtain ⟨n, m, rfl, hem, h1, hm1, hnm⟩ := endS_ok he
    have hcon := docEnd_pos v xs n w h ht hl
    rw [if_pos he, h1] at hcon
    have HC : Hid _ := hcon
    clear hcon
    obtain ⟨b, off, c, rfl, hlt, hc⟩ := h.open (by omega)
    have hrs := h.sub n m hnm (by omega)
    have hlen : ((xs.drop n).take m).length = m := by simp; omega
    have hcs := docSizeV_any _ _ w hrs (by omega)
    have HS : Hid _ := sizeS_some he h1
    have hcap := h.capOf
    clear hc h hrs he h1 hem hlen
    have hb1 : (n : Int) + m ≤ xs.length := by omega
    have hb2 : (n : Int) + m ≤ c := by omega
    have hb3 : ¬ c = n := by omega
    by_cases hV : sizeV ((xs.drop n).take m) < 18446744073709551616
    · have HR : Hid (sizeS xs n = (sizeV ((xs.drop n).take m), (n : Int) + m, 0)) := (by show _ = _; rw [HS.out, if_pos hV])
      rw [show sizeOk ((xs.drop n).take m) = true from by simp [sizeOk, hV], show sizeOut ((xs.drop n).take m) = sizeV ((xs.drop n).take m) from by simp [sizeOut, hV]] at hcs
      generalize sizeV ((xs.drop n).take m) = V at *
      have HCS : Hid _ := hcs
      clear hcs HS hV
      go_enter Try.func22, Try.ntmps22
      go_wp2_with fail
      refine Calls.mono HC.out (fun e w1 hp => ?_)
      obtain ⟨rfl, hw⟩ := hp
      subst hw
      go_wp2_with fail
      refine Calls.mono HCS.out (fun e w1 hp => ?_)
      obtain ⟨rfl, hw⟩ := hp
      subst hw
      go_wp2
      go_ret3
      exact ⟨by rw [HR.out]; rfl, rfl⟩
    · have HR : Hid (sizeS xs n = (0, 0, 10)) := (by show _ = _; rw [HS.out, if_neg hV])
      rw [show sizeOk ((xs.drop n).take m) = false from by simp [sizeOk]; omega] at hcs
      have HCS : Hid _ := hcs
      clear hcs HS hV
      go_enter Try.func22, Try.ntmps22
      go_wp2_with fail
      refine Calls.mono HC.out (fun e w1 hp => ?_)
      obtain ⟨rfl, hw⟩ := hp
      subst hw
      go_wp2_with fail
      refine Calls.mono HCS.out (fun e w1 hp => ?_)
      obtain ⟨rfl, hw⟩ := hp
      subst hw
      go_wp2
      go_ret3
      exact ⟨by rw [HR.out]; rfl, rfl⟩
  · have HR : Hid (sizeS xs t = (0, 0, (endS xs t).2)) := (by show _ = _; unfold sizeS; rw [if_neg he])
    rcases endS_cases he with ⟨h0, h1⟩ | ⟨h0, h1⟩
    · have H1 : Hid _ := h1
      clear h1 he h
      go_enter Try.func22, Try.ntmps22
      go_wp2
      go_ret3
      exact ⟨by rw [HR.out, H1.out]; rfl, rfl⟩
    · obtain ⟨n, rfl⟩ := Int.eq_ofNat_of_zero_le h0
      have hcon := docEnd_pos v xs n w h ht hl
      rw [if_neg he] at hcon
      have HC : Hid _ := hcon
      have H1 : Hid _ := h1
      clear hcon h1 he h
      go_enter Try.func22, Try.ntmps22
      go_wp2_with fail
      refine Calls.mono HC.out (fun e w1 hp => ?_)
      obtain ⟨rfl, hw⟩ := hp
      subst hw
      go_wp2
      go_ret3
      exact ⟨by rw [HR.out, H1.out]; rfl, rfl⟩
end Go.Proofs.Ytkidoknklgoffaa.Nu
