/-
  NamesFixed: the values.
-/
import Derived.Test.YtbagkmhhgngbcaaDoorN36
import Derived.Test.YtbagkmhhgngbcaaDoorN12
namespace Go.Proofs.YtbagkmhhgngbcaaDoor
open Go.RowKit

def longB (k : Nat) : ByteArray := ⟨(List.replicate k 97).toArray⟩
theorem longB_succ (k : Nat) : longB k ++ ⟨#[97]⟩ = longB (k + 1) := by
  have : (longB k ++ ⟨#[97]⟩).data.toList = (longB (k + 1)).data.toList := by
    rw [cat_data]
    show List.replicate k 97 ++ [97] = List.replicate (k + 1) 97
    rw [List.replicate_succ']
  rw [← Lib.mk_data (longB k ++ ⟨#[97]⟩), this, Lib.mk_data]
def fx1 (lg : ByteArray) : List ByteArray := [⟨#[97, 32, 98]⟩, ⟨#[46, 46, 46]⟩, ⟨#[46, 103, 105, 116, 120]⟩, lg, ⟨#[255]⟩]
def fx2 (lg : ByteArray) : List ByteArray := [⟨#[46, 71, 105, 116]⟩, ⟨#[97, 47, 98]⟩, ⟨#[]⟩, ⟨#[46]⟩, ⟨#[46, 46]⟩, lg ++ ⟨#[97]⟩, ⟨#[97, 0]⟩, ⟨#[46, 71, 73, 84]⟩]
def fx3 (lg : ByteArray) : List ByteArray := [⟨#[97, 47, 47, 98]⟩, ⟨#[47, 97]⟩, ⟨#[97, 47]⟩, ⟨#[]⟩, ⟨#[97, 47, 46, 46, 47, 98]⟩, ⟨#[97, 47, 46, 103, 105, 116, 47, 98]⟩, lg ++ ⟨#[47]⟩ ++ lg]
def fx4 : List ByteArray := [⟨#[114, 101, 102, 115, 47, 120]⟩, ⟨#[114, 101, 102, 115, 47, 104, 101, 97, 100, 115, 47, 97, 46, 108, 111, 99, 107]⟩, ⟨#[114, 101, 102, 115, 47, 104, 101, 97, 100, 115, 47, 97, 46, 46, 98]⟩, ⟨#[109, 97, 105, 110]⟩, ⟨#[114, 101, 102, 115, 47, 104, 101, 97, 100, 115, 47]⟩, ⟨#[114, 101, 102, 115, 47, 104, 101, 97, 100, 115, 47, 46, 97]⟩, ⟨#[114, 101, 102, 115, 47, 104, 101, 97, 100, 115, 47, 97, 46]⟩, ⟨#[114, 101, 102, 115, 47, 104, 101, 97, 100, 115, 47, 97, 32, 98]⟩, ⟨#[114, 101, 102, 115, 47, 104, 101, 97, 100, 115, 47, 97, 64, 123]⟩, ⟨#[114, 101, 102, 115, 47, 104, 101, 97, 100, 115, 47, 97, 126]⟩, ⟨#[104, 101, 97, 100]⟩, ⟨#[82, 101, 102, 115, 47, 104, 101, 97, 100, 115, 47, 97]⟩, ⟨#[114, 101, 102, 115, 47, 104, 101, 97, 100, 115, 47, 97, 127]⟩, ⟨#[114, 101, 102, 115, 47, 47, 97]⟩]
set_option maxRecDepth 100000 in
theorem fx1_all : (fx1 (longB 100)).all nameF = true := by kernel_rfl
set_option maxRecDepth 100000 in
theorem fx2_all : (fx2 (longB 100)).all (fun p => !nameF p) = true := by kernel_rfl
set_option maxRecDepth 100000 in
theorem fx3_all : (fx3 (longB 100)).all (fun p => !pathF p) = true := by kernel_rfl
set_option maxRecDepth 100000 in
theorem fx4_all : fx4.all (fun p => !refF p) = true := by kernel_rfl
set_option maxRecDepth 100000 in
theorem fx_r1 : refF ⟨#[114, 101, 102, 115, 47, 104, 101, 97, 100, 115, 47, 109, 97, 105, 110]⟩ = true := by kernel_rfl
theorem fx_r2 : refF ⟨#[72, 69, 65, 68]⟩ = true := by kernel_rfl
set_option maxRecDepth 100000 in
theorem fx_r3 : refF ⟨#[114, 101, 102, 115, 47, 104, 101, 97, 100, 115, 47, 64]⟩ = true := by kernel_rfl
set_option maxRecDepth 100000 in
theorem fx_p : pathF (longB 100 ++ ⟨#[47]⟩ ++ (longB 100).extract 1 100) = true := by kernel_rfl
theorem dec10000 : Lib.decDigits 10000 = [49, 48, 48, 48, 48] := by
  rw [Lib.decDigits, dif_neg (by omega), Lib.decDigits, dif_neg (by omega), Lib.decDigits, dif_neg (by omega), Lib.decDigits, dif_neg (by omega), Lib.decDigits, dif_pos (by omega)]
  rfl
theorem dec10100 : Lib.decDigits 10100 = [49, 48, 49, 48, 48] := by
  rw [Lib.decDigits, dif_neg (by omega), Lib.decDigits, dif_neg (by omega), Lib.decDigits, dif_neg (by omega), Lib.decDigits, dif_neg (by omega), Lib.decDigits, dif_pos (by omega)]
  rfl
theorem dec0 : Lib.decDigits 0 = [48] := by rw [Lib.decDigits, dif_pos (by omega)]; rfl
def fxI : Idt := ⟨⟨#[]⟩, ⟨#[]⟩, 5, 0⟩
def fxS : ByteArray := ⟨#[32, 60, 62, 32, 53, 32, 43, 48, 48, 48, 48]⟩
theorem fx_put : putS fxI = fxS ∧ putE fxI = 0 := by
  have h1 : idF fxI = true := by kernel_rfl
  have h2 : putB fxI = fxS := by
    unfold putB zoneB zdB fxI
    simp only [Lib.itoa]
    rw [if_neg (by omega), if_neg (by omega), if_neg (by omega)]
    have e1 : (5 : Int).toNat = 5 := rfl
    have e2 : (10000 + (((0 : Int).natAbs : Nat) : Int) / 60 * 100 + (((0 : Int).natAbs : Nat) : Int) % 60).toNat = 10000 := rfl
    rw [e1, e2, dec5, dec10000]
    rfl
  unfold putS putE
  rw [if_pos h1, if_pos h1]
  exact ⟨h2, rfl⟩
def fxQ1 : ByteArray := ⟨#[65, 32, 60, 98, 62, 32, 48, 53, 32, 43, 48, 48, 48, 48]⟩
theorem fx_q1 : prsF fxQ1 = (idt0, 4) := by
  have h : rfF fxQ1 = ⟨⟨#[65]⟩, ⟨#[98]⟩, 5, 0⟩ := by kernel_rfl
  have h2 : ¬ putB ⟨⟨#[65]⟩, ⟨#[98]⟩, 5, 0⟩ = fxQ1 := by
    unfold putB zoneB zdB
    simp only [Lib.itoa]
    rw [if_neg (by omega), if_neg (by omega), if_neg (by omega)]
    have e1 : (5 : Int).toNat = 5 := rfl
    have e2 : (10000 + ((((0 : Int)).natAbs : Nat) : Int) / 60 * 100 + ((((0 : Int)).natAbs : Nat) : Int) % 60).toNat = 10000 := rfl
    rw [e1, e2, dec5, dec10000]
    decide
  unfold prsF
  rw [h, if_neg (fun hh => h2 hh.2)]
def fxQ2 : ByteArray := ⟨#[65, 32, 60, 98, 62, 32, 53, 32, 45, 48, 48, 48, 48]⟩
theorem fx_q2 : prsF fxQ2 = (idt0, 4) := by
  have h : rfF fxQ2 = ⟨⟨#[65]⟩, ⟨#[98]⟩, 5, 0⟩ := by kernel_rfl
  have h2 : ¬ putB ⟨⟨#[65]⟩, ⟨#[98]⟩, 5, 0⟩ = fxQ2 := by
    unfold putB zoneB zdB
    simp only [Lib.itoa]
    rw [if_neg (by omega), if_neg (by omega), if_neg (by omega)]
    have e1 : (5 : Int).toNat = 5 := rfl
    have e2 : (10000 + ((((0 : Int)).natAbs : Nat) : Int) / 60 * 100 + ((((0 : Int)).natAbs : Nat) : Int) % 60).toNat = 10000 := rfl
    rw [e1, e2, dec5, dec10000]
    decide
  unfold prsF
  rw [h, if_neg (fun hh => h2 hh.2)]
def fxQ3 : ByteArray := ⟨#[65, 32, 60, 98, 62, 32, 53, 32, 43, 48, 48, 54, 48]⟩
theorem fx_q3 : prsF fxQ3 = (idt0, 4) := by
  have h : rfF fxQ3 = ⟨⟨#[65]⟩, ⟨#[98]⟩, 5, 60⟩ := by kernel_rfl
  have h2 : ¬ putB ⟨⟨#[65]⟩, ⟨#[98]⟩, 5, 60⟩ = fxQ3 := by
    unfold putB zoneB zdB
    simp only [Lib.itoa]
    rw [if_neg (by omega), if_neg (by omega), if_neg (by omega)]
    have e1 : (5 : Int).toNat = 5 := rfl
    have e2 : (10000 + ((((60 : Int)).natAbs : Nat) : Int) / 60 * 100 + ((((60 : Int)).natAbs : Nat) : Int) % 60).toNat = 10100 := rfl
    rw [e1, e2, dec5, dec10100]
    decide
  unfold prsF
  rw [h, if_neg (fun hh => h2 hh.2)]
def fxQ4 : ByteArray := ⟨#[65, 32, 60, 98, 62, 32, 53, 32, 43, 50, 52, 48, 48]⟩
theorem fx_q4 : prsF fxQ4 = (idt0, 4) := by
  have h : rfF fxQ4 = ⟨⟨#[65]⟩, ⟨#[98]⟩, 5, 1440⟩ := by kernel_rfl
  have h2 : ¬ idF ⟨⟨#[65]⟩, ⟨#[98]⟩, 5, 1440⟩ = true := by
    have : idF ⟨⟨#[65]⟩, ⟨#[98]⟩, 5, 1440⟩ = false := by kernel_rfl
    rw [this]
    exact Bool.false_ne_true
  unfold prsF
  rw [h, if_neg (fun hh => h2 hh.1)]
def fxQ5 : ByteArray := ⟨#[]⟩
theorem fx_q5 : prsF fxQ5 = (idt0, 4) := by
  have h : rfF fxQ5 = ⟨⟨#[]⟩, ⟨#[]⟩, 0, 0⟩ := by kernel_rfl
  have h2 : ¬ putB ⟨⟨#[]⟩, ⟨#[]⟩, 0, 0⟩ = fxQ5 := by
    unfold putB zoneB zdB
    simp only [Lib.itoa]
    rw [if_neg (by omega), if_neg (by omega), if_neg (by omega)]
    have e1 : (0 : Int).toNat = 0 := rfl
    have e2 : (10000 + ((((0 : Int)).natAbs : Nat) : Int) / 60 * 100 + ((((0 : Int)).natAbs : Nat) : Int) % 60).toNat = 10000 := rfl
    rw [e1, e2, dec0, dec10000]
    decide
  unfold prsF
  rw [h, if_neg (fun hh => h2 hh.2)]
end Go.Proofs.YtbagkmhhgngbcaaDoor
