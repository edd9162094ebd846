/- What numbers' digits are read as, plainly. -/
import Derived.Test.YthoohbmpbahkgaaWrdDec
namespace Go.Proofs.Ythoohbmpbahkgaa
open Go.RowKit

def zeros : ByteArray := ⟨#[48, 48, 48, 48, 48, 48, 48, 48]⟩
theorem zeros_size (m : Nat) (h : m ≤ 8) : (zeros.extract 0 m).size = m := by rw [ByteArray.size_extract]; show min m 8 - 0 = m; omega
theorem numA_zeros (m : Nat) (h : m ≤ 8) : numA (zeros.extract 0 m) 0 = some 0 := by
  have : m = 0 ∨ m = 1 ∨ m = 2 ∨ m = 3 ∨ m = 4 ∨ m = 5 ∨ m = 6 ∨ m = 7 ∨ m = 8 := by omega
  rcases this with rfl | rfl | rfl | rfl | rfl | rfl | rfl | rfl | rfl <;> decide +kernel
theorem size_pos_dec (u : Nat) (h : u < 1000000000) : 1 ≤ (decD u).size ∧ (decD u).size ≤ 9 := by
  have := decD_size u 8 (by omega)
  omega
theorem digitsP_dec (u : Nat) (h : u < 1000000000) : digitsP (decD u) = ((u : Int), true) := by
  have hs := size_pos_dec u h
  rw [digitsP_eq, if_neg (by omega), numA_decD u h]
  rfl
theorem numberP_decD (u : Nat) (h : u < 1000000000) : numberP (decD u) = ((u : Int), true) := by
  have hs := size_pos_dec u h
  rw [numberP_plain _ (numA_first _ _ _ (numA_decD u h)), digitsP_dec u h]
theorem numberP_dec (k : Int) (h1 : -1000000000 < k) (h2 : k < 1000000000) : numberP (decP k) = (k, true) := by
  unfold decP
  split
  · rw [numberP_minus, digitsP_dec _ (by omega)]
    congr 1
    simp only
    omega
  · rw [numberP_decD _ (by omega)]
    congr 1
    omega
theorem numA_long (m u : Nat) (hm : m ≤ 8) (h : u < 1000000000) : numA (zeros.extract 0 m ++ decD u) 0 = some u := by
  rw [numA_app, numA_zeros m hm]
  exact numA_decD u h
theorem digitsP_long (m u : Nat) (hm : m ≤ 8) (h : u < 1000000000) : digitsP (zeros.extract 0 m ++ decD u) = if m + (decD u).size ≤ 9 then ((u : Int), true) else (0, false) := by
  have hs := size_pos_dec u h
  rw [digitsP_eq, numA_long m u hm h, ByteArray.size_append, zeros_size m hm]
  by_cases h9 : m + (decD u).size ≤ 9
  · rw [if_pos h9, if_neg (by omega)]; rfl
  · rw [if_neg h9, if_pos (by omega)]
theorem numberP_long (m u : Nat) (hm : m ≤ 8) (h : u < 1000000000) : numberP (zeros.extract 0 m ++ decD u) = if m + (decD u).size ≤ 9 then ((u : Int), true) else (0, false) := by
  rw [numberP_plain _ (numA_first _ _ _ (numA_long m u hm h)), digitsP_long m u hm h]
theorem digitsP_odd (u : Nat) (c : Int) (h : u < 1000000000) (hc : 0 ≤ c ∧ c ≤ 255) : (digitsP (decD u ++ oneB c)).2 = (digR c && decide ((decD u).size < 9)) := by
  have hs := size_pos_dec u h
  rw [digitsP_eq, ByteArray.size_append, oneB_size]
  by_cases h9 : (decD u).size < 9
  · rw [if_neg (by omega), numA_app, numA_decD u h, decide_eq_true h9]
    show (numX (numA (oneB c) u)).2 = _
    rw [numA_one c hc]
    cases digR c <;> rfl
  · rw [if_pos (by omega), decide_eq_false h9, Bool.and_false]
theorem first_app (a b : ByteArray) (h0 : 0 < a.size) (h : bt a 0 ≠ 45) : bt (a ++ b) 0 ≠ 45 := by rw [bt_app_left a b 0 h0]; exact h
theorem numberP_odd (k : Int) (c : Int) (h1 : -1000000000 < k) (h2 : k < 1000000000) (hc : 0 ≤ c ∧ c ≤ 255) : (numberP (decP k ++ oneB c)).2 = (digR c && decide ((decD k.natAbs).size < 9)) := by
  have hs := size_pos_dec k.natAbs (by omega)
  unfold decP
  split
  · rw [ByteArray.append_assoc, numberP_minus, digitsP_odd _ c (by omega) hc]
  · rw [numberP_plain _ (fun _ => first_app _ _ (by omega) (numA_first _ _ _ (numA_decD k.natAbs (by omega)) (by omega))), digitsP_odd _ c (by omega) hc]
/-- Two signs. -/
theorem numberP_twice (s : ByteArray) : (numberP (oneB 45 ++ (oneB 45 ++ s))).2 = false := by rw [numberP_minus, digitsP_minus]
theorem numberP_empty : numberP ⟨#[]⟩ = (0, false) := rfl
theorem numberP_alone : (numberP ⟨#[45]⟩).2 = false := by decide +kernel
theorem tmod_bd (n : Int) : -1000000000 < n.tmod 1000000000 ∧ n.tmod 1000000000 < 1000000000 := by
  rcases Int.lt_or_le n 0 with h | h
  · obtain ⟨p, rfl⟩ : ∃ p, n = -p := ⟨-n, by omega⟩
    rw [Int.neg_tmod, Int.tmod_eq_emod_of_nonneg (by omega)]
    omega
  · rw [Int.tmod_eq_emod_of_nonneg h]
    omega
end Go.Proofs.Ythoohbmpbahkgaa
