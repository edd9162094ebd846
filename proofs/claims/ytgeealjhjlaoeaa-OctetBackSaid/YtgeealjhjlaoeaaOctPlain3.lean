/- Numbers of parts of bytes. -/
import Derived.Test.YtgeealjhjlaoeaaOctPlain2
namespace Go.Proofs.Ytgeealjhjlaoeaa.Oct
open Go.RowKit (wrap64)

theorem bAt_take (l : List UInt8) (k i : Nat) (h : i < k) : bAt (l.take k) i = bAt l i := by
  unfold bAt
  rw [List.getElem?_take, if_pos h]
theorem bAt_drop (l : List UInt8) (k i : Nat) : bAt (l.drop k) i = bAt l (k + i) := by
  unfold bAt
  rw [List.getElem?_drop]
theorem natOf_take (l : List UInt8) (k : Nat) : ∀ j, j ≤ k → natOf (l.take k) j = natOf l j
  | 0, _ => rfl
  | j + 1, h => by rw [natOf, natOf, natOf_take l k j (by omega), bAt_take l k j (by omega)]
theorem natOf_split (l : List UInt8) (k : Nat) : ∀ m, natOf l (k + m) = natOf l k * 2 ^ (8 * m) + natOf (l.drop k) m
  | 0 => by simp [natOf]
  | m + 1 => by
    rw [← Nat.add_assoc, natOf, natOf_split l k m, natOf, bAt_drop, show 8 * (m + 1) = 8 * m + 8 by omega, Int.pow_add]
    generalize (2 : Int) ^ (8 * m) = t
    rw [Int.add_mul, Int.mul_assoc, show (2 : Int) ^ 8 = 256 from rfl]
    omega
theorem numI_nat (l : List UInt8) (k : Nat) (h : k ≤ 7) : numI l k = natOf l k := by
  have b := natOf_bd l k
  have hk : k = 0 ∨ k = 1 ∨ k = 2 ∨ k = 3 ∨ k = 4 ∨ k = 5 ∨ k = 6 ∨ k = 7 := by omega
  unfold numI
  rw [IntKind.wrap_i64]
  rcases hk with rfl | rfl | rfl | rfl | rfl | rfl | rfl | rfl <;> simp at b ⊢ <;> omega
theorem natOf_le (l : List UInt8) (k : Nat) (h : k ≤ 7) : 0 ≤ natOf l k ∧ natOf l k < 72057594037927936 := by
  have b := natOf_bd l k
  have hk : k = 0 ∨ k = 1 ∨ k = 2 ∨ k = 3 ∨ k = 4 ∨ k = 5 ∨ k = 6 ∨ k = 7 := by omega
  rcases hk with rfl | rfl | rfl | rfl | rfl | rfl | rfl | rfl <;> simp at b ⊢ <;> omega
theorem ext_list (s : ByteArray) (p q : Nat) : (s.extract p q).data.toList = (s.data.toList.take q).drop p := by
  simp [ByteArray.data_extract, Array.toList_extract, List.extract_eq_take_drop, List.drop_take]
/-- All is the first ones, and the rest. -/
theorem parts_eq (s : ByteArray) (k : Nat) (hk : k ≤ s.size) (h7 : s.size ≤ 7) :
    numI (s.extract 0 s.size).data.toList s.size = wrap64 (wrap64 (numI (s.extract 0 k).data.toList k * 2 ^ (8 * (s.size - k))) + numI (s.extract k s.size).data.toList (s.size - k)) := by
  have hl : s.data.toList.length = s.size := rfl
  have e1 : (s.extract 0 s.size).data.toList = s.data.toList := by rw [ext_list, List.drop_zero, List.take_of_length_le (by omega)]
  have e2 : (s.extract 0 k).data.toList = s.data.toList.take k := by rw [ext_list, List.drop_zero]
  have e3 : (s.extract k s.size).data.toList = s.data.toList.drop k := by rw [ext_list, List.take_of_length_le (by omega)]
  rw [e1, e2, e3, numI_nat _ _ h7, numI_nat _ _ (by omega), numI_nat _ _ (by omega), natOf_take _ _ _ (Nat.le_refl _)]
  have hs := natOf_split s.data.toList k (s.size - k)
  rw [show k + (s.size - k) = s.size by omega] at hs
  have b0 := natOf_le s.data.toList s.size h7
  have b1 := natOf_le (s.data.toList.drop k) (s.size - k) (by omega)
  rw [hs] at b0 ⊢
  have b2 := (natOf_le s.data.toList k (by omega)).1
  have b3 : 0 ≤ natOf s.data.toList k * 2 ^ (8 * (s.size - k)) := Int.mul_nonneg b2 (Int.pow_nonneg (by decide))
  generalize natOf s.data.toList k * 2 ^ (8 * (s.size - k)) = t at *
  simp only [wrap64]
  omega
theorem nums_natOf (l : List UInt8) : nums (natOf l l.length) l.length = l.map fun c => (c.toNat : Int) := by
  apply List.ext_getElem?
  intro p
  by_cases hp : p < l.length
  · have hs := natOf_split l (p + 1) (l.length - 1 - p)
    rw [show p + 1 + (l.length - 1 - p) = l.length by omega] at hs
    have b1 := natOf_bd (l.drop (p + 1)) (l.length - 1 - p)
    have b2 := bAt_bd l p
    have hpos : (0 : Int) < 2 ^ (8 * (l.length - 1 - p)) := Int.pow_pos (by decide)
    have e : (nums (natOf l l.length) l.length)[p]? = some (natOf l l.length / 2 ^ (8 * (l.length - 1 - p)) % 256) := by
      unfold nums
      rw [List.getElem?_map, List.getElem?_range hp]
      rfl
    rw [e, hs, List.getElem?_map, List.getElem?_eq_getElem hp]
    have e2 : (natOf l (p + 1) * 2 ^ (8 * (l.length - 1 - p)) + natOf (l.drop (p + 1)) (l.length - 1 - p)) / 2 ^ (8 * (l.length - 1 - p)) = natOf l (p + 1) := by
      rw [Int.mul_comm, Int.mul_add_ediv_left _ _ (by omega), Int.ediv_eq_zero_of_lt b1.1 b1.2, Int.add_zero]
    rw [e2, natOf]
    have e3 : bAt l p = (l[p].toNat : Int) := by
      unfold bAt
      rw [List.getElem?_eq_getElem hp]
      rfl
    have e4 : (natOf l p * 256 + bAt l p) % 256 = bAt l p := by omega
    rw [e4, e3]
    rfl
  · rw [List.getElem?_eq_none (by rw [nums_length]; omega), List.getElem?_eq_none (by simpa using hp)]
theorem putS_natOf (s : ByteArray) : putS (natOf s.data.toList s.size) s.size = s := by
  have h := nums_natOf s.data.toList
  rw [show s.data.toList.length = s.size from rfl] at h
  unfold putS
  rw [h]
  apply ByteArray.ext
  apply Array.ext'
  rw [strOfNums_data, List.map_map]
  conv => rhs; rw [← List.map_id s.data.toList]
  congr 1
  funext c
  simp
theorem put_all (s : ByteArray) (h7 : s.size ≤ 7) : putV (numI (s.extract 0 s.size).data.toList s.size) s.size = s := by
  have e1 : (s.extract 0 s.size).data.toList = s.data.toList := by rw [ext_list, List.drop_zero, List.take_of_length_le (show s.data.toList.length ≤ s.size from Nat.le_refl _)]
  rw [e1, numI_nat _ _ h7, putV_in _ _ (by omega), putS_natOf]

/-! What was put is read. -/
theorem emod_step (m t : Int) (ht : 0 < t) : (m / 256 % t) * 256 + m % 256 = m % (256 * t) := by
  have h1 := Int.emod_add_mul_ediv m 256
  have h2 := Int.emod_add_mul_ediv (m / 256) t
  have b1 := Int.emod_nonneg m (show (256 : Int) ≠ 0 by decide)
  have b2 := Int.emod_lt_of_pos m (show (0 : Int) < 256 by decide)
  have b3 := Int.emod_nonneg (m / 256) (show t ≠ 0 by omega)
  have b4 := Int.emod_lt_of_pos (m / 256) ht
  generalize m % 256 = r at *
  generalize m / 256 % t = r2 at *
  have e : m = (r2 * 256 + r) + (256 * t) * (m / 256 / t) := by
    rw [Int.mul_assoc]
    omega
  rw [e, Int.add_mul_emod_self_left]
  exact (Int.emod_eq_of_lt (by omega) (by omega)).symm
theorem putS_at (n : Int) (k j : Nat) (h : j < k) : bAt (putS n k).data.toList j = n / 2 ^ (8 * (k - 1 - j)) % 256 := by
  unfold bAt putS
  rw [strOfNums_data, List.getElem?_map]
  have e : (nums n k)[j]? = some (n / 2 ^ (8 * (k - 1 - j)) % 256) := by
    unfold nums
    rw [List.getElem?_map, List.getElem?_range h]
    rfl
  rw [e]
  have b1 := Int.emod_nonneg (n / 2 ^ (8 * (k - 1 - j))) (show (256 : Int) ≠ 0 by decide)
  have b2 := Int.emod_lt_of_pos (n / 2 ^ (8 * (k - 1 - j))) (show (0 : Int) < 256 by decide)
  generalize n / 2 ^ (8 * (k - 1 - j)) % 256 = c at *
  simp
  omega
theorem natOf_put_to (n : Int) (k : Nat) : ∀ j, j ≤ k → natOf (putS n k).data.toList j = n / 2 ^ (8 * (k - j)) % 2 ^ (8 * j)
  | 0, _ => by simp [natOf]
  | j + 1, h => by
    rw [natOf, natOf_put_to n k j (by omega), putS_at n k j (by omega)]
    have e1 : n / 2 ^ (8 * (k - j)) = n / 2 ^ (8 * (k - 1 - j)) / 256 := by
      rw [show 8 * (k - j) = 8 * (k - 1 - j) + 8 by omega, Int.pow_add, ← Int.ediv_ediv_of_nonneg (Int.pow_nonneg (by decide))]
      rfl
    have e2 : (2 : Int) ^ (8 * (j + 1)) = 256 * 2 ^ (8 * j) := by
      rw [show 8 * (j + 1) = 8 + 8 * j by omega, Int.pow_add]
      rfl
    have e3 : k - (j + 1) = k - 1 - j := by omega
    rw [e1, e2, e3, emod_step _ _ (Int.pow_pos (by decide))]
theorem natOf_put (n : Int) (k : Nat) : natOf (putS n k).data.toList k = n % 2 ^ (8 * k) := by
  rw [natOf_put_to n k k (Nat.le_refl _)]
  simp
theorem putS_mod (n : Int) (k : Nat) : putS (n % 2 ^ (8 * k)) k = putS n k := by
  have h := putS_natOf (putS n k)
  rw [putS_size, natOf_put] at h
  exact h
theorem nine (k : Nat) (h : k ≤ 8) : k = 0 ∨ k = 1 ∨ k = 2 ∨ k = 3 ∨ k = 4 ∨ k = 5 ∨ k = 6 ∨ k = 7 ∨ k = 8 := by omega
/-- The number that is read, without a sign, and with it. -/
theorem plain_mod (n : Int) (k : Nat) (h : k ≤ 8) : numI (putS n k).data.toList k % 2 ^ (8 * k) = n % 2 ^ (8 * k) := by
  unfold numI
  rw [natOf_put, IntKind.wrap_i64]
  rcases nine k h with rfl | rfl | rfl | rfl | rfl | rfl | rfl | rfl | rfl <;> simp <;> omega
theorem sgn_mod (v : Int) (k : Nat) (h : k ≤ 8) : sgn v k % 2 ^ (8 * k) = v % 2 ^ (8 * k) := by
  unfold sgn
  rcases nine k h with rfl | rfl | rfl | rfl | rfl | rfl | rfl | rfl | rfl <;> simp [wrap64] <;> omega
theorem put_plain (n : Int) (k : Nat) (h : k ≤ 8) : putV (numI (putS n k).data.toList k) k = putS n k := by
  rw [putV_in _ _ h, ← putS_mod, plain_mod n k h, putS_mod]
theorem put_signed (n : Int) (k : Nat) (h : k ≤ 8) : putV (sgn (numI (putS n k).data.toList k) k) k = putS n k := by
  rw [putV_in _ _ h, ← putS_mod, sgn_mod _ k h, plain_mod n k h, putS_mod]
theorem fits_a (n : Int) (h1 : -9223372036854775808 ≤ n) (h2 : n ≤ 9223372036854775807) : numI (putS n 8).data.toList 8 = n ∧ sgn (numI (putS n 8).data.toList 8) 8 = n := by
  have e : numI (putS n 8).data.toList 8 = n := by
    unfold numI
    rw [natOf_put, IntKind.wrap_i64]
    simp
    omega
  rw [e]
  exact ⟨rfl, sgn_eight n h1 h2⟩
theorem fits_b (n : Int) (k : Nat) (h0 : 0 < k) (h7 : k ≤ 7) (h1 : wrap64 (-2 ^ (8 * k - 1)) ≤ n) (h2 : n < wrap64 (2 ^ (8 * k - 1))) : sgn (numI (putS n k).data.toList k) k = n := by
  rw [numI_nat _ _ h7, natOf_put]
  unfold sgn
  have hk : k = 1 ∨ k = 2 ∨ k = 3 ∨ k = 4 ∨ k = 5 ∨ k = 6 ∨ k = 7 := by omega
  rcases hk with rfl | rfl | rfl | rfl | rfl | rfl | rfl <;> simp [wrap64] at h1 h2 ⊢ <;> omega
theorem fits_c (k : Nat) : sgn (numI (putS 0 k).data.toList k) k = 0 := by
  unfold numI
  rw [natOf_put]
  unfold sgn
  rw [Int.zero_emod, show IntKind.i64.wrap 0 = 0 from by decide, Int.zero_mul, show wrap64 0 = 0 from by decide, Int.zero_ediv]
theorem below_b (n : Int) (k : Nat) (h7 : k ≤ 7) (h0 : 0 ≤ n) (h1 : n < wrap64 (2 ^ (8 * k))) : numI (putS n k).data.toList k = n := by
  rw [numI_nat _ _ h7, natOf_put]
  have hk : k = 0 ∨ k = 1 ∨ k = 2 ∨ k = 3 ∨ k = 4 ∨ k = 5 ∨ k = 6 ∨ k = 7 := by omega
  rcases hk with rfl | rfl | rfl | rfl | rfl | rfl | rfl | rfl <;> simp [wrap64] at h1 ⊢ <;> omega
theorem app_behind (b x : ByteArray) (k : Nat) (h : b.size = k) : (b ++ x).extract k (k + x.size) = x := by
  subst h
  rw [ByteArray.extract_append_eq_right rfl rfl]

end Go.Proofs.Ytgeealjhjlaoeaa.Oct
