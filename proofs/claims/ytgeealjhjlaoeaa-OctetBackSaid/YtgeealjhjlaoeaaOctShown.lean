/- The contract of 'shown'; OctetSums' walk. -/
import Derived.Test.YtgeealjhjlaoeaaOctPut
import Derived.Test.YtgeealjhjlaoeaaOctSum
namespace Go.Proofs.Ytgeealjhjlaoeaa
open Go.RowKit Oct

theorem put258 : putV 258 3 = ⟨#[0, 1, 2]⟩ := by decide +kernel
theorem putm1 : putV (-1) 1 = ⟨#[255]⟩ := by decide +kernel
theorem sumC : sumS ⟨#[0, 0, 0, 1, 255]⟩ = 4278190081 := by decide +kernel

set_option maxHeartbeats 400000 in
theorem shown_any (w : World) :
    Calls Try.prog 12 #[] w fun e w' => e = .returned (.bool true) ∧ Below w.heap.size w w' := by
  go_enter Try.func12, Try.ntmps12
  go_wp2_with fail
  refine (put_any _ _ _).mono ?_
  rintro e w1 ⟨rfl, hb1⟩
  rw [put258]
  go_wp2_with fail
  refine (put_any _ _ _).mono ?_
  rintro e w2 ⟨rfl, hb2⟩
  rw [putm1]
  go_wp2_with fail
  refine (sum_any _ _ (by decide +kernel)).mono ?_
  rintro e w3 ⟨rfl, rfl⟩
  rw [sumC]
  go_wp2_with fail
  go_ret
  exact ⟨rfl, hb1.trans (hb2.mono hb1.size)⟩

theorem oct_size_append (x y : ByteArray) (n m : Nat) (hx : x.size ≤ n) (hy : y.size ≤ m) (h : n + m ≤ 1000) : (x ++ y).size ≤ maxLen := by
  unfold maxLen
  rw [ByteArray.size_append]
  omega

set_option maxHeartbeats 400000 in
theorem sums_walk (a b : ByteArray) (n : Int) (w : World) (ha : a.size ≤ maxLen) (hb : b.size ≤ maxLen) (hn : 0 ≤ n) :
    Calls Try.prog 9 #[.string a, .string b, .int .u8 n] w fun e w' => e = .returned (.bool true) ∧ Below w.heap.size w w' := by
  have f1 := fewS_size a
  have f2 := fewS_size b
  generalize hx : fewS a = x at *
  generalize hy : fewS b = y at *
  have HX := Lib.hid hx
  have HY := Lib.hid hy
  clear hx hy
  have n1 : 0 ≤ n % 9 := by omega
  have n2 : n % 9 ≤ 8 := by omega
  have HZ := Lib.hid (sumS_zeros y _ (zeros8 (n % 9).toNat))
  have HS1 := Lib.hid (sumS_append _ (y.extract 0 (y.size / 4 * 4)) (extract4_size x))
  have HS2 := Lib.hid (sumS_swap _ _ (extract4_size x) (extract4_size y))
  have z1 : (x.extract 0 (x.size / 4 * 4)).size ≤ 200 := by simp; omega
  have z2 : (y.extract 0 (y.size / 4 * 4)).size ≤ 200 := by simp; omega
  have z3 : ((⟨#[0, 0, 0, 0, 0, 0, 0, 0]⟩ : ByteArray).extract 0 (n % 9).toNat).size ≤ 8 := by
    rw [ByteArray.size_extract]
    have : (⟨#[0, 0, 0, 0, 0, 0, 0, 0]⟩ : ByteArray).size = 8 := rfl
    omega
  have Z1 := Lib.hid z1
  have Z2 := Lib.hid z2
  have Z3 := Lib.hid z3
  clear z1 z2 z3
  go_enter Try.func9, Try.ntmps9
  go_wp2_with fail
  refine (shown_any _).mono ?_
  rintro e w1 ⟨rfl, hb1⟩
  go_wp2_with fail
  refine (few_any _ _ ha).mono ?_
  rintro e w2 ⟨rfl, rfl⟩
  rw [HX.out]
  go_wp2_with fail
  refine (few_any _ _ hb).mono ?_
  rintro e w2 ⟨rfl, rfl⟩
  rw [HY.out]
  go_wp2_with fail
  generalize x.extract 0 (x.size / 4 * 4) = X at *
  generalize y.extract 0 (y.size / 4 * 4) = Y at *
  generalize (⟨#[0, 0, 0, 0, 0, 0, 0, 0]⟩ : ByteArray).extract 0 (n % 9).toNat = Z at *
  have z1 := Z1.out
  have z2 := Z2.out
  have z3 := Z3.out
  refine (sum_any _ _ (oct_size_append _ _ _ _ Z1.out Z2.out (by omega))).mono ?_
  rintro e w2 ⟨rfl, rfl⟩
  go_wp2_with fail
  refine (sum_any _ _ (by have := Z1.out; unfold maxLen; omega)).mono ?_
  rintro e w2 ⟨rfl, rfl⟩
  go_wp2_with fail
  refine (sum_any _ _ (by have := Z2.out; unfold maxLen; omega)).mono ?_
  rintro e w2 ⟨rfl, rfl⟩
  rw [HS1.out]
  go_wp2_with fail
  refine (sum_any _ _ (oct_size_append _ _ _ _ Z1.out Z2.out (by omega))).mono ?_
  rintro e w2 ⟨rfl, rfl⟩
  go_wp2_with fail
  refine (sum_any _ _ (oct_size_append _ _ _ _ Z2.out Z1.out (by omega))).mono ?_
  rintro e w2 ⟨rfl, rfl⟩
  rw [HS2.out]
  go_wp2_with fail
  refine (few_any _ _ hb).mono ?_
  rintro e w2 ⟨rfl, rfl⟩
  rw [HY.out]
  go_wp2_with fail
  refine (sum_any _ _ (oct_size_append _ _ _ _ f2 Z3.out (by omega))).mono ?_
  rintro e w2 ⟨rfl, rfl⟩
  rw [HZ.out]
  go_wp2_with fail
  refine (few_any _ _ hb).mono ?_
  rintro e w2 ⟨rfl, rfl⟩
  rw [HY.out]
  go_wp2_with fail
  refine (sum_any _ _ (by unfold maxLen; omega)).mono ?_
  rintro e w2 ⟨rfl, rfl⟩
  go_wp2_with fail
  refine (sum_any _ _ (by decide +kernel)).mono ?_
  rintro e w2 ⟨rfl, rfl⟩
  rw [sumS_empty]
  go_wp2_with fail
  go_ret
  exact ⟨rfl, hb1⟩
end Go.Proofs.Ytgeealjhjlaoeaa
