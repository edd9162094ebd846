/- What a Reader's calls tell, as plain functions. -/
import Derived.Test.YtgeealjhjlaoeaaOctPlain
import Derived.RowKit
namespace Go.Proofs.Ytgeealjhjlaoeaa.Oct

/-! What the calls of a Reader tell: of the bytes s, at place p, failed or not: the answer, the place then, whether it has failed then. -/
def sgn (v : Int) (k : Nat) : Int := Go.RowKit.wrap64 (v * 2 ^ (8 * (8 - k))) / 2 ^ (8 * (8 - k))
def fitsN (s : ByteArray) (p : Nat) (n : Int) : Bool := decide (0 ≤ n) && decide (n ≤ (s.size : Int) - p)
def numM (s : ByteArray) (p : Nat) (f : Bool) (n : Int) : Int × Nat × Bool :=
  if f = false ∧ n ≤ 8 ∧ fitsN s p n = true then (numI (s.extract p (p + n.toNat)).data.toList n.toNat, p + n.toNat, false) else (0, p, true)
def intM (s : ByteArray) (p : Nat) (f : Bool) (n : Int) : Int × Nat × Bool :=
  if f = false ∧ n ≤ 8 ∧ fitsN s p n = true then (sgn (numI (s.extract p (p + n.toNat)).data.toList n.toNat) n.toNat, p + n.toNat, false) else (0, p, true)
def takeM (s : ByteArray) (p : Nat) (f : Bool) (n : Int) : ByteArray × Nat × Bool :=
  if f = false ∧ fitsN s p n = true then (s.extract p (p + n.toNat), p + n.toNat, false) else (ByteArray.empty, p, true)
def textN (s : ByteArray) (p : Nat) : Int := numI (s.extract p (p + 2)).data.toList 2
def textM (s : ByteArray) (p : Nat) (f : Bool) : ByteArray × Nat × Bool :=
  if f = false ∧ fitsN s p 2 = true ∧ fitsN s (p + 2) (textN s p) = true then (s.extract (p + 2) (p + 2 + (textN s p).toNat), p + 2 + (textN s p).toNat, false) else (ByteArray.empty, p, true)
theorem fitsN_iff (s : ByteArray) (p : Nat) (n : Int) : fitsN s p n = true ↔ 0 ≤ n ∧ n ≤ (s.size : Int) - p := by
  unfold fitsN
  simp

/-! The sign. -/
open Go.RowKit (wrap64)
theorem numI_bd (l : List UInt8) (k : Nat) (h : k ≤ 7) : 0 ≤ numI l k ∧ numI l k < 2 ^ (8 * k) := by
  have b := natOf_bd l k
  have hk : k = 0 ∨ k = 1 ∨ k = 2 ∨ k = 3 ∨ k = 4 ∨ k = 5 ∨ k = 6 ∨ k = 7 := by omega
  unfold numI
  rw [IntKind.wrap_i64]
  rcases hk with rfl | rfl | rfl | rfl | rfl | rfl | rfl | rfl <;> simp at b ⊢ <;> omega
theorem numI_full (l : List UInt8) (k : Nat) : -9223372036854775808 ≤ numI l k ∧ numI l k ≤ 9223372036854775807 := by
  unfold numI
  rw [IntKind.wrap_i64]
  omega
theorem numI_zero (l : List UInt8) : numI l 0 = 0 := by
  unfold numI natOf
  rw [IntKind.wrap_i64]
  decide
theorem sgn_lo (v : Int) (k : Nat) (h1 : 1 ≤ k) (h7 : k ≤ 7) (h0 : 0 ≤ v) (h : v < wrap64 (2 ^ (8 * k - 1))) : v = sgn v k := by
  have hk : k = 1 ∨ k = 2 ∨ k = 3 ∨ k = 4 ∨ k = 5 ∨ k = 6 ∨ k = 7 := by omega
  unfold sgn
  rcases hk with rfl | rfl | rfl | rfl | rfl | rfl | rfl <;> simp [wrap64] at h ⊢ <;> omega
theorem sgn_hi (v : Int) (k : Nat) (h1 : 1 ≤ k) (h7 : k ≤ 7) (h0 : v < 2 ^ (8 * k)) (h : wrap64 (2 ^ (8 * k - 1)) ≤ v) : wrap64 (v - wrap64 (2 ^ (8 * k))) = sgn v k := by
  have hk : k = 1 ∨ k = 2 ∨ k = 3 ∨ k = 4 ∨ k = 5 ∨ k = 6 ∨ k = 7 := by omega
  unfold sgn
  rcases hk with rfl | rfl | rfl | rfl | rfl | rfl | rfl <;> simp [wrap64] at h h0 ⊢ <;> omega
theorem sgn_zero : sgn 0 0 = 0 := by decide
theorem sgn_eight (v : Int) (h0 : -9223372036854775808 ≤ v) (h1 : v ≤ 9223372036854775807) : sgn v 8 = v := by
  unfold sgn
  simp [wrap64]
  omega

end Go.Proofs.Ytgeealjhjlaoeaa.Oct
