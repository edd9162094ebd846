/- Plain facts on numbers as bytes, for the octet laws: nothing of the program. -/
import Derived.Laws.BytesArg
import Derived.Laws.BitsLemmas
namespace Go.Proofs.Ytgeealjhjlaoeaa.Oct

/-- The bytes of n, k of them, the highest first. -/
def nums (n : Int) (k : Nat) : List Int := (List.range k).map fun p => n / 2 ^ (8 * (k - 1 - p)) % 256
/-- The same, where only the lowest j are laid yet, from the end on. -/
def pnum (n : Int) (k j : Nat) : List Int := (List.range k).map fun p => if k - j ≤ p then n / 2 ^ (8 * (k - 1 - p)) % 256 else 0
def putS (n : Int) (k : Nat) : ByteArray := strOfNums (nums n k)
/-- What Put answers at any size. -/
def putV (n s : Int) : ByteArray := if 0 ≤ s ∧ s ≤ 8 then putS n s.toNat else ByteArray.empty

theorem pnum_length (n : Int) (k j : Nat) : (pnum n k j).length = k := by simp [pnum]
theorem nums_length (n : Int) (k : Nat) : (nums n k).length = k := by simp [nums]
theorem pnum_zero (n : Int) (k : Nat) : pnum n k 0 = List.replicate k 0 := by
  apply List.ext_getElem?
  intro p
  by_cases hp : p < k
  · have e : ¬ k ≤ p := by omega
    simp [pnum, hp, e]
  · simp [pnum, hp]
theorem pnum_full (n : Int) (k : Nat) : pnum n k k = nums n k := by
  unfold pnum nums
  simp
theorem pnum_step (n : Int) (k j : Nat) (h : j < k) : (pnum n k j).set (k - 1 - j) (n / 2 ^ (8 * j) % 256) = pnum n k (j + 1) := by
  apply List.ext_getElem?
  intro p
  rw [List.getElem?_set]
  by_cases hp : p < k
  · by_cases e : k - 1 - j = p
    · subst e
      have e1 : k - 1 - (k - 1 - j) = j := by omega
      have e2 : ¬ k - 1 - j + (j + 1) < k := by omega
      simp [pnum, hp, e1, e2]
    · have e3 : (k ≤ p + (j + 1)) ↔ (k ≤ p + j) := by omega
      simp [pnum, hp, e, e3]
  · have e : ¬ (k - 1 - j = p) := by omega
    simp [pnum, hp, e]
theorem putS_size (n : Int) (k : Nat) : (putS n k).size = k := by simp [putS, strOfNums_size, nums_length]
theorem putV_in (n : Int) (k : Nat) (h : k ≤ 8) : putV n k = putS n k := by
  unfold putV
  rw [if_pos (by omega)]
  simp
theorem putV_out (n s : Int) (h : ¬ (0 ≤ s ∧ s ≤ 8)) : putV n s = ByteArray.empty := by
  unfold putV
  rw [if_neg h]
theorem pnum_at (n : Int) (k j p : Nat) (hp : p < k) : ∃ x : Int, ((pnum n k j).map (Value.int .u8))[p]? = some (.int .u8 x) := by
  refine ⟨(pnum n k j)[p]'(by rw [pnum_length]; exact hp), ?_⟩
  rw [List.getElem?_map, List.getElem?_eq_getElem (by rw [pnum_length]; exact hp)]
  rfl

/-- At most 200 bytes. -/
def fewS (s : ByteArray) : ByteArray := s.extract 0 (min s.size 200)
/-- The sum of the first k bytes, modulo 2^32. -/
def sumTo (s : ByteArray) : Nat → Int
  | 0 => 0
  | k + 1 => (sumTo s k + (if h : k < s.size then (s[k].toNat : Int) else 0) * 2 ^ (24 - 8 * (k % 4)) % 4294967296) % 4294967296
def sumS (s : ByteArray) : Int := sumTo s s.size
theorem fewS_long (s : ByteArray) (h : 200 < s.size) : fewS s = s.extract 0 200 := by
  unfold fewS
  rw [Nat.min_eq_right (by omega)]
theorem fewS_short (s : ByteArray) (h : s.size ≤ 200) : fewS s = s := by
  unfold fewS
  rw [Nat.min_eq_left h]
  simp
theorem fewS_size (s : ByteArray) : (fewS s).size ≤ 200 := by
  unfold fewS
  simp
  omega
theorem fewS_le (s : ByteArray) : (fewS s).size ≤ s.size := by
  unfold fewS
  simp
  omega
theorem sumTo_own (s : ByteArray) (k : Nat) (h : k < s.size) :
    (sumTo s k + (s[k].toNat : Int) % 4294967296 * 2 ^ (8 * (3 - k % 4)) % 4294967296) % 4294967296 = sumTo s (k + 1) := by
  have hb := s[k].toNat_lt
  have e : (s[k].toNat : Int) % 4294967296 = (s[k].toNat : Int) := by omega
  have e2 : 8 * (3 - k % 4) = 24 - 8 * (k % 4) := by omega
  rw [e, e2, sumTo, dif_pos h]
theorem sumTo_ref (s : ByteArray) (k : Nat) (h : k < s.size) :
    (sumTo s k + (s[k].toNat : Int) % 4294967296 * 2 ^ (24 - 8 * (k % 4)) % 4294967296) % 4294967296 = sumTo s (k + 1) := by
  have hb := s[k].toNat_lt
  have e : (s[k].toNat : Int) % 4294967296 = (s[k].toNat : Int) := by omega
  rw [e, sumTo, dif_pos h]

/-! Sums. -/
def bAt (l : List UInt8) (i : Nat) : Int := ((l[i]?.getD 0).toNat : Int)
def tot (l : List UInt8) : Nat → Int
  | 0 => 0
  | k + 1 => tot l k + bAt l k * 2 ^ (24 - 8 * (k % 4))
theorem bAt_bd (l : List UInt8) (i : Nat) : 0 ≤ bAt l i ∧ bAt l i ≤ 255 := by
  unfold bAt
  have := (l[i]?.getD 0).toNat_lt
  omega
theorem bAt_of (s : ByteArray) (k : Nat) (h : k < s.size) : (s[k].toNat : Int) = bAt s.data.toList k := by
  unfold bAt
  rw [List.getElem?_eq_getElem (by simpa using h)]
  rfl
theorem sumTo_tot (s : ByteArray) : ∀ k, k ≤ s.size → sumTo s k = tot s.data.toList k % 4294967296
  | 0, _ => rfl
  | k + 1, h => by
    rw [sumTo, dif_pos (show k < s.size by omega), sumTo_tot s k (by omega), tot, bAt_of s k (by omega)]
    generalize bAt s.data.toList k * 2 ^ (24 - 8 * (k % 4)) = c
    omega
theorem sumS_tot (s : ByteArray) : sumS s = tot s.data.toList s.data.toList.length % 4294967296 := by
  unfold sumS
  rw [sumTo_tot s s.size (Nat.le_refl _)]
  rfl
theorem tot_front (a b : List UInt8) : ∀ k, k ≤ a.length → tot (a ++ b) k = tot a k
  | 0, _ => rfl
  | k + 1, h => by
    rw [tot, tot, tot_front a b k (by omega)]
    have : bAt (a ++ b) k = bAt a k := by
      unfold bAt
      rw [List.getElem?_append_left (by omega)]
    rw [this]
theorem tot_behind (a b : List UInt8) (h4 : a.length % 4 = 0) : ∀ j, tot (a ++ b) (a.length + j) = tot a a.length + tot b j
  | 0 => by rw [Nat.add_zero, tot_front a b _ (Nat.le_refl _), tot]; omega
  | j + 1 => by
    rw [← Nat.add_assoc, tot, tot, tot_behind a b h4 j]
    have e1 : bAt (a ++ b) (a.length + j) = bAt b j := by
      unfold bAt
      rw [List.getElem?_append_right (by omega)]
      simp
    have e2 : (a.length + j) % 4 = j % 4 := by omega
    rw [e1, e2]
    omega
theorem tot_zeros (a b : List UInt8) (hz : ∀ i, bAt b i = 0) : ∀ j, tot (a ++ b) (a.length + j) = tot a a.length
  | 0 => by rw [Nat.add_zero, tot_front a b _ (Nat.le_refl _)]
  | j + 1 => by
    rw [← Nat.add_assoc, tot, tot_zeros a b hz j]
    have e1 : bAt (a ++ b) (a.length + j) = bAt b j := by
      unfold bAt
      rw [List.getElem?_append_right (by omega)]
      simp
    rw [e1, hz j]
    omega
theorem sumS_append (x y : ByteArray) (h4 : x.size % 4 = 0) : sumS (x ++ y) = (sumS x + sumS y) % 4294967296 := by
  rw [sumS_tot, sumS_tot, sumS_tot]
  have e : (x ++ y).data.toList = x.data.toList ++ y.data.toList := by simp
  rw [e, List.length_append, tot_behind _ _ h4]
  omega
theorem sumS_swap (x y : ByteArray) (hx : x.size % 4 = 0) (hy : y.size % 4 = 0) : sumS (x ++ y) = sumS (y ++ x) := by
  rw [sumS_append x y hx, sumS_append y x hy, Int.add_comm]
theorem sumS_zeros (x z : ByteArray) (hz : ∀ i, bAt z.data.toList i = 0) : sumS (x ++ z) = sumS x := by
  rw [sumS_tot, sumS_tot]
  have e : (x ++ z).data.toList = x.data.toList ++ z.data.toList := by simp
  rw [e, List.length_append, tot_zeros _ _ hz]
theorem sumS_empty : sumS ⟨#[]⟩ = 0 := by decide +kernel
theorem sumS_bd (s : ByteArray) : 0 ≤ sumS s ∧ sumS s < 4294967296 := by
  rw [sumS_tot]
  omega
theorem extract4_size (x : ByteArray) : (x.extract 0 (x.size / 4 * 4)).size % 4 = 0 := by
  simp
  omega
theorem zeros8 (n : Nat) : ∀ i, bAt ((⟨#[0, 0, 0, 0, 0, 0, 0, 0]⟩ : ByteArray).extract 0 n).data.toList i = 0 := by
  intro i
  unfold bAt
  have e : ((⟨#[0, 0, 0, 0, 0, 0, 0, 0]⟩ : ByteArray).extract 0 n).data.toList = (List.replicate 8 (0 : UInt8)).take n := by
    simp [List.replicate]
  rw [e, List.take_replicate, List.getElem?_replicate]
  split <;> rfl

/-! One byte another one. -/
theorem tot_set (l : List UInt8) (k : Nat) (c : UInt8) (hk : k < l.length) : ∀ j, tot (l.set k c) j = tot l j + (if k < j then ((c.toNat : Int) - bAt l k) * 2 ^ (24 - 8 * (k % 4)) else 0)
  | 0 => by simp [tot]
  | j + 1 => by
    rw [tot, tot, tot_set l k c hk j]
    by_cases e : k = j
    · subst e
      have e1 : bAt (l.set k c) k = (c.toNat : Int) := by
        unfold bAt
        rw [List.getElem?_set_self hk]
        rfl
      rw [e1, if_neg (by omega), if_pos (by omega), Int.sub_mul]
      omega
    · have e1 : bAt (l.set k c) j = bAt l j := by
        unfold bAt
        rw [List.getElem?_set_ne e]
      rw [e1]
      by_cases h : k < j
      · rw [if_pos h, if_pos (by omega)]
        omega
      · rw [if_neg h, if_neg (by omega)]
        omega
theorem sees_none (d : Int) (k : Nat) (h1 : -255 ≤ d) (h2 : d ≤ 255) (t : Int) (h : (t + d * 2 ^ (24 - 8 * (k % 4))) % 4294967296 = t % 4294967296) : d = 0 := by
  have h4 : k % 4 < 4 := by omega
  have hc : k % 4 = 0 ∨ k % 4 = 1 ∨ k % 4 = 2 ∨ k % 4 = 3 := by omega
  rcases hc with e | e | e | e <;> rw [e] at h <;> simp at h <;> omega
theorem sumS_set (s : ByteArray) (k : Nat) (c : UInt8) (hk : k < s.data.toList.length) :
    (sumS ⟨(s.data.toList.set k c).toArray⟩ = sumS s) ↔ (c.toNat : Int) = bAt s.data.toList k := by
  rw [sumS_tot, sumS_tot]
  have e : (⟨(s.data.toList.set k c).toArray⟩ : ByteArray).data.toList = s.data.toList.set k c := by simp
  rw [e, List.length_set, tot_set _ _ _ hk, if_pos hk]
  have b1 := bAt_bd s.data.toList k
  have b2 := c.toNat_lt
  constructor
  · intro h
    have := sees_none _ k (by omega) (by omega) _ h
    omega
  · intro h
    rw [h, Int.sub_self, Int.zero_mul, Int.add_zero]

/-! The reference's bytes. -/
theorem u64_byte (n : Int) (j : Nat) (h : j ≤ 7) : IntKind.u64.wrap n / 2 ^ (8 * j) % 256 = n / 2 ^ (8 * j) % 256 := by
  have e : IntKind.u64.wrap n = n % 18446744073709551616 := by simp [IntKind.wrap, IntKind.bits, IntKind.signed]
  rw [e]
  have hj : j = 0 ∨ j = 1 ∨ j = 2 ∨ j = 3 ∨ j = 4 ∨ j = 5 ∨ j = 6 ∨ j = 7 := by omega
  rcases hj with rfl | rfl | rfl | rfl | rfl | rfl | rfl | rfl <;> simp <;> omega
theorem nums_take (n : Int) (k m j : Nat) (h : m < k) (hj : k - 1 - m = j) : (nums n k).take (m + 1) = (nums n k).take m ++ [n / 2 ^ (8 * j) % 256] := by
  rw [List.take_succ_eq_append_getElem (by rw [nums_length]; exact h)]
  subst hj
  simp [nums]
theorem nums_snoc (n : Int) (k m j : Nat) (h : m < k) (hj : k - 1 - m = j) (hj7 : j ≤ 7) : ((nums n k).map (Value.int .u8)).take m ++ [.int .u8 (IntKind.u64.wrap n / 2 ^ (8 * j) % 256)] = ((nums n k).take (m + 1)).map (Value.int .u8) := by
  rw [nums_take n k m j h hj, u64_byte n j hj7, List.map_append, List.map_take]
  rfl
/-- A text with its length ahead. -/
def textV (s : ByteArray) : ByteArray := if 65535 < s.size then ByteArray.empty else putS s.size 2 ++ s

/-! Bytes as a number. -/
/-- The number of the first k bytes, the highest first. -/
def natOf (l : List UInt8) : Nat → Int
  | 0 => 0
  | k + 1 => natOf l k * 256 + bAt l k
def wrapI (n : Int) : Int := (n + 9223372036854775808) % 18446744073709551616 - 9223372036854775808
def numI (l : List UInt8) (k : Nat) : Int := IntKind.i64.wrap (natOf l k)
def numU (l : List UInt8) (k : Nat) : Int := natOf l k % 18446744073709551616
theorem natOf_bd (l : List UInt8) : ∀ k, 0 ≤ natOf l k ∧ natOf l k < 2 ^ (8 * k)
  | 0 => by simp [natOf]
  | k + 1 => by
    have ih := natOf_bd l k
    have b := bAt_bd l k
    rw [natOf, show 8 * (k + 1) = 8 * k + 8 by omega, Int.pow_add]
    generalize (2 : Int) ^ (8 * k) = t at *
    omega
theorem or_byte (N : Int) (b : Int) (h0 : 0 ≤ b) (h1 : b ≤ 255) : bits .or .i64 (IntKind.i64.wrap (IntKind.i64.wrap N * 256)) b = IntKind.i64.wrap (N * 256 + b) := by
  obtain ⟨c, rfl⟩ := Int.eq_ofNat_of_zero_le h0
  have hx : BitVec.ofInt 64 (IntKind.i64.wrap (IntKind.i64.wrap N * 256)) = BitVec.ofInt 64 (N * 256) := by
    apply BitVec.eq_of_toNat_eq
    rw [BitVec.toNat_ofInt, BitVec.toNat_ofInt, IntKind.wrap_i64, IntKind.wrap_i64]
    congr 1
    omega
  have hA : (BitVec.ofInt 64 (N * 256)).toNat = 2 ^ 8 * (N % 72057594037927936).toNat := by
    rw [BitVec.toNat_ofInt]
    omega
  unfold bits
  show IntKind.i64.wrap _ = _
  simp only
  rw [show IntKind.i64.bits = 64 from rfl, hx, BitVec.toNat_or, hA, BitVec.ofInt_natCast, BitVec.toNat_ofNat, Nat.mod_eq_of_lt (by omega), ← Nat.two_pow_add_eq_or_of_lt (by omega), IntKind.wrap_i64, IntKind.wrap_i64]
  omega
theorem numI_step (l : List UInt8) (k : Nat) : bits .or .i64 (IntKind.i64.wrap (numI l k * 256)) (bAt l k) = numI l (k + 1) := by
  have b := bAt_bd l k
  unfold numI
  rw [or_byte _ _ b.1 b.2, natOf]
theorem numU_step (l : List UInt8) (k : Nat) : (numU l k * 256 % 18446744073709551616 + bAt l k) % 18446744073709551616 = numU l (k + 1) := by
  unfold numU
  rw [natOf]
  omega
theorem numU_back (l : List UInt8) (k : Nat) : IntKind.i64.wrap (numU l k) = numI l k := by
  unfold numU numI
  rw [IntKind.wrap_i64, IntKind.wrap_i64]
  omega

end Go.Proofs.Ytgeealjhjlaoeaa.Oct
