/- Plain facts on numbers as bytes, for the octet laws: nothing of the program. -/
import Derived.Laws.BytesArg
namespace Go.Proofs.Ytgeealjhjlaoeaa.Oct

/-- The bytes of n, k of them, the highest first. -/
def nums (n : Int) (k : Nat) : List Int := (List.range k).map fun p => n / 2 ^ (8 * (k - 1 - p)) % 256
/-- The same, where only the lowest j are laid yet, from the end on. -/
def pnum (n : Int) (k j : Nat) : List Int := (List.range k).map fun p => if k - j ≤ p then n / 2 ^ (8 * (k - 1 - p)) % 256 else 0
def putS (n : Int) (k : Nat) : ByteArray := strOfNums (nums n k)
/-- What Put answers at any size. -/
def putV (n s : Int) : ByteArray := if 0 ≤ s ∧ s ≤ 8 then putS n s.toNat else ByteArray.empty

theorem pnum_length (n : Int) (k j : Nat) : (pnum n k j).length = k := by simp [pnum]
theorem nums_length (n : Int) (k : Nat) : (nums n k).length = k := by simp [nums]
theorem pnum_zero (n : Int) (k : Nat) : pnum n k 0 = List.replicate k 0 := by
  apply List.ext_getElem?
  intro p
  by_cases hp : p < k
  · have e : ¬ k ≤ p := by omega
    simp [pnum, hp, e]
  · simp [pnum, hp]
theorem pnum_full (n : Int) (k : Nat) : pnum n k k = nums n k := by
  unfold pnum nums
  simp
theorem pnum_step (n : Int) (k j : Nat) (h : j < k) : (pnum n k j).set (k - 1 - j) (n / 2 ^ (8 * j) % 256) = pnum n k (j + 1) := by
  apply List.ext_getElem?
  intro p
  rw [List.getElem?_set]
  by_cases hp : p < k
  · by_cases e : k - 1 - j = p
    · subst e
      have e1 : k - 1 - (k - 1 - j) = j := by omega
      have e2 : ¬ k - 1 - j + (j + 1) < k := by omega
      simp [pnum, hp, e1, e2]
    · have e3 : (k ≤ p + (j + 1)) ↔ (k ≤ p + j) := by omega
      simp [pnum, hp, e, e3]
  · have e : ¬ (k - 1 - j = p) := by omega
    simp [pnum, hp, e]
theorem putS_size (n : Int) (k : Nat) : (putS n k).size = k := by simp [putS, strOfNums_size, nums_length]
theorem putV_in (n : Int) (k : Nat) (h : k ≤ 8) : putV n k = putS n k := by
  unfold putV
  rw [if_pos (by omega)]
  simp
theorem putV_out (n s : Int) (h : ¬ (0 ≤ s ∧ s ≤ 8)) : putV n s = ByteArray.empty := by
  unfold putV
  rw [if_neg h]
theorem pnum_at (n : Int) (k j p : Nat) (hp : p < k) : ∃ x : Int, ((pnum n k j).map (Value.int .u8))[p]? = some (.int .u8 x) := by
  refine ⟨(pnum n k j)[p]'(by rw [pnum_length]; exact hp), ?_⟩
  rw [List.getElem?_map, List.getElem?_eq_getElem (by rw [pnum_length]; exact hp)]
  rfl

/-- At most 200 bytes. -/
def fewS (s : ByteArray) : ByteArray := s.extract 0 (min s.size 200)
/-- The sum of the first k bytes, modulo 2^32. -/
def sumTo (s : ByteArray) : Nat → Int
  | 0 => 0
  | k + 1 => (sumTo s k + (if h : k < s.size then (s[k].toNat : Int) else 0) * 2 ^ (24 - 8 * (k % 4)) % 4294967296) % 4294967296
def sumS (s : ByteArray) : Int := sumTo s s.size
theorem fewS_long (s : ByteArray) (h : 200 < s.size) : fewS s = s.extract 0 200 := by
  unfold fewS
  rw [Nat.min_eq_right (by omega)]
theorem fewS_short (s : ByteArray) (h : s.size ≤ 200) : fewS s = s := by
  unfold fewS
  rw [Nat.min_eq_left h]
  simp
theorem fewS_size (s : ByteArray) : (fewS s).size ≤ 200 := by
  unfold fewS
  simp
  omega
theorem fewS_le (s : ByteArray) : (fewS s).size ≤ s.size := by
  unfold fewS
  simp
  omega
theorem sumTo_own (s : ByteArray) (k : Nat) (h : k < s.size) :
    (sumTo s k + (s[k].toNat : Int) % 4294967296 * 2 ^ (8 * (3 - k % 4)) % 4294967296) % 4294967296 = sumTo s (k + 1) := by
  have hb := s[k].toNat_lt
  have e : (s[k].toNat : Int) % 4294967296 = (s[k].toNat : Int) := by omega
  have e2 : 8 * (3 - k % 4) = 24 - 8 * (k % 4) := by omega
  rw [e, e2, sumTo, dif_pos h]
theorem sumTo_ref (s : ByteArray) (k : Nat) (h : k < s.size) :
    (sumTo s k + (s[k].toNat : Int) % 4294967296 * 2 ^ (24 - 8 * (k % 4)) % 4294967296) % 4294967296 = sumTo s (k + 1) := by
  have hb := s[k].toNat_lt
  have e : (s[k].toNat : Int) % 4294967296 = (s[k].toNat : Int) := by omega
  rw [e, sumTo, dif_pos h]

/-! Sums. -/
def bAt (l : List UInt8) (i : Nat) : Int := ((l[i]?.getD 0).toNat : Int)
def tot (l : List UInt8) : Nat → Int
  | 0 => 0
  | k + 1 => tot l k + bAt l k * 2 ^ (24 - 8 * (k % 4))
theorem bAt_bd (l : List UInt8) (i : Nat) : 0 ≤ bAt l i ∧ bAt l i ≤ 255 := by
  unfold bAt
  have := (l[i]?.getD 0).toNat_lt
  omega
theorem bAt_of (s : ByteArray) (k : Nat) (h : k < s.size) : (s[k].toNat : Int) = bAt s.data.toList k := by
  unfold bAt
  rw [List.getElem?_eq_getElem (by simpa using h)]
  rfl
theorem sumTo_tot (s : ByteArray) : ∀ k, k ≤ s.size → sumTo s k = tot s.data.toList k % 4294967296
  | 0, _ => rfl
  | k + 1, h => by
    rw [sumTo, dif_pos (show k < s.size by omega), sumTo_tot s k (by omega), tot, bAt_of s k (by omega)]
    generalize bAt s.data.toList k * 2 ^ (24 - 8 * (k % 4)) = c
    omega
theorem sumS_tot (s : ByteArray) : sumS s = tot s.data.toList s.data.toList.length % 4294967296 := by
  unfold sumS
  rw [sumTo_tot s s.size (Nat.le_refl _)]
  rfl
theorem tot_front (a b : List UInt8) : ∀ k, k ≤ a.length → tot (a ++ b) k = tot a k
  | 0, _ => rfl
  | k + 1, h => by
    rw [tot, tot, tot_front a b k (by omega)]
    have : bAt (a ++ b) k = bAt a k := by
      unfold bAt
      rw [List.getElem?_append_left (by omega)]
    rw [this]
theorem tot_behind (a b : List UInt8) (h4 : a.length % 4 = 0) : ∀ j, tot (a ++ b) (a.length + j) = tot a a.length + tot b j
  | 0 => by rw [Nat.add_zero, tot_front a b _ (Nat.le_refl _), tot]; omega
  | j + 1 => by
    rw [← Nat.add_assoc, tot, tot, tot_behind a b h4 j]
    have e1 : bAt (a ++ b) (a.length + j) = bAt b j := by
      unfold bAt
      rw [List.getElem?_append_right (by omega)]
      simp
    have e2 : (a.length + j) % 4 = j % 4 := by omega
    rw [e1, e2]
    omega
theorem tot_zeros (a b : List UInt8) (hz : ∀ i, bAt b i = 0) : ∀ j, tot (a ++ b) (a.length + j) = tot a a.length
  | 0 => by rw [Nat.add_zero, tot_front a b _ (Nat.le_refl _)]
  | j + 1 => by
    rw [← Nat.add_assoc, tot, tot_zeros a b hz j]
    have e1 : bAt (a ++ b) (a.length + j) = bAt b j := by
      unfold bAt
      rw [List.getElem?_append_right (by omega)]
      simp
    rw [e1, hz j]
    omega
theorem sumS_append (x y : ByteArray) (h4 : x.size % 4 = 0) : sumS (x ++ y) = (sumS x + sumS y) % 4294967296 := by
  rw [sumS_tot, sumS_tot, sumS_tot]
  have e : (x ++ y).data.toList = x.data.toList ++ y.data.toList := by simp
  rw [e, List.length_append, tot_behind _ _ h4]
  omega
theorem sumS_swap (x y : ByteArray) (hx : x.size % 4 = 0) (hy : y.size % 4 = 0) : sumS (x ++ y) = sumS (y ++ x) := by
  rw [sumS_append x y hx, sumS_append y x hy, Int.add_comm]
theorem sumS_zeros (x z : ByteArray) (hz : ∀ i, bAt z.data.toList i = 0) : sumS (x ++ z) = sumS x := by
  rw [sumS_tot, sumS_tot]
  have e : (x ++ z).data.toList = x.data.toList ++ z.data.toList := by simp
  rw [e, List.length_append, tot_zeros _ _ hz]
theorem sumS_empty : sumS ⟨#[]⟩ = 0 := by decide +kernel
theorem sumS_bd (s : ByteArray) : 0 ≤ sumS s ∧ sumS s < 4294967296 := by
  rw [sumS_tot]
  omega
theorem extract4_size (x : ByteArray) : (x.extract 0 (x.size / 4 * 4)).size % 4 = 0 := by
  simp
  omega
theorem zeros8 (n : Nat) : ∀ i, bAt ((⟨#[0, 0, 0, 0, 0, 0, 0, 0]⟩ : ByteArray).extract 0 n).data.toList i = 0 := by
  intro i
  unfold bAt
  have e : ((⟨#[0, 0, 0, 0, 0, 0, 0, 0]⟩ : ByteArray).extract 0 n).data.toList = (List.replicate 8 (0 : UInt8)).take n := by
    simp [List.replicate]
  rw [e, List.take_replicate, List.getElem?_replicate]
  split <;> rfl

end Go.Proofs.Ytgeealjhjlaoeaa.Oct
