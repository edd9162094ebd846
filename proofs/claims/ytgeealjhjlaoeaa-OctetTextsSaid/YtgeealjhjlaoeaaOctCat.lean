/- Texts, one behind the other. -/
import Derived.Test.YtgeealjhjlaoeaaOctPlain3
namespace Go.Proofs.Ytgeealjhjlaoeaa.Oct

theorem ext_mid (a b c : ByteArray) : (a ++ (b ++ c)).extract a.size (a.size + b.size) = b := by
  apply ByteArray.ext
  apply Array.ext'
  rw [ext_list]
  simp only [ByteArray.data_append, Array.toList_append]
  rw [← List.append_assoc, List.take_left' (by rw [List.length_append]; rfl), show a.size = a.data.toList.length from rfl, List.drop_left]
theorem textN_mid (a x c : ByteArray) (h : x.size ≤ 65535) : textN (a ++ ((putS x.size 2 ++ x) ++ c)) a.size = x.size := by
  unfold textN
  have e : (a ++ ((putS x.size 2 ++ x) ++ c)).extract a.size (a.size + 2) = putS x.size 2 := by
    rw [ByteArray.append_assoc]
    have := ext_mid a (putS x.size 2) (x ++ c)
    rw [putS_size] at this
    exact this
  rw [e, numI_nat _ _ (by omega), natOf_put]
  simp
  omega
/-- A text that stands there is read. -/
theorem textM_mid (a x c : ByteArray) (h : x.size ≤ 65535) : textM (a ++ ((putS x.size 2 ++ x) ++ c)) a.size false = (x, a.size + (2 + x.size), false) := by
  have hn := textN_mid a x c h
  have hz : (a ++ ((putS x.size 2 ++ x) ++ c)).size = a.size + (2 + x.size + c.size) := by
    rw [ByteArray.size_append, ByteArray.size_append, ByteArray.size_append, putS_size]
  unfold textM
  rw [if_pos ⟨rfl, by rw [fitsN_iff, hz]; omega, by rw [fitsN_iff, hn, hz]; omega⟩, hn, Int.toNat_natCast]
  have e : (a ++ ((putS x.size 2 ++ x) ++ c)).extract (a.size + 2) (a.size + 2 + x.size) = x := by
    have := ext_mid (a ++ putS x.size 2) x c
    rw [ByteArray.size_append, putS_size, ByteArray.append_assoc] at this
    rw [ByteArray.append_assoc (a := putS x.size 2)]
    exact this
  rw [e, Nat.add_assoc]
/-- One byte of it less: it is none. -/
theorem textM_cut (a x : ByteArray) (h : x.size ≤ 65535) : textM (a ++ (putS x.size 2 ++ x).extract 0 (1 + x.size)) a.size false = (ByteArray.empty, a.size, true) := by
  have hp := putS_size x.size 2
  have hz0 : ((putS x.size 2 ++ x).extract 0 (1 + x.size)).size = 1 + x.size := by
    rw [ByteArray.size_extract, ByteArray.size_append, hp]
    omega
  have hz : (a ++ (putS x.size 2 ++ x).extract 0 (1 + x.size)).size = a.size + (1 + x.size) := by rw [ByteArray.size_append, hz0]
  unfold textM
  rw [if_neg]
  rintro ⟨_, c1, c2⟩
  rw [fitsN_iff, hz] at c1
  have hx1 : 1 ≤ x.size := by omega
  have e : (a ++ (putS x.size 2 ++ x).extract 0 (1 + x.size)).extract a.size (a.size + 2) = putS x.size 2 := by
    have e1 : (putS x.size 2 ++ x).extract 0 (1 + x.size) = putS x.size 2 ++ x.extract 0 (x.size - 1) := by
      apply ByteArray.ext
      apply Array.ext'
      rw [ext_list]
      simp only [ByteArray.data_append, Array.toList_append, ext_list, List.drop_zero]
      rw [List.take_append, show (putS x.size 2).data.toList.length = 2 from hp, List.take_of_length_le (by rw [show (putS x.size 2).data.toList.length = 2 from hp]; omega), show 1 + x.size - 2 = x.size - 1 by omega]
    rw [e1]
    have := ext_mid a (putS x.size 2) (x.extract 0 (x.size - 1))
    rw [putS_size] at this
    exact this
  have hn : textN (a ++ (putS x.size 2 ++ x).extract 0 (1 + x.size)) a.size = x.size := by
    unfold textN
    rw [e, numI_nat _ _ (by omega), natOf_put]
    simp
    omega
  rw [fitsN_iff, hn, hz] at c2
  omega

/-- The first k texts, each with its length ahead. -/
def cat (x : Nat → ByteArray) : Nat → ByteArray
  | 0 => ByteArray.empty
  | k + 1 => cat x k ++ (putS (x k).size 2 ++ x k)
theorem cat_le (x : Nat → ByteArray) (h : ∀ i, (x i).size ≤ 200) : ∀ k, (cat x k).size ≤ 202 * k
  | 0 => by simp [cat]
  | k + 1 => by
    rw [cat, ByteArray.size_append, ByteArray.size_append, putS_size]
    have := cat_le x h k
    have := h k
    omega
theorem cat_more (x : Nat → ByteArray) (i : Nat) : ∀ n, i < n → ∃ c, cat x n = cat x i ++ ((putS (x i).size 2 ++ x i) ++ c)
  | 0, h => by omega
  | n + 1, h => by
    by_cases e : i = n
    · subst e
      exact ⟨ByteArray.empty, by rw [cat, ByteArray.append_empty]⟩
    · obtain ⟨c, hc⟩ := cat_more x i n (by omega)
      refine ⟨c ++ (putS (x n).size 2 ++ x n), ?_⟩
      rw [cat, hc, ByteArray.append_assoc, ByteArray.append_assoc (a := putS (x i).size 2 ++ x i)]
theorem cat_read (x : Nat → ByteArray) (h : ∀ i, (x i).size ≤ 200) (i n : Nat) (hi : i < n) : textM (cat x n) (cat x i).size false = (x i, (cat x (i + 1)).size, false) := by
  obtain ⟨c, hc⟩ := cat_more x i n hi
  rw [hc, textM_mid _ _ _ (by have := h i; omega)]
  have e : (cat x (i + 1)).size = (cat x i).size + (2 + (x i).size) := by rw [cat, ByteArray.size_append, ByteArray.size_append, putS_size]
  rw [e]
theorem cat_size (x : Nat → ByteArray) (n : Nat) : (cat x (n + 1)).size = (cat x n).size + (2 + (x n).size) := by
  rw [cat, ByteArray.size_append, ByteArray.size_append, putS_size]
/-- All but the last byte. -/
theorem cat_cut (x : Nat → ByteArray) (n : Nat) : (cat x (n + 1)).extract 0 ((cat x (n + 1)).size - 1) = cat x n ++ (putS (x n).size 2 ++ x n).extract 0 (1 + (x n).size) := by
  rw [cat_size]
  apply ByteArray.ext
  apply Array.ext'
  rw [ext_list]
  simp only [ByteArray.data_append, Array.toList_append, ext_list, List.drop_zero, cat]
  rw [List.take_append, show (cat x n).data.toList.length = (cat x n).size from rfl, List.take_of_length_le (by rw [show (cat x n).data.toList.length = (cat x n).size from rfl]; omega), show (cat x n).size + (2 + (x n).size) - 1 - (cat x n).size = 1 + (x n).size by omega]
theorem cut_read (x : Nat → ByteArray) (h : ∀ i, (x i).size ≤ 200) (i n : Nat) (hi : i < n) (t : ByteArray) : textM (cat x n ++ t) (cat x i).size false = (x i, (cat x (i + 1)).size, false) := by
  obtain ⟨c, hc⟩ := cat_more x i n hi
  rw [hc, ByteArray.append_assoc, ByteArray.append_assoc (a := putS (x i).size 2 ++ x i), textM_mid _ _ _ (by have := h i; omega), cat_size]

end Go.Proofs.Ytgeealjhjlaoeaa.Oct
