/- Numbers' digits, plainly. -/
import Derived.Test.YthoohbmpbahkgaaWrdStr
namespace Go.Proofs.Ythoohbmpbahkgaa
open Go.RowKit

/-- The digits of a number, of 0 none. -/
def decF : Nat → Nat → ByteArray
  | 0, _ => ByteArray.empty
  | f + 1, u => if u = 0 then ByteArray.empty else decF f (u / 10) ++ oneB (48 + (u % 10 : Nat))
def decC (u : Nat) : ByteArray := decF 12 u
/-- The digits of a number. -/
def decD (u : Nat) : ByteArray := decC (u / 10) ++ oneB (48 + (u % 10 : Nat))
theorem decF_more (f u : Nat) (h : u < 10 ^ f) : decF (f + 1) u = decF f u := by
  induction f generalizing u with
  | zero => simp at h; subst h; rfl
  | succ f ih =>
    show (if u = 0 then ByteArray.empty else decF (f + 1) (u / 10) ++ oneB (48 + (u % 10 : Nat))) = (if u = 0 then ByteArray.empty else decF f (u / 10) ++ oneB (48 + (u % 10 : Nat)))
    rw [ih (u / 10) (by rw [Nat.pow_succ] at h; omega)]
theorem decC_step (u : Nat) (h : u < 1000000000000) (h0 : u ≠ 0) : decC u = decC (u / 10) ++ oneB (48 + (u % 10 : Nat)) := by
  have h1 : decC u = decF 11 (u / 10) ++ oneB (48 + (u % 10 : Nat)) := by
    show (if u = 0 then ByteArray.empty else decF 11 (u / 10) ++ oneB (48 + (u % 10 : Nat))) = _
    rw [if_neg h0]
  rw [h1]
  show _ = decF 12 (u / 10) ++ _
  rw [decF_more 11 (u / 10) (by omega)]
theorem decC_zero : decC 0 = ByteArray.empty := rfl
theorem decF_size (f u j : Nat) (h : u < 10 ^ j) : (decF f u).size ≤ j := by
  induction f generalizing u j with
  | zero => exact Nat.zero_le _
  | succ f ih =>
    unfold decF
    split
    · exact Nat.zero_le _
    · cases j with
      | zero => simp at h; contradiction
      | succ j =>
        have := ih (u / 10) j (by rw [Nat.pow_succ] at h; omega)
        rw [ByteArray.size_append, oneB_size]
        omega
theorem decD_size (u j : Nat) (h : u < 10 ^ (j + 1)) : 1 ≤ (decD u).size ∧ (decD u).size ≤ j + 1 := by
  have := decF_size 12 (u / 10) j (by rw [Nat.pow_succ] at h; omega)
  unfold decD decC
  rw [ByteArray.size_append, oneB_size]
  omega

theorem numF_congr (s t : ByteArray) (f k l n : Nat) (h : ∀ j, j < f → bt s (k + j) = bt t (l + j)) : numF s f k n = numF t f l n := by
  induction f generalizing k l n with
  | zero => rfl
  | succ f ih =>
    unfold numF
    have h0 := h 0 (by omega)
    rw [Nat.add_zero, Nat.add_zero] at h0
    rw [h0]
    split
    · exact ih (k + 1) (l + 1) _ (fun j hj => by have := h (j + 1) (by omega); rwa [show k + (j + 1) = k + 1 + j by omega, show l + (j + 1) = l + 1 + j by omega] at this)
    · rfl
theorem numF_succ (s : ByteArray) (f k n : Nat) : numF s (f + 1) k n = if digR (bt s k) then numF s f (k + 1) (n * 10 + (bt s k - 48)) else none := rfl
theorem numF_add (s : ByteArray) (f g k n : Nat) : numF s (f + g) k n = match numF s f k n with | some m => numF s g (k + f) m | none => none := by
  induction f generalizing k n with
  | zero => simp [numF]
  | succ f ih =>
    rw [show f + 1 + g = (f + g) + 1 by omega, numF_succ, numF_succ]
    split
    · rw [ih, show k + 1 + f = k + (f + 1) by omega]
    · rfl
/-- What a text's digits say, behind what was said. -/
def numA (s : ByteArray) (n : Nat) : Option Nat := numF s s.size 0 n
theorem numA_app (a b : ByteArray) (n : Nat) : numA (a ++ b) n = match numA a n with | some m => numA b m | none => none := by
  unfold numA
  rw [ByteArray.size_append, numF_add, numF_congr (a ++ b) a a.size 0 0 n (fun j hj => by rw [Nat.zero_add]; exact bt_app_left a b j hj)]
  split
  · rw [numF_congr (a ++ b) b b.size (0 + a.size) 0 _ (fun j hj => by rw [Nat.zero_add, Nat.zero_add]; exact bt_app_right a b j hj)]
  · rfl
theorem numA_one (c : Int) (hc : 0 ≤ c ∧ c ≤ 255) (n : Nat) : numA (oneB c) n = if digR c then some (n * 10 + (c.toNat - 48)) else none := by
  have hcc : ((c.toNat : Nat) : Int) = c := by omega
  unfold numA
  rw [oneB_size]
  unfold numF
  rw [bt_oneB c hc, hcc]
  rfl
theorem numA_dig (n d : Nat) (h : d < 10) : numA (oneB (48 + (d : Int))) n = some (n * 10 + d) := by
  rw [numA_one _ (by omega), if_pos (by unfold digR; exact decide_eq_true (by omega))]
  congr 1
  omega
theorem numA_decF (f u : Nat) (h : u < 10 ^ f) : numA (decF f u) 0 = some u := by
  induction f generalizing u with
  | zero => simp at h; subst h; rfl
  | succ f ih =>
    unfold decF
    split
    · rename_i h0; subst h0; rfl
    · rw [numA_app, ih (u / 10) (by rw [Nat.pow_succ] at h; omega)]
      show numA (oneB (48 + ((u % 10 : Nat) : Int))) (u / 10) = _
      rw [numA_dig _ _ (by omega)]
      congr 1
      omega
theorem numA_decD (u : Nat) (h : u < 1000000000) : numA (decD u) 0 = some u := by
  unfold decD decC
  rw [numA_app, numA_decF 12 (u / 10) (by omega)]
  show numA (oneB (48 + ((u % 10 : Nat) : Int))) (u / 10) = _
  rw [numA_dig _ _ (by omega)]
  congr 1
  omega
theorem digitsP_eq (s : ByteArray) : digitsP s = if s.size = 0 ∨ 9 < s.size then (0, false) else numX (numA s 0) := rfl
/-- The first byte of digits is no sign. -/
theorem numA_first (s : ByteArray) (n m : Nat) (h : numA s n = some m) (h0 : 0 < s.size) : bt s 0 ≠ 45 := by
  unfold numA at h
  obtain ⟨f, hf⟩ : ∃ f, s.size = f + 1 := ⟨s.size - 1, by omega⟩
  rw [hf] at h
  unfold numF at h
  split at h
  · rename_i hd
    have := (digR_iff _).1 hd
    omega
  · cases h
theorem numberP_plain (s : ByteArray) (h : 0 < s.size → bt s 0 ≠ 45) : numberP s = digitsP s := by
  unfold numberP
  rw [if_neg (fun hc => h hc.1 hc.2)]
theorem extract_behind (a b : ByteArray) : (a ++ b).extract a.size (a ++ b).size = b := by
  exact ByteArray.extract_append_eq_right rfl ByteArray.size_append
theorem numberP_minus (s : ByteArray) : numberP (oneB 45 ++ s) = (-(digitsP s).1, (digitsP s).2) := by
  have h1 : (oneB 45 ++ s).size = 1 + s.size := by rw [ByteArray.size_append, oneB_size]
  have h2 : bt (oneB 45 ++ s) 0 = 45 := by rw [bt_app_left _ _ 0 (by rw [oneB_size]; omega)]; rfl
  have h3 : (oneB 45 ++ s).extract 1 (oneB 45 ++ s).size = s := extract_behind (oneB 45) s
  unfold numberP
  rw [if_pos ⟨by omega, h2⟩, h3]
/-- No digits begin with a sign. -/
theorem digitsP_minus (s : ByteArray) : (digitsP (oneB 45 ++ s)).2 = false := by
  rw [digitsP_eq]
  split
  · rfl
  · rw [numA_app, numA_one 45 (by omega)]
    rfl
end Go.Proofs.Ythoohbmpbahkgaa
