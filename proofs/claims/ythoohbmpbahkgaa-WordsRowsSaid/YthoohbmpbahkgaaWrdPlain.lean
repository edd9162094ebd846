/- Bytes, words of lines, lines of sources: what the program says, plainly. -/
import Derived.Test.YthoohbmpbahkgaaRows
import Derived.WalkSpells
import Derived.WalkLawsBesides
import Derived.Outline
import Derived.Laws.AppendOwn
import Derived.Laws.OwnMore
import Derived.Below
import Derived.OneCell
import Derived.Lib.Hide
import Derived.Lib.OthersKept
import Derived.WalkKit
import Derived.OwnWalk
namespace Go.Proofs.Ythoohbmpbahkgaa
open Go.RowKit

/-- A byte. -/
def bt (s : ByteArray) (i : Nat) : Nat := (s.get! i).toNat
theorem bt_get (s : ByteArray) (i : Nat) (h : i < s.size) : s[i].toNat = bt s i := by
  have e : s.get! i = s[i]'h := by
    simp [ByteArray.get!, getElem!_pos, h]
    rfl
  unfold bt
  rw [e]
theorem bt_lt (s : ByteArray) (i : Nat) : bt s i < 256 := UInt8.toNat_lt _
theorem dec_low (s : ByteArray) (p : Nat) (h : bt s p < 128) : Utf8.decode s p = (bt s p, 1) := by
  have e : (s.get! p).toNat < 128 := h
  simp [Utf8.decode, e, bt]
theorem dec_high (s : ByteArray) (p : Nat) (h : 128 ≤ bt s p) : 128 ≤ (Utf8.decode s p).1 ∧ 1 ≤ (Utf8.decode s p).2 ∧ (p < s.size → p + (Utf8.decode s p).2 ≤ s.size) ∧ ∀ j, j < (Utf8.decode s p).2 → 128 ≤ bt s (p + j) := by
  have hn : ¬ (s.get! (p + 0)).toNat < 128 := by show ¬ bt s p < 128; omega
  have h0 : 128 ≤ (s.get! p).toNat := h
  simp only [Utf8.decode, bt, hn, if_false]
  repeat' split
  all_goals simp only [Bool.and_eq_true, decide_eq_true_eq, beq_iff_eq, ge_iff_le] at *
  all_goals refine ⟨?_, ?_, ?_, ?_⟩
  all_goals first
    | omega
    | (simp only [Utf8.runeError]; omega)
    | (intro j hj
       have hc : j = 0 ∨ j = 1 ∨ j = 2 ∨ j = 3 := by omega
       rcases hc with rfl | rfl | rfl | rfl
       all_goals first | omega | exact h0)
theorem dec_le (s : ByteArray) (p : Nat) : (Utf8.decode s p).1 ≤ 2147483647 := decode_le s p

/-- A word. -/
structure Wd where
  line : Int
  pos : Int
  text : ByteArray
  deriving Inhabited, DecidableEq

def blB (b : Nat) : Bool := b == 32 || b == 9
/-- Where a word begins that has begun. -/
def begK (s : ByteArray) : Nat → Int
  | 0 => -1
  | k + 1 => if blB (bt s k) then -1 else if begK s k = -1 then k else begK s k
/-- A word ends. -/
def endW (num : Int) (s : ByteArray) (b : Int) (k : Nat) (ws : List Wd) : List Wd := if b = -1 then ws else ws ++ [⟨num, b, s.extract b.toNat k⟩]
def wsK (num : Int) (s : ByteArray) : Nat → List Wd
  | 0 => []
  | k + 1 => if blB (bt s k) then endW num s (begK s k) k (wsK num s k) else wsK num s k
/-- Where the comment begins. -/
def hashF (s : ByteArray) : Nat → Nat → Nat
  | 0, k => k
  | f + 1, k => if bt s k = 35 then k else hashF s f (k + 1)
def hashAt (s : ByteArray) : Nat := hashF s s.size 0
def wordsP (num : Int) (s : ByteArray) : List Wd := endW num s (begK s (hashAt s)) (hashAt s) (wsK num s (hashAt s))
/-- A line ends: its number, where the next one begins, the rows. -/
def addNE (ls : List (List Wd)) (ws : List Wd) : List (List Wd) := if ws.length = 0 then ls else ls ++ [ws]
def endL (s : ByteArray) (k : Nat) (x : Nat × Nat × List (List Wd)) : Nat × Nat × List (List Wd) := (x.1 + 1, k + 1, addNE x.2.2 (wordsP x.1 (s.extract x.2.1 k)))
def lnK (s : ByteArray) : Nat → Nat × Nat × List (List Wd)
  | 0 => (1, 0, [])
  | k + 1 => if bt s k = 10 then endL s k (lnK s k) else lnK s k
def linesP (s : ByteArray) : List (List Wd) := (endL s s.size (lnK s s.size)).2.2

theorem begK_succ (s : ByteArray) (k : Nat) : begK s (k + 1) = if blB (bt s k) then -1 else if begK s k = -1 then (k : Int) else begK s k := rfl
theorem wsK_succ (num : Int) (s : ByteArray) (k : Nat) : wsK num s (k + 1) = if blB (bt s k) then endW num s (begK s k) k (wsK num s k) else wsK num s k := rfl
theorem lnK_succ (s : ByteArray) (k : Nat) : lnK s (k + 1) = if bt s k = 10 then endL s k (lnK s k) else lnK s k := rfl
theorem hashF_succ (s : ByteArray) (f k : Nat) : hashF s (f + 1) k = if bt s k = 35 then k else hashF s f (k + 1) := rfl
theorem begK_ge (s : ByteArray) (k : Nat) : begK s k = -1 ∨ (0 ≤ begK s k ∧ begK s k < k) := by
  induction k with
  | zero => exact .inl rfl
  | succ k ih =>
    unfold begK
    split
    · exact .inl rfl
    · split <;> omega
theorem wsK_len (num : Int) (s : ByteArray) (k : Nat) : (wsK num s k).length ≤ k := by
  induction k with
  | zero => exact Nat.le_refl _
  | succ k ih =>
    unfold wsK endW
    split
    · split
      · omega
      · simp; omega
    · omega
theorem wordsP_len (num : Int) (s : ByteArray) (h : hashAt s ≤ s.size) : (wordsP num s).length ≤ s.size + 1 := by
  have := wsK_len num s (hashAt s)
  unfold wordsP endW
  split
  · omega
  · simp; omega
theorem hashF_le (s : ByteArray) (f k : Nat) : hashF s f k ≤ k + f ∧ k ≤ hashF s f k := by
  induction f generalizing k with
  | zero => exact ⟨Nat.le_refl _, Nat.le_refl _⟩
  | succ f ih =>
    unfold hashF
    split
    · omega
    · have := ih (k + 1); omega
theorem hashAt_le (s : ByteArray) : hashAt s ≤ s.size := by have := hashF_le s s.size 0; unfold hashAt; omega
/-- Behind bytes that are none of those that are looked for. -/
theorem begK_skip (s : ByteArray) (k w : Nat) (h : ∀ j, j < w → blB (bt s (k + j)) = false) (hw : 1 ≤ w) : begK s (k + w) = (if begK s k = -1 then (k : Int) else begK s k) := by
  induction w with
  | zero => omega
  | succ w ih =>
    have hw0 := h w (by omega)
    by_cases h1 : 1 ≤ w
    · have := ih (fun j hj => h j (by omega)) h1
      rw [← Nat.add_assoc, begK_succ, hw0, this]
      simp only [Bool.false_eq_true, if_false]
      split
      · split at * <;> omega
      · rfl
    · obtain rfl : w = 0 := by omega
      rw [Nat.add_zero] at hw0
      rw [Nat.zero_add, begK_succ, hw0]
      simp
theorem wsK_skip (num : Int) (s : ByteArray) (k w : Nat) (h : ∀ j, j < w → blB (bt s (k + j)) = false) : wsK num s (k + w) = wsK num s k := by
  induction w with
  | zero => rfl
  | succ w ih =>
    have := ih (fun j hj => h j (by omega))
    rw [← Nat.add_assoc, wsK_succ, h w (by omega), this]
    simp
theorem hashF_skip (s : ByteArray) (f k w : Nat) (h : ∀ j, j < w → bt s (k + j) ≠ 35) : hashF s (w + f) k = hashF s f (k + w) := by
  induction w generalizing k with
  | zero => simp
  | succ w ih =>
    rw [show w + 1 + f = w + f + 1 by omega]
    rw [hashF_succ, if_neg (by have := h 0 (by omega); exact this), ih (k + 1) (fun j hj => by have := h (j + 1) (by omega); rwa [show k + (j + 1) = k + 1 + j by omega] at this)]
    rw [show k + 1 + w = k + (w + 1) by omega]
theorem lnK_skip (s : ByteArray) (k w : Nat) (h : ∀ j, j < w → bt s (k + j) ≠ 10) : lnK s (k + w) = lnK s k := by
  induction w with
  | zero => rfl
  | succ w ih =>
    have := ih (fun j hj => h j (by omega))
    rw [← Nat.add_assoc, lnK_succ, if_neg (h w (by omega)), this]
theorem lnK_bd (s : ByteArray) (k : Nat) : (lnK s k).1 ≤ k + 1 ∧ (lnK s k).2.1 ≤ k ∧ (lnK s k).2.2.length ≤ k := by
  induction k with
  | zero => exact ⟨Nat.le_refl _, Nat.le_refl _, Nat.le_refl _⟩
  | succ k ih =>
    unfold lnK
    split
    · unfold endL addNE
      refine ⟨by simp only; omega, by simp only; omega, ?_⟩
      simp only
      split
      · omega
      · simp; omega
    · omega
theorem extract_of_cut (s : ByteArray) (a b n : Nat) (h : b ≤ n) : (s.extract 0 n).extract a b = s.extract a b := by
  rw [ByteArray.extract_extract, Nat.zero_add, Nat.zero_add, Nat.min_eq_left h]
end Go.Proofs.Ythoohbmpbahkgaa
