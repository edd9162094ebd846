/- The reference's words of a line are the program's, plainly. -/
import Derived.Test.YthoohbmpbahkgaaWrdPlain
namespace Go.Proofs.Ythoohbmpbahkgaa
open Go.RowKit

def wEnd (s : ByteArray) : Nat → Nat → Nat
  | 0, k => k
  | f + 1, k => if blB (bt s k) then k else wEnd s f (k + 1)
def stB (s : ByteArray) : Nat → Bool
  | 0 => !blB (bt s 0)
  | k + 1 => !blB (bt s (k + 1)) && blB (bt s k)
def rfK (num : Int) (s : ByteArray) (n : Nat) : Nat → List Wd
  | 0 => []
  | k + 1 => if stB s k then rfK num s n k ++ [⟨num, k, s.extract k (wEnd s (n - k) k)⟩] else rfK num s n k
theorem rfK_succ (num : Int) (s : ByteArray) (n k : Nat) : rfK num s n (k + 1) = if stB s k then rfK num s n k ++ [⟨num, k, s.extract k (wEnd s (n - k) k)⟩] else rfK num s n k := rfl
theorem wEnd_succ (s : ByteArray) (f k : Nat) : wEnd s (f + 1) k = if blB (bt s k) then k else wEnd s f (k + 1) := rfl
theorem wEnd_bd (s : ByteArray) (f k : Nat) : k ≤ wEnd s f k ∧ wEnd s f k ≤ k + f := by
  induction f generalizing k with
  | zero => exact ⟨Nat.le_refl _, Nat.le_refl _⟩
  | succ f ih =>
    rw [wEnd_succ]
    split
    · omega
    · have := ih (k + 1); omega
theorem rfK_len (num : Int) (s : ByteArray) (n k : Nat) : (rfK num s n k).length ≤ k := by
  induction k with
  | zero => exact Nat.le_refl _
  | succ k ih =>
    rw [rfK_succ]
    split
    · simp; omega
    · omega
theorem rfK_inv (num : Int) (s : ByteArray) (n k : Nat) (h : k ≤ n) :
    (begK s k = -1 → rfK num s n k = wsK num s k ∧ (k = 0 ∨ ∃ j, k = j + 1 ∧ blB (bt s j) = true)) ∧
    (begK s k ≠ -1 → rfK num s n k = wsK num s k ++ [⟨num, begK s k, s.extract (begK s k).toNat (wEnd s (n - k) k)⟩] ∧ ∃ j, k = j + 1 ∧ blB (bt s j) = false) := by
  induction k with
  | zero => exact ⟨fun _ => ⟨rfl, .inl rfl⟩, fun h => absurd rfl h⟩
  | succ k ih =>
    obtain ⟨i1, i2⟩ := ih (by omega)
    have hn : n - k = (n - (k + 1)) + 1 := by omega
    cases hb : blB (bt s k) with
    | true =>
      have hst : stB s k = false := by cases k <;> simp [stB, hb]
      have hbe : begK s (k + 1) = -1 := by rw [begK_succ, hb]; rfl
      refine ⟨fun _ => ⟨?_, .inr ⟨k, rfl, hb⟩⟩, fun hc => absurd hbe hc⟩
      rw [rfK_succ, hst, wsK_succ, hb]
      simp only [Bool.false_eq_true, if_false, if_true]
      by_cases hg : begK s k = -1
      · rw [(i1 hg).1]; unfold endW; rw [if_pos hg]
      · rw [(i2 hg).1]; unfold endW; rw [if_neg hg, hn, wEnd_succ, hb]; simp
    | false =>
      have hw : wsK num s (k + 1) = wsK num s k := by rw [wsK_succ, hb]; simp
      have he : wEnd s (n - k) k = wEnd s (n - (k + 1)) (k + 1) := by rw [hn, wEnd_succ, hb]; simp
      by_cases hg : begK s k = -1
      · have hbe : begK s (k + 1) = k := by rw [begK_succ, hb]; simp [hg]
        have hst : stB s k = true := by
          rcases (i1 hg).2 with rfl | ⟨j, rfl, hj⟩
          · simp [stB, hb]
          · simp [stB, hb, hj]
        refine ⟨fun hc => by rw [hbe] at hc; omega, fun _ => ⟨?_, k, rfl, hb⟩⟩
        rw [rfK_succ, hst, if_pos rfl, (i1 hg).1, hw, hbe, he, Int.toNat_natCast]
      · have hbe : begK s (k + 1) = begK s k := by rw [begK_succ, hb]; simp [hg]
        obtain ⟨h1, j, rfl, hj⟩ := i2 hg
        have hst : stB s (j + 1) = false := by simp [stB, hj]
        refine ⟨fun hc => absurd (hbe.symm.trans hc) hg, fun _ => ⟨?_, j + 1, rfl, hb⟩⟩
        rw [rfK_succ, hst, hw, hbe, h1, he]
        simp
theorem rfK_words (num : Int) (s : ByteArray) : rfK num s (hashAt s) (hashAt s) = wordsP num s := by
  obtain ⟨i1, i2⟩ := rfK_inv num s (hashAt s) (hashAt s) (Nat.le_refl _)
  unfold wordsP endW
  split
  · rename_i h; exact (i1 h).1
  · rename_i h; rw [(i2 h).1, Nat.sub_self]; rfl
theorem hashF_hit (s : ByteArray) (f k : Nat) (h : hashF s f k < k + f) : bt s (hashF s f k) = 35 := by
  induction f generalizing k with
  | zero => simp [hashF] at h
  | succ f ih =>
    rw [hashF_succ] at h ⊢
    split
    · assumption
    · rename_i hn
      rw [if_neg hn] at h
      exact ih (k + 1) (by omega)
end Go.Proofs.Ythoohbmpbahkgaa
