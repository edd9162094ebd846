/- Strings of one byte, and one behind the other. -/
import Derived.Test.YthoohbmpbahkgaaWrdRefNumber
import Derived.Laws.BytesArg
namespace Go.Proofs.Ythoohbmpbahkgaa
open Go.RowKit

/-- A text of one byte. -/
def oneB (c : Int) : ByteArray := strOfNums [c]
theorem oneB_size (c : Int) : (oneB c).size = 1 := rfl
theorem bt_oneB (c : Int) (h : 0 ≤ c ∧ c ≤ 255) : bt (oneB c) 0 = c.toNat := by
  have : bt (oneB c) 0 = (UInt8.ofNat c.toNat).toNat := rfl
  rw [this, UInt8.toNat_ofNat']
  omega
theorem conv_one (c : Int) (W : World) : (convert 33 9 (.slice (some ⟨W.heap.size, 0, none⟩) 1 1)).run Try.prog (W.alloc (.cells #[.int .u8 c] 5)) = .ok (.string (oneB c)) (W.alloc (.cells #[.int .u8 c] 5)) := by
  refine run_convert_bytes_arg (P := Try.prog) (W.alloc (.cells #[.int .u8 c] 5)) 33 5 Try.underlying33 Try.underlying5 W.heap.size 0 1 1 [c] rfl ?_ 9 Try.underlying9
  intro i hi
  obtain rfl : i = 0 := by omega
  simp [go_sem]
theorem bt_app_left (a b : ByteArray) (i : Nat) (h : i < a.size) : bt (a ++ b) i = bt a i := by
  have hs : (a ++ b).size = a.size + b.size := ByteArray.size_append
  rw [← bt_get (a ++ b) i (by omega), ← bt_get a i h, ByteArray.getElem_append_left h]
theorem bt_app_right (a b : ByteArray) (i : Nat) (h : i < b.size) : bt (a ++ b) (a.size + i) = bt b i := by
  have hs : (a ++ b).size = a.size + b.size := ByteArray.size_append
  rw [← bt_get (a ++ b) (a.size + i) (by omega), ← bt_get b i h, ByteArray.getElem_append_right (by omega)]
  congr 2
  omega
theorem nmF_congr (s t : ByteArray) (f k : Nat) (h : ∀ j, k ≤ j → j < k + f → bt s j = bt t j) : nmF s f k = nmF t f k := by
  induction f generalizing k with
  | zero => rfl
  | succ f ih =>
    unfold nmF
    rw [h k (Nat.le_refl _) (by omega), ih (k + 1) (fun j h1 h2 => h j (by omega) (by omega))]
theorem nmF_snoc (s : ByteArray) (f k : Nat) : nmF s (f + 1) k = (nmF s f k && (begR (bt s (k + f)) || (!decide (k + f = 0) && folR (bt s (k + f))))) := by
  induction f generalizing k with
  | zero => simp [nmF]
  | succ f ih =>
    rw [show nmF s (f + 1 + 1) k = ((begR (bt s k) || (!decide (k = 0) && folR (bt s k))) && nmF s (f + 1) (k + 1)) from rfl, ih (k + 1)]
    rw [show nmF s (f + 1) k = ((begR (bt s k) || (!decide (k = 0) && folR (bt s k))) && nmF s f (k + 1)) from rfl, Bool.and_assoc, show k + 1 + f = k + (f + 1) by omega]
/-- A name with one byte more. -/
theorem name_more (f : ByteArray) (c : Int) (hc : 0 ≤ c ∧ c ≤ 255) : nameP (f ++ oneB c) = (if f.size = 0 then begR c else nameP f && ((begR c || folR c) && decide (f.size < 16))) := by
  have hs : (f ++ oneB c).size = f.size + 1 := ByteArray.size_append
  have hb : bt (f ++ oneB c) f.size = c.toNat := by
    have := bt_app_right f (oneB c) 0 (by rw [oneB_size]; omega)
    rw [Nat.add_zero] at this
    rw [this, bt_oneB c hc]
  have hcc : ((c.toNat : Nat) : Int) = c := by omega
  unfold nameP
  rw [hs, nmF_snoc, Nat.zero_add, hb, hcc, nmF_congr (f ++ oneB c) f f.size 0 (fun j _ h => bt_app_left f _ j (by omega))]
  by_cases h0 : f.size = 0
  · rw [if_pos h0, h0]
    simp [nmF]
  · rw [if_neg h0, decide_eq_false h0, decide_eq_false (show ¬ f.size + 1 = 0 by omega)]
    by_cases h16 : f.size < 16
    · rw [decide_eq_false (show ¬ 16 < f.size + 1 by omega), decide_eq_false (show ¬ 16 < f.size by omega), decide_eq_true h16]
      simp
    · rw [decide_eq_true (show 16 < f.size + 1 by omega), decide_eq_false h16]
      simp
theorem name_one (c : Int) (hc : 0 ≤ c ∧ c ≤ 255) : nameP (oneB c) = begR c := by
  have hcc : ((c.toNat : Nat) : Int) = c := by omega
  unfold nameP
  rw [oneB_size]
  unfold nmF
  rw [bt_oneB c hc, hcc]
  simp [nmF]
end Go.Proofs.Ythoohbmpbahkgaa
