/- The reference's rows are the program's, over plain lists. -/
import Derived.Test.YtenmgbcbnofcmaaOutRefRow
import Derived.Test.YtenmgbcbnofcmaaOutRefCuts
import Derived.Test.YtenmgbcbnofcmaaOutLines
namespace Go.Proofs.Ytenmgbcbnofcmaa
open Go.RowKit

def cutL {α : Type} (c : Nat × Nat) (l : List α) : List α := (l.drop c.1).take (c.2 - c.1)
theorem cutL_len {α : Type} (c : Nat × Nat) (l : List α) (h : c.2 ≤ l.length) : (cutL c l).length = c.2 - c.1 := by
  unfold cutL
  rw [List.length_take, List.length_drop]
  omega
theorem cutL_get {α : Type} [Inhabited α] (c : Nat × Nat) (l : List α) (i : Nat) (h : i < c.2 - c.1) : (cutL c l)[i]?.getD default = l[c.1 + i]?.getD default := by
  unfold cutL
  rw [List.getElem?_take_of_lt h, List.getElem?_drop]
def rowP (ts : List (Int × Int)) (bs : List Bool) (c : Nat × Nat) : List (Int × Int) := onceO (rotO (zipO (cutL c ts) (cutL c bs))) 0
def reflinesR (ts : List (Int × Int)) (bs : List Bool) (es : List Int) : List (List (Int × Int)) := if bs.length = ts.length then (cutsP ts.length 0 0 es).map (rowP ts bs) else []

theorem atO_rot (q : List Pn) (i : Nat) (h : 0 < q.length) : atO (rotO q) 0 i = atO (ringL q q.length) (startN q) i := by
  have hl := ringL_ge q q.length
  unfold atO
  rw [rotO_len, Nat.zero_add]
  unfold rotO
  rw [List.getElem?_map, List.getElem?_range (Nat.mod_lt _ (by omega)), Option.map_some, Option.getD_some]
  unfold atO
  rw [Nat.add_mod, Nat.mod_mod, ← Nat.add_mod]
theorem goO_rot (q : List Pn) (h : 0 < q.length) (f i : Nat) (a : Pn) : goO (rotO q) 0 f i a = goO (ringL q q.length) (startN q) f i a := by
  induction f generalizing i a with
  | zero => rfl
  | succ f ih => simp only [goO, rotO_len, atO_rot q _ h, ih]
theorem once_rot (q : List Pn) (h : 0 < q.length) : onceO (rotO q) 0 = rowO q := by
  unfold rowO onceO roundO
  rw [goO_rot q h, atO_rot q _ h, rotO_len]
theorem piece_zip (ts : List (Int × Int)) (bs : List Bool) (c : Cut (zipO ts bs).length) : pieceO (zipO ts bs) c = zipO (cutL c.1.2 ts) (cutL c.1.2 bs) := by
  have hc := c.2
  have hz := zipO_len ts bs
  apply List.ext_getElem?
  intro i
  by_cases hi : i < c.1.2.2 - c.1.2.1
  · have e1 : (pieceO (zipO ts bs) c)[i]? = (zipO ts bs)[c.1.2.1 + i]? := by
      unfold pieceO
      rw [List.getElem?_take_of_lt hi, List.getElem?_drop]
    rw [e1]
    have e2 : (cutL c.1.2 ts).length = c.1.2.2 - c.1.2.1 := cutL_len _ _ (by omega)
    unfold zipO
    rw [List.getElem?_map, List.getElem?_map, List.getElem?_range (by omega), List.getElem?_range (by omega)]
    simp only [Option.map_some, zipAt]
    rw [cutL_get _ _ _ hi, cutL_get _ _ _ hi]
  · rw [List.getElem?_eq_none (by rw [pieceO_len]; omega), List.getElem?_eq_none (by rw [zipO_len, cutL_len _ _ (by omega)]; omega)]
theorem reflines_eq (ts : List (Int × Int)) (bs : List Bool) (es : List Int) : linesR ts bs es = reflinesR ts bs es := by
  unfold linesR reflinesR
  split
  · unfold rowsL cutsP
    rw [← zipO_len ts bs, List.map_map]
    apply List.map_congr_left
    intro c _
    have hc := c.2
    have hz := zipO_len ts bs
    simp only [Function.comp]
    unfold rowP
    rw [piece_zip ts bs c, once_rot _ (by rw [zipO_len, cutL_len _ _ (by omega)]; omega)]
  · rfl
theorem cutsP_mem (n : Nat) (k b : Nat) (es : List Int) : ∀ c ∈ cutsP n k b es, c.1 < c.2 ∧ c.2 ≤ n := by
  intro c hc
  unfold cutsP at hc
  obtain ⟨x, -, rfl⟩ := List.mem_map.1 hc
  exact x.2
theorem cutsP_len (n : Nat) (k b : Nat) (es : List Int) : (cutsP n k b es).length ≤ es.length := by
  unfold cutsP
  rw [List.length_map]
  induction es generalizing k b with
  | nil => simp [cutsO]
  | cons e es ih =>
    unfold cutsO
    split
    · simp only [List.length_cons]
      have := ih (k + 1) (e.toNat + 1)
      omega
    · simp
end Go.Proofs.Ytenmgbcbnofcmaa
