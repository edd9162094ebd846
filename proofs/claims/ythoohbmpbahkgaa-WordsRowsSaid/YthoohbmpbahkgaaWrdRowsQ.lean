/- The law on bracketed rows: what its loops say. -/
import Derived.Test.YthoohbmpbahkgaaWrdRowsP
import Derived.Test.YthoohbmpbahkgaaWrdOpen3
namespace Go.Proofs.Ythoohbmpbahkgaa
open Go.RowKit

/-- The words of one row. -/
def rowT (S : List ByteArray) : List Wd := (S.take 6).map fun t => wdT (nmP t)
theorem rowT_len (S : List ByteArray) : (rowT S).length = min 6 S.length := by unfold rowT; rw [List.length_map, List.length_take]
theorem rowT_noBr (S : List ByteArray) : NoBr (rowT S) := by
  intro x hx
  obtain ⟨t, -, rfl⟩ := List.mem_map.1 hx
  exact nmP_ok t
theorem rowT_more (S : List ByteArray) (j : Nat) (h : j < (rowT S).length) : (rowT S).take (j + 1) = (rowT S).take j ++ [wdT (nmP (S[j]?.getD default))] := by
  rw [List.take_add_one]
  congr 1
  rw [rowT_len] at h
  unfold rowT
  rw [List.getElem?_map, List.getElem?_take, if_pos (by omega), List.getElem?_eq_getElem (by omega)]
  rfl
/-- It stands in brackets. -/
def brF (S : List ByteArray) (x : Int) (i : Nat) : Bool := !(decide ((rowT S).length = 1)) || decide (bits .and .u16 (x / 2 ^ i) 1 = 1)
def rsK (rss : List (List ByteArray)) (x : Int) (k : Nat) : List (Bool × List Wd) := (List.range k).map fun i => (brF (rss[i]?.getD []) x i, rowT (rss[i]?.getD []))
def AW (rss : List (List ByteArray)) (x : Int) (k : Nat) : List Wd := allW (rsK rss x k)
theorem AW_succ (rss : List (List ByteArray)) (x : Int) (k : Nat) : AW rss x (k + 1) = AW rss x k ++ rowW (brF (rss[k]?.getD []) x k) (rowT (rss[k]?.getD [])) := by
  unfold AW rsK
  rw [List.range_succ, List.map_append, List.map_singleton, allW_snoc]
theorem rsK_ok (rss : List (List ByteArray)) (x : Int) (k : Nat) : ∀ r ∈ rsK rss x k, NoBr r.2 ∧ (r.1 = true ∨ r.2.length = 1) := by
  intro r hr
  obtain ⟨i, -, rfl⟩ := List.mem_map.1 hr
  refine ⟨rowT_noBr _, ?_⟩
  by_cases h : (rowT (rss[i]?.getD [])).length = 1
  · exact .inr h
  · left
    show brF _ _ _ = true
    unfold brF
    rw [decide_eq_false h]
    rfl
theorem AW_len (rss : List (List ByteArray)) (x : Int) (k : Nat) : (AW rss x k).length ≤ 8 * k := by
  induction k with
  | zero => simp [AW, rsK, allW]
  | succ k ih =>
    have h := rowT_len (rss[k]?.getD [])
    rw [AW_succ, List.length_append]
    unfold rowW
    split
    · simp only [List.length_cons, List.length_append, List.length_nil]; omega
    · omega
theorem AW_sets (rss : List (List ByteArray)) (x : Int) (k : Nat) : setsP (AW rss x k) = some ((List.range k).map fun i => rowT (rss[i]?.getD [])) := by
  unfold AW
  rw [setsP_all _ (rsK_ok rss x k)]
  unfold rsK
  rw [List.map_map]
  rfl
theorem AW_odd (rss : List (List ByteArray)) (x : Int) (k at' : Nat) (z : Wd) (hz : z = wO ∨ z = wC) : setsP ((AW rss x k).take at' ++ [z] ++ (AW rss x k).drop at') = none := setsP_odd _ _ _ (count_all _ (rsK_ok rss x k)) hz
theorem rowT_get (S : List ByteArray) (j : Nat) (h : j < (rowT S).length) : ((rowT S)[j]?.getD default).text = nmP (S[j]?.getD default) := by
  rw [rowT_len] at h
  unfold rowT
  rw [List.getElem?_map, List.getElem?_take, if_pos (by omega), List.getElem?_eq_getElem (by omega)]
  rfl
end Go.Proofs.Ythoohbmpbahkgaa
