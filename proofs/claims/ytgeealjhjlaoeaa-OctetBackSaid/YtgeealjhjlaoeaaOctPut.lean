/- The contracts of Put, and what it calls. -/
import Derived.Test.YtgeealjhjlaoeaaRows
import Derived.Test.YtgeealjhjlaoeaaOctPlain
import Derived.WalkKit
import Derived.WalkSpells
import Derived.WalkLawsBesides
import Derived.Outline
import Derived.Lib.Hide
namespace Go.Proofs.Ytgeealjhjlaoeaa
open Go.RowKit Oct

theorem info5 : (Try.prog.info? 5).map (fun i => (i.zero, i.size, i.bytes)) = some (some (.int .u8 0), 1, 1) := by kernel_rfl

set_option maxHeartbeats 400000 in
theorem right_any (s : Int) (w : World) :
    Calls Try.prog 31 #[.int .i64 s] w fun e w' => e = .returned (.bool (decide (0 ≤ s) && decide (s ≤ 8))) ∧ w = w' := by
  go_enter Try.func31, Try.ntmps31
  go_wp2
  · have h : 0 ≤ s := by assumption
    go_ret
    exact ⟨by simp [h], rfl⟩
  · have h : s < 0 := by assumption
    go_ret
    exact ⟨by simp; omega, rfl⟩

theorem right_yes (k : Nat) (hk : k ≤ 8) (w : World) :
    Calls Try.prog 31 #[.int .i64 k] w fun e w' => e = .returned (.bool true) ∧ w = w' :=
  (right_any k w).mono fun e w' ⟨he, hw⟩ => ⟨by rw [he]; simp; omega, hw⟩
theorem right_no (s : Int) (h : ¬ (0 ≤ s ∧ s ≤ 8)) (w : World) :
    Calls Try.prog 31 #[.int .i64 s] w fun e w' => e = .returned (.bool false) ∧ w = w' :=
  (right_any s w).mono fun e w' ⟨he, hw⟩ => ⟨by rw [he]; simp; omega, hw⟩

set_option maxHeartbeats 400000 in
theorem put_in (n : Int) (k : Nat) (hk : k ≤ 8) (w : World) :
    Calls Try.prog 13 #[.int .i64 n, .int .i64 k] w fun e w' => e = .returned (.string (putS n k)) ∧ Below w.heap.size w w' := by
  obtain ⟨i5, hi, hz0, hz1, hz2⟩ := info_parts info5
  go_enter Try.func13, Try.ntmps13
  go_wp2_with (first
    | (go_at_call 31; refine (right_yes _ hk _).mono ?_; rintro e w' ⟨rfl, rfl⟩)
    | (at_make; refine wpList_make_full _ rfl _ _ 50 rfl w.heap.size 5 i5 (.int .u8 0) 1 Try.underlying50 hi hz0 hz1 _ _ _ _ k rfl rfl rfl rfl ?c1 ?c2 ?c3 ?_))
  case c1 => rw [hz2]; omega
  case c2 => unfold maxLen; omega
  case c3 => exact Nat.le_refl _
  intro w1 hown hgrow
  go_wp2_with fail
  go_loopw [14] (fun i wr => ∃ j : Nat, j ≤ k ∧ i = .int .i64 j ∧ wr.ownsRow w.heap.size 5 1 (.slice (some ⟨w.heap.size, 0, none⟩) k k) k ((pnum n k j).map (Value.int .u8)) ∧ Below w.heap.size w wr) (fun i _ => k - (intOf i).toNat)
  case atStart =>
    refine ⟨0, Nat.zero_le _, rfl, ?_, (Below.refl _ _).grown hgrow (Nat.le_refl _) (by simp)⟩
    rw [pnum_zero]
    have := hown
    rw [toList_madeCells_one] at this
    simpa using this
  case round =>
    obtain ⟨j, hj, rfl, hown, hbel⟩ := hrel
    by_cases hlt : j < k
    · obtain ⟨x, hx⟩ := pnum_at n k j (k - 1 - j) (by omega)
      have hc := (hown.cellAt (k - 1 - j) (by omega)).trans hx
      have hf := hown.frozenAt (k - 1 - j)
      have hst := hown.stored (k - 1 - j) (.int .u8 (n / 2 ^ (8 * j) % 256))
      rw [← List.map_set, pnum_step n k j hlt] at hst
      have HST := Lib.hid hst
      clear hst hx
      go_wp2_with fail
      go_roundw
      case rel => exact ⟨j + 1, by omega, by go_num, HST.out.1, hbel.setCell (Nat.le_refl _) _⟩
      case measure => simp [intOf]; omega
    · obtain rfl : j = k := by omega
      rw [pnum_full] at hown
      have hc : ∀ i, i < j → wr.cell? ⟨w.heap.size, 0 + i, none⟩ = some (.int .u8 ((nums n j).getD i 0)) := fun i hij => by
        rw [Nat.zero_add, hown.cellAt i (by omega), List.getElem?_map, List.getElem?_eq_getElem (by rw [nums_length]; exact hij)]
        simp [List.getD, List.getElem?_eq_getElem (show i < (nums n j).length by rw [nums_length]; exact hij)]
      have hcv := run_convert_bytes_arg (P := Try.prog) wr 50 5 Try.underlying50 Try.underlying5 w.heap.size 0 j j (nums n j) (nums_length _ _) hc 9 Try.underlying9
      clear hc
      go_wp2_with fail
      go_ret
      exact ⟨rfl, hbel⟩

theorem put_out (n s : Int) (h : ¬ (0 ≤ s ∧ s ≤ 8)) (w : World) :
    Calls Try.prog 13 #[.int .i64 n, .int .i64 s] w fun e w' => e = .returned (.string ByteArray.empty) ∧ w = w' := by
  go_enter Try.func13, Try.ntmps13
  go_wp2_with (first
    | (go_at_call 31; refine (right_no _ h _).mono ?_; rintro e w' ⟨rfl, rfl⟩))
  go_ret
  exact ⟨rfl, rfl⟩

theorem put_any (n s : Int) (w : World) :
    Calls Try.prog 13 #[.int .i64 n, .int .i64 s] w fun e w' => e = .returned (.string (putV n s)) ∧ Below w.heap.size w w' := by
  by_cases h : 0 ≤ s ∧ s ≤ 8
  · obtain ⟨k, rfl⟩ := Int.eq_ofNat_of_zero_le h.1
    rw [putV_in _ _ (by omega)]
    exact put_in n k (by omega) w
  · rw [putV_out _ _ h]
    exact (put_out n s h w).mono fun e w' ⟨he, hw⟩ => ⟨he, hw ▸ Below.refl _ _⟩

end Go.Proofs.Ytgeealjhjlaoeaa
