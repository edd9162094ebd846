/- The laws' few; the reference's digit, letter, Name, Number. -/
import Derived.Test.YthoohbmpbahkgaaWrdNumb
namespace Go.Proofs.Ythoohbmpbahkgaa
open Go.RowKit

theorem sames {w w1 w2 : World} (h : Below w.heap.size w w1) (k : Below w1.heap.size w1 w2) : Below w.heap.size w w2 := h.trans (k.mono h.size)
theorem ret_bool {a b : Bool} (h : a = b) : Ending.returned (.bool a) = .returned (.bool b) := by rw [h]
def fewB (s : ByteArray) : ByteArray := s.extract 0 (if 300 < s.size then 300 else s.size)
theorem fewB_size (s : ByteArray) : (fewB s).size ≤ 300 := by
  unfold fewB
  rw [ByteArray.size_extract]
  split <;> omega
theorem few_any (s : ByteArray) (w : World) (hs : s.size ≤ maxLen) : Calls Try.prog 15 #[.string s] w fun e w' => e = .returned (.string (fewB s)) ∧ w = w' := by
  unfold maxLen at hs
  unfold fewB
  by_cases h : 300 < s.size
  · have hm : (if (300 : Int) < (s.size : Int) then (300 : Int) else (s.size : Int)) = 300 := by rw [if_pos (by omega)]
    have z : (300 : Int) ≤ (s.size : Int) := by omega
    rw [if_pos h]
    go_enter Try.func15, Try.ntmps15
    go_wp2_with fail
    go_ret
    exact ⟨rfl, rfl⟩
  · have hm : (if (300 : Int) < (s.size : Int) then (300 : Int) else (s.size : Int)) = (s.size : Int) := by rw [if_neg (by omega)]
    rw [if_neg h]
    go_enter Try.func15, Try.ntmps15
    go_wp2_with fail
    go_ret
    exact ⟨by first | rfl | simp, rfl⟩

theorem refdigit_any (x : Int) (w : World) : Calls Try.prog 31 #[.int .u8 x] w fun e w' => e = .returned (.bool (digR x)) ∧ w = w' := by
  by_cases h1 : 48 ≤ x
  · by_cases h2 : x ≤ 57
    · rw [show digR x = true from decide_eq_true (by omega)]
      go_enter Try.func31, Try.ntmps31
      go_wp2_with fail
      go_ret
      exact ⟨rfl, rfl⟩
    · rw [show digR x = false from decide_eq_false (by omega)]
      go_enter Try.func31, Try.ntmps31
      go_wp2_with fail
      go_ret
      exact ⟨rfl, rfl⟩
  · rw [show digR x = false from decide_eq_false (by omega)]
    go_enter Try.func31, Try.ntmps31
    go_wp2_with fail
    go_ret
    exact ⟨rfl, rfl⟩
theorem refletter_any (x : Int) (w : World) : Calls Try.prog 34 #[.int .u8 x] w fun e w' => e = .returned (.bool (begR x)) ∧ w = w' := by
  by_cases e1 : x = 95
  · subst e1
    go_enter Try.func34, Try.ntmps34
    go_wp2_with fail
    go_ret
    exact ⟨rfl, rfl⟩
  by_cases e2 : x = 46
  · subst e2
    go_enter Try.func34, Try.ntmps34
    go_wp2_with fail
    go_ret
    exact ⟨rfl, rfl⟩
  have e3 : (x == 95) = false := by simpa using e1
  have e4 : (x == 46) = false := by simpa using e2
  by_cases h1 : 65 ≤ x <;> by_cases h2 : x ≤ 90 <;> by_cases h3 : 97 ≤ x <;> by_cases h4 : x ≤ 122 <;> first | omega | skip
  all_goals
    first | rw [show begR x = true from decide_eq_true (by omega)] | rw [show begR x = false from decide_eq_false (by omega)]
    go_enter Try.func34, Try.ntmps34
    go_wp2_with fail
    go_ret
    exact ⟨rfl, rfl⟩

set_option maxHeartbeats 1000000 in
theorem refname_any (s : ByteArray) (w : World) (hs : s.size ≤ 100000) : Calls Try.prog 20 #[.string s] w fun e w' => e = .returned (.bool (nameP s)) ∧ w = w' := by
  obtain ⟨R, hR⟩ : ∃ R, nmF s s.size 0 = R := ⟨_, rfl⟩
  have hN : nameP s = (!decide (s.size = 0) && (!decide (16 < s.size) && R)) := by rw [← hR]; rfl
  rw [hN]
  clear hN
  have HR := Lib.hid hR
  clear hR
  go_enter Try.func20, Try.ntmps20
  go_wp2_with fail
  go_loop [3] (fun i => ∃ k : Nat, k ≤ s.size ∧ i = .int .i64 k ∧ Hid (nmF s (s.size - k) k = R)) (fun i => (s.size - intOf i).toNat)
  case atStart => exact ⟨0, by omega, rfl, HR⟩
  case round =>
    clear HR
    obtain ⟨k, hk, rfl, hrel⟩ := hrel
    by_cases hlt : k < s.size
    · have hg := bt_get s k hlt
      have hb := bt_lt s k
      replace hrel := hrel.out
      rw [show s.size - k = (s.size - (k + 1)) + 1 by omega] at hrel
      unfold nmF at hrel
      have c1 := refletter_any (bt s k)
      have c2 := refdigit_any (bt s k)
      have hfol : folR (bt s k) = (digR (bt s k) || decide (bt s k = 45)) := by
        unfold folR digR
        rw [← Bool.decide_or]
        exact decide_eq_decide.2 (by omega)
      rw [hfol] at hrel
      cases hbr : begR (bt s k)
      · rw [hbr] at hrel
        simp only [hbr] at c1
        by_cases hz : k = 0
        · subst hz
          simp only [decide_true, Bool.not_true, Bool.false_and, Bool.or_false] at hrel
          subst hrel
          go_wp2_with ((with_reducible refine (c1 _).mono ?_); rintro e w1 ⟨rfl, rfl⟩)
          go_ret
          exact ⟨by simp, rfl⟩
        · have hz2 : ((k : Int) == 0) = false := by simpa using hz
          rw [decide_eq_false hz] at hrel
          cases hdr : digR (bt s k)
          · rw [hdr] at hrel
            simp only [hdr] at c2
            by_cases h45 : bt s k = 45
            · rw [h45] at hg hrel c1 c2
              simp only [decide_true, Bool.not_false, Bool.and_true, Bool.or_true, Bool.true_and] at hrel
              replace hrel := Lib.hid hrel
              replace h45 := Lib.hid h45
              go_wp2_with (first | (go_at_call 34; refine (c1 _).mono ?_; rintro e w1 ⟨rfl, rfl⟩) | (go_at_call 31; refine (c2 _).mono ?_; rintro e w1 ⟨rfl, rfl⟩))
              go_round
              case rel => exact ⟨k + 1, by omega, by go_num, hrel⟩
              case measure => simp [intOf]; omega
            · have h46 : (((bt s k : Nat) : Int) != 45) = true := by simp; omega
              rw [decide_eq_false h45] at hrel
              simp only [Bool.not_false, Bool.and_false, Bool.or_false, Bool.false_and] at hrel
              subst hrel
              clear hfol
              go_wp2_with (first | ((with_reducible refine (c1 _).mono ?_); rintro e w1 ⟨rfl, rfl⟩) | ((with_reducible refine (c2 _).mono ?_); rintro e w1 ⟨rfl, rfl⟩))
              go_ret
              exact ⟨by simp, rfl⟩
          · rw [hdr] at hrel
            simp only [hdr] at c2
            simp only [Bool.not_false, Bool.true_or, Bool.and_true, Bool.or_true, Bool.true_and] at hrel
            replace hrel := Lib.hid hrel
            clear hfol
            go_wp2_with (first | ((with_reducible refine (c1 _).mono ?_); rintro e w1 ⟨rfl, rfl⟩) | ((with_reducible refine (c2 _).mono ?_); rintro e w1 ⟨rfl, rfl⟩))
            go_round
            case rel => exact ⟨k + 1, by omega, by go_num, hrel⟩
            case measure => simp [intOf]; omega
      · rw [hbr] at hrel
        simp only [hbr] at c1
        simp only [Bool.true_or, Bool.true_and] at hrel
        replace hrel := Lib.hid hrel
        clear hfol
        go_wp2_with ((with_reducible refine (c1 _).mono ?_); rintro e w1 ⟨rfl, rfl⟩)
        go_round
        case rel => exact ⟨k + 1, by omega, by go_num, hrel⟩
        case measure => simp [intOf]; omega
    · obtain rfl : k = s.size := by omega
      replace hrel := hrel.out
      rw [Nat.sub_self] at hrel
      unfold nmF at hrel
      subst hrel
      by_cases h0 : s.size = 0
      · have h00 : ¬ 0 < s.size := by omega
        replace h0 := Lib.hid h0
        go_wp2_with fail
        go_ret
        exact ⟨ret_bool (by rw [decide_eq_true (ByteArray.size_eq_zero_iff.1 h0.out)]; rfl), rfl⟩
      · have h00 : 0 < s.size := by omega
        by_cases h16 : 16 < s.size
        · have h17 : ¬ s.size ≤ 16 := by omega
          go_wp2_with fail
          go_ret
          exact ⟨ret_bool (decide_eq_false (by omega)), rfl⟩
        · have h17 : s.size ≤ 16 := by omega
          go_wp2_with fail
          go_ret
          exact ⟨ret_bool (decide_eq_true (by omega)), rfl⟩
end Go.Proofs.Ythoohbmpbahkgaa
