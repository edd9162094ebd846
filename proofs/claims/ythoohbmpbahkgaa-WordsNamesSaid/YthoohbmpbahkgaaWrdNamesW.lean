/- The law on names, walked. -/
import Derived.Test.YthoohbmpbahkgaaWrdShown
import Derived.Test.YthoohbmpbahkgaaWrdStr
import Derived.Deep.DeepCutAuto
namespace Go.Proofs.Ythoohbmpbahkgaa
open Go.RowKit

set_option maxRecDepth 100000 in
set_option maxHeartbeats 8000000 in
theorem names_any (s : ByteArray) (c : Int) (w : World) (hs : s.size ≤ maxLen) (hc : 0 ≤ c ∧ c ≤ 255) : Calls Try.prog 9 #[.string s, .int .u8 c] w fun e w' => e = .returned (.bool true) ∧ Below w.heap.size w w' := by
  have cs := shown_any w
  have hf := fewB_size s
  have cf := fun w => few_any s w hs
  obtain ⟨f, hfd⟩ : ∃ f, fewB s = f := ⟨_, rfl⟩
  simp only [hfd] at cf
  rw [hfd] at hf
  have hfm : f.size ≤ maxLen := by unfold maxLen; omega
  have c3 := fun w => name_any f w hfm
  have hcv := conv_one c
  have c5 := fun w => name_any (f ++ oneB c) w (by rw [ByteArray.size_append, oneB_size]; unfold maxLen; omega)
  have c6 := fun w => name_any (oneB c) w (by rw [oneB_size]; unfold maxLen; omega)
  simp only [name_one c hc] at c6
  simp only [name_more f c hc] at c5
  obtain ⟨cb, hcb⟩ : ∃ cb, oneB c = cb := ⟨_, rfl⟩
  simp only [hcb] at c5 c6 hcv
  have hcs : cb.size = 1 := by rw [← hcb, oneB_size]
  have hct : ¬ (9223372036854775807 : Int) < (f.size : Int) + (cb.size : Int) := by omega
  replace hcs := Lib.hid hcs
  replace hcb := Lib.hid hcb
  replace hfd := Lib.hid hfd
  go_enter Try.func9, Try.ntmps9
  go_wp2_with fail
  refine cs.mono ?_
  rintro e w1 ⟨rfl, hB1⟩
  go_wp2_with fail
  refine (cf _).mono ?_
  rintro e w2 ⟨rfl, rfl⟩
  go_wp2_with fail
  refine (c3 _).mono ?_
  rintro e w2 ⟨rfl, hB2⟩
  go_wp2_with fail
  obtain ⟨M, hM⟩ : ∃ M, (if f.size = 0 then begR c else nameP f && ((begR c || folR c) && decide (f.size < 16))) = M := ⟨_, rfl⟩
  simp only [hM] at c5
  obtain ⟨I, hI⟩ : ∃ I, nameP f = I := ⟨_, rfl⟩
  have hIl : I = true → f.size ≠ 0 ∧ f.size ≤ 16 := fun h => by
    rw [← hI] at h
    unfold nameP at h
    simp only [Bool.and_eq_true, Bool.not_eq_true', decide_eq_false_iff_not] at h
    omega
  rw [hI] at hM ⊢
  replace hM := Lib.hid hM
  replace hI := Lib.hid hI
  replace hIl := Lib.hid hIl
  refine (c5 _).mono ?_
  rintro e w3 ⟨rfl, hB3⟩
  have hB : Below w.heap.size w w3 := sames (sames hB1 hB2) ((balloc1 w2 (.cells #[.int .u8 c] 5)).trans (hB3.mono (by simp)))
  clear hB1 hB2 hB3 c5 cf cs c3
  go_upto_region 5 with fail
  go_cut [9] (fun v wx => v = .bool (begR c) ∧ w3 = wx)
  case first =>
    by_cases e1 : c = 95
    · subst e1
      go_wp2_with fail
      go_meet
      exact ⟨rfl, rfl⟩
    by_cases e2 : c = 46
    · subst e2
      go_wp2_with fail
      go_meet
      exact ⟨rfl, rfl⟩
    have e3 : (c == 95) = false := by simpa using e1
    have e4 : (c == 46) = false := by simpa using e2
    by_cases h1 : 65 ≤ c <;> by_cases h2 : c ≤ 90 <;> by_cases h3 : 97 ≤ c <;> by_cases h4 : c ≤ 122 <;> first | omega | skip
    all_goals
      go_wp2_with fail
      go_meet
      first
        | exact ⟨congrArg Value.bool (show true = begR c from (decide_eq_true (by omega)).symm), rfl⟩
        | exact ⟨congrArg Value.bool (show false = begR c from (decide_eq_false (by omega)).symm), rfl⟩
  case rest =>
  obtain ⟨rfl, rfl⟩ := hcut
  obtain ⟨B, hBb⟩ : ∃ B, begR c = B := ⟨_, rfl⟩
  obtain ⟨N, hN⟩ : ∃ N, (begR c || folR c) = N := ⟨_, rfl⟩
  have hM2 := hM.out
  rw [hN, hBb] at hM2
  rw [hBb] at hN ⊢
  simp only [hBb] at c6
  replace hBb := Lib.hid hBb
  replace hN := Lib.hid hN
  replace hM2 := Lib.hid hM2
  clear hM
  go_upto_region 6 with fail
  go_cut [10] (fun v wx => v = .bool N ∧ w3 = wx)
  case first =>
    cases B
    · by_cases e1 : c = 45
      · have hNt : true = N := by rw [← hN.out, e1]; rfl
        replace hNt := Lib.hid hNt
        subst e1
        go_wp2_with fail
        go_meet
        exact ⟨congrArg Value.bool hNt.out, rfl⟩
      · have e2 : (c == 45) = false := beq_eq_false_iff_ne.2 e1
        by_cases h1 : 48 ≤ c <;> by_cases h2 : c ≤ 57
        all_goals
          go_wp2_with fail
          go_meet
          first
            | exact ⟨congrArg Value.bool (by rw [← hN.out, Bool.false_or]; exact (show true = folR c from (decide_eq_true (by omega)).symm)), rfl⟩
            | exact ⟨congrArg Value.bool (by rw [← hN.out, Bool.false_or]; exact (show false = folR c from (decide_eq_false (by omega)).symm)), rfl⟩
    · have hNt : Hid (true = N) := Lib.hid (by rw [← hN.out]; rfl)
      go_wp2_with fail
      go_meet
      exact ⟨congrArg Value.bool hNt.out, rfl⟩
  case rest =>
  obtain ⟨rfl, rfl⟩ := hcut
  go_wp2_with fail
  refine (c6 _).mono ?_
  rintro e w4 ⟨rfl, hB4⟩
  have hBf : Below w.heap.size w w4 := sames hB ((balloc1 w3 (.cells #[.int .u8 c] 5)).trans (hB4.mono (by simp)))
  clear hB4 hB c6
  have em : (cb.toList == cb.toList) = true := by simp
  clear em
  have hEmp : f.size = 0 ∨ f.size ≠ 0 := by omega
  rcases hEmp with h0 | h0
  · have hfe : f = ⟨#[]⟩ := ByteArray.size_eq_zero_iff.1 h0
    have hIf : I = false := by
      cases hI2 : I with
      | false => rfl
      | true => exact absurd h0 (hIl.out hI2).1
    have hMB : M = B := by have h := hM2.out; rw [if_pos h0] at h; exact h.symm
    subst hIf hMB
    replace h0 := Lib.hid h0
    subst hfe
    cases M <;> cases N
    all_goals
      go_wp2_with fail
      go_ret
      exact ⟨rfl, hBf⟩
  · have hne : f.toList ≠ [] := fun h => by
      have h2 : f.data.toList = [] := by rw [← ByteArray.toList_eq]; exact h
      have h3 : f.size = f.data.toList.length := by rw [Array.length_toList]; rfl
      rw [h2, List.length_nil] at h3
      omega
    have k3 : (f.toList == []) = false := by rw [beq_eq_false_iff_ne]; exact hne
    have k3' : f.toList.isEmpty = false := by rw [List.isEmpty_eq_false_iff]; exact hne
    have hpos : 0 < f.size := by omega
    have hMv : M = (I && (N && decide (f.size < 16))) := by have h := hM2.out; rw [if_neg h0] at h; exact h.symm
    replace h0 := Lib.hid h0
    clear hne
    cases I
    · rw [Bool.false_and] at hMv
      subst hMv
      cases B <;> cases N
      all_goals
        go_wp2_with fail
        go_ret
        exact ⟨rfl, hBf⟩
    · obtain ⟨-, hle⟩ := hIl.out rfl
      have d16 : decide ((f.size : Int) ≤ 16) = true := decide_eq_true (by omega)
      by_cases h16 : f.size < 16
      · have d17 : decide ((f.size : Int) < 16) = true := decide_eq_true (by omega)
        rw [decide_eq_true h16, Bool.and_true, Bool.true_and] at hMv
        subst hMv
        cases B <;> cases M
        all_goals
          go_wp2_with fail
          go_ret
          exact ⟨rfl, hBf⟩
      · have d17 : decide ((f.size : Int) < 16) = false := decide_eq_false (by omega)
        rw [decide_eq_false h16, Bool.and_false, Bool.and_false] at hMv
        subst hMv
        cases B <;> cases N
        all_goals
          go_wp2_with fail
          go_ret
          exact ⟨rfl, hBf⟩
end Go.Proofs.Ythoohbmpbahkgaa
