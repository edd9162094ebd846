/- The law on names and numbers, walked. -/
import Derived.Test.YthoohbmpbahkgaaWrdShown
import Derived.Test.YthoohbmpbahkgaaWrdRefNumber
namespace Go.Proofs.Ythoohbmpbahkgaa
open Go.RowKit

/-- No text is a name and a number. -/
theorem name_number (s : ByteArray) (h : nameP s = true) : (numberP s).2 = false := by
  unfold nameP at h
  simp only [Bool.and_eq_true, Bool.not_eq_true', decide_eq_false_iff_not] at h
  obtain ⟨h0, h1, h2⟩ := h
  obtain ⟨n, hn⟩ : ∃ n, s.size = n + 1 := ⟨s.size - 1, by omega⟩
  have hb : begR (bt s 0) = true := by
    rw [hn] at h2
    unfold nmF at h2
    simp only [decide_true, Bool.not_true, Bool.false_and, Bool.or_false, Bool.and_eq_true] at h2
    exact h2.1
  have hd : digR (bt s 0) = false := by
    unfold begR at hb
    unfold digR
    have := of_decide_eq_true hb
    exact decide_eq_false (by omega)
  have h45 : ¬ bt s 0 = 45 := fun e => by rw [e] at hb; revert hb; decide
  unfold numberP
  rw [if_neg (fun h => h45 h.2)]
  unfold digitsP
  split
  · rfl
  · rw [hn]
    unfold numF
    rw [hd]
    rfl

set_option maxHeartbeats 4000000 in
theorem kinds_any (s : ByteArray) (w : World) (hs : s.size ≤ maxLen) : Calls Try.prog 4 #[.string s] w fun e w' => e = .returned (.bool true) ∧ Below w.heap.size w w' := by
  have cs := shown_any w
  have hf := fewB_size s
  have cf := fun w => few_any s w hs
  obtain ⟨f, hfd⟩ : ∃ f, fewB s = f := ⟨_, rfl⟩
  simp only [hfd] at cf
  rw [hfd] at hf
  have hfm : f.size ≤ maxLen := by unfold maxLen; omega
  have c1 := fun w => number_any f w hfm
  have c2 := fun w => refnumber_any f w (by omega)
  have c3 := fun w => name_any f w hfm
  have c4 := fun w => refname_any f w (by omega)
  have hnn := name_number f
  obtain ⟨x, hx⟩ : ∃ x, numberP f = x := ⟨_, rfl⟩
  obtain ⟨b, hb⟩ : ∃ b, nameP f = b := ⟨_, rfl⟩
  simp only [hx] at c1 c2
  simp only [hb] at c3 c4
  rw [hx, hb] at hnn
  obtain ⟨n, ok⟩ := x
  simp only at hnn c1 c2
  have en : ((n : Int) == n) = true := by simp
  replace hx := Lib.hid hx
  replace hb := Lib.hid hb
  replace hfd := Lib.hid hfd
  cases b <;> cases ok
  case true.true => exact absurd (hnn rfl) (by simp)
  all_goals
    clear hnn
    go_enter Try.func4, Try.ntmps4
    go_wp2_with fail
    refine cs.mono ?_
    rintro e w1 ⟨rfl, hB1⟩
    go_wp2_with fail
    refine (cf _).mono ?_
    rintro e w2 ⟨rfl, rfl⟩
    go_wp2_with fail
    refine (c1 _).mono ?_
    rintro e w2 ⟨rfl, hB2⟩
    go_wp2_with fail
    refine (cf _).mono ?_
    rintro e w3 ⟨rfl, rfl⟩
    go_wp2_with fail
    refine (c2 _).mono ?_
    rintro e w3 ⟨rfl, rfl⟩
    go_wp2_with fail
    refine (cf _).mono ?_
    rintro e w3 ⟨rfl, rfl⟩
    go_wp2_with fail
    refine (c3 _).mono ?_
    rintro e w3 ⟨rfl, hB3⟩
    go_wp2_with fail
    refine (cf _).mono ?_
    rintro e w4 ⟨rfl, rfl⟩
    go_wp2_with fail
    refine (c4 _).mono ?_
    rintro e w4 ⟨rfl, rfl⟩
    have hB := sames (sames hB1 hB2) hB3
  · go_wp2_with fail
    go_ret
    exact ⟨rfl, hB⟩
  · go_wp2_with fail
    refine (cf _).mono ?_
    rintro e w5 ⟨rfl, rfl⟩
    go_wp2_with fail
    refine (c3 _).mono ?_
    rintro e w5 ⟨rfl, hB5⟩
    go_wp2_with fail
    go_ret
    exact ⟨rfl, sames hB hB5⟩
  · go_wp2_with fail
    go_ret
    exact ⟨rfl, hB⟩
end Go.Proofs.Ythoohbmpbahkgaa
