/- The law on sources, walked. -/
import Derived.Test.YthoohbmpbahkgaaWrdSame
namespace Go.Proofs.Ythoohbmpbahkgaa
open Go.RowKit

theorem addNE_each {P : List Wd → Prop} (ls : List (List Wd)) (ws : List Wd) (h : ∀ x ∈ ls, P x) (hw : P ws) : ∀ x ∈ addNE ls ws, P x := by
  unfold addNE
  split
  · exact h
  · intro x hx
    rcases List.mem_append.1 hx with hx | hx
    · exact h x hx
    · simp at hx; rw [hx]; exact hw
theorem extract_le (s : ByteArray) (a b n : Nat) (h : s.size ≤ n) : (s.extract a b).size ≤ n := by rw [ByteArray.size_extract]; omega
theorem endL_rows (s : ByteArray) (k : Nat) (x : Nat × Nat × List (List Wd)) : (endL s k x).2.2 = addNE x.2.2 (wordsP x.1 (s.extract x.2.1 k)) := by unfold endL; rfl
theorem linesP_eq (s : ByteArray) : linesP s = addNE (lnK s s.size).2.2 (wordsP (lnK s s.size).1 (s.extract (lnK s s.size).2.1 s.size)) := by unfold linesP; rw [endL_rows]
theorem lnK_each (s : ByteArray) (k : Nat) : ∀ x ∈ (lnK s k).2.2, x.length ≤ s.size + 1 := by
  induction k with
  | zero => intro x hx; cases hx
  | succ k ih =>
    rw [lnK_succ]
    split
    · rw [endL_rows]
      refine addNE_each (P := fun x => x.length ≤ s.size + 1) _ _ ih ?_
      have h1 := wordsP_len (lnK s k).1 (s.extract (lnK s k).2.1 k) (hashAt_le _)
      have h2 := extract_le s (lnK s k).2.1 k s.size (Nat.le_refl _)
      omega
    · exact ih
theorem linesP_each (s : ByteArray) : ∀ x ∈ linesP s, x.length ≤ s.size + 1 := by
  rw [linesP_eq]
  refine addNE_each (P := fun x => x.length ≤ s.size + 1) _ _ (lnK_each s s.size) ?_
  have h1 := wordsP_len (lnK s s.size).1 (s.extract (lnK s s.size).2.1 s.size) (hashAt_le _)
  have h2 := extract_le s (lnK s s.size).2.1 s.size s.size (Nat.le_refl _)
  omega
theorem getD_each {P : List Wd → Prop} {ls : List (List Wd)} (h : ∀ x ∈ ls, P x) (h0 : P []) (i : Nat) : P (ls[i]?.getD []) := by
  cases e : ls[i]? with
  | none => exact h0
  | some x => exact h x (List.mem_of_getElem? e)
theorem linesP_len (s : ByteArray) : (linesP s).length ≤ s.size + 1 := by
  have := (lnK_bd s s.size).2.2
  unfold linesP endL addNE
  simp only
  split
  · omega
  · simp; omega

set_option maxHeartbeats 4000000 in
theorem all_any (s : ByteArray) (w : World) (hs : s.size ≤ maxLen) : Calls Try.prog 3 #[.string s] w fun e w' => e = .returned (.bool true) ∧ Below w.heap.size w w' := by
  have cs := shown_any w
  have hf := fewB_size s
  have cf := fun w => few_any s w hs
  obtain ⟨f, hfd⟩ : ∃ f, fewB s = f := ⟨_, rfl⟩
  simp only [hfd] at cf
  rw [hfd] at hf
  have c1 := fun w => lines_any f w (by omega)
  have c2 := fun w => reflines_any f w (by omega)
  have h1 := linesP_len f
  have h2 := getD_each (P := fun x => x.length ≤ 10000000) (fun x hx => by have := linesP_each f x hx; omega) (by simp)
  obtain ⟨rs, hrs⟩ : ∃ rs, linesP f = rs := ⟨_, rfl⟩
  simp only [hrs] at c1 c2
  rw [hrs] at h1 h2
  have h2 := Lib.hid h2
  replace hrs := Lib.hid hrs
  replace hfd := Lib.hid hfd
  go_enter Try.func3, Try.ntmps3
  go_wp2_with fail
  refine cs.mono ?_
  rintro e w1 ⟨rfl, hB1⟩
  go_wp2_with fail
  refine (cf _).mono ?_
  rintro e w2 ⟨rfl, rfl⟩
  go_wp2_with fail
  refine (c1 _).mono ?_
  rintro e w2 ⟨va, rfl, hA, hB2⟩
  go_wp2_with fail
  refine (cf _).mono ?_
  rintro e w3 ⟨rfl, rfl⟩
  go_wp2_with fail
  refine (c2 _).mono ?_
  rintro e w3 ⟨vb, rfl, hB, hB3⟩
  have cS := same_any va vb rs w3 (hA.at.on hB3) hB.at (by omega) h2.out
  replace hA := Lib.hid hA
  replace hB := Lib.hid hB
  go_wp2_with fail
  refine cS.mono ?_
  rintro e w4 ⟨rfl, hB4⟩
  go_wp2_with fail
  go_ret
  exact ⟨rfl, sames (sames (sames hB1 hB2) hB3) hB4⟩
end Go.Proofs.Ythoohbmpbahkgaa
