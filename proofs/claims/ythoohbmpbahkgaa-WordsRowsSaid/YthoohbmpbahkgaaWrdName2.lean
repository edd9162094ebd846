/- The laws' made names; bracketed rows, plainly. -/
import Derived.Test.YthoohbmpbahkgaaWrdTame
import Derived.Test.YthoohbmpbahkgaaWrdSetsM
namespace Go.Proofs.Ythoohbmpbahkgaa
open Go.RowKit

def nmP (s : ByteArray) : ByteArray := if (tameP s).toList == [91] || (tameP s).toList == [93] then ⟨#[120]⟩ else tameP s
theorem nmP_ok (s : ByteArray) : ((nmP s).toList == [91]) = false ∧ ((nmP s).toList == [93]) = false := by
  unfold nmP
  split
  · rw [ByteArray.toList_eq]
    exact ⟨rfl, rfl⟩
  · rename_i h
    simpa using h

set_option maxHeartbeats 4000000 in
theorem name2_any (s : ByteArray) (w : World) (hs : s.size ≤ maxLen) : Calls Try.prog 26 #[.string s] w fun e w' => e = .returned (.string (nmP s)) ∧ w = w' := by
  have cT := tame_any s w hs
  obtain ⟨R, hR⟩ : ∃ R, nmP s = R := ⟨_, rfl⟩
  have hR2 := hR
  unfold nmP at hR2
  obtain ⟨T, hT⟩ : ∃ T, tameP s = T := ⟨_, rfl⟩
  rw [hT] at cT hR2
  rw [hR]
  clear hR hT
  have hR2 := Lib.hid hR2
  go_enter Try.func26, Try.ntmps26
  go_wp2_with fail
  refine cT.mono ?_
  rintro e w1 ⟨rfl, rfl⟩
  clear cT
  cases h1 : (T.toList == [91]) with
  | true =>
    obtain rfl : (⟨#[120]⟩ : ByteArray) = R := by rw [← hR2.out, h1]; rfl
    go_wp2_with fail
    go_ret
    exact ⟨rfl, rfl⟩
  | false =>
    cases h2 : (T.toList == [93]) with
    | true =>
      obtain rfl : (⟨#[120]⟩ : ByteArray) = R := by rw [← hR2.out, h1, h2]; rfl
      go_wp2_with fail
      go_ret
      exact ⟨rfl, rfl⟩
    | false =>
      obtain rfl : T = R := by rw [← hR2.out, h1, h2]; rfl
      go_wp2_with fail
      go_ret
      exact ⟨rfl, rfl⟩
end Go.Proofs.Ythoohbmpbahkgaa
