/- Arguments that are rows of strings, of bytes: opened. -/
import Derived.Test.YthoohbmpbahkgaaWrdSetsW
import Derived.ProofKit
import Derived.OpenShut
import Derived.ChangeShapes
import Derived.SliceStrings
import Derived.Lib.SmallJoins
import Derived.Deep.Slices
namespace Go.Proofs.Ythoohbmpbahkgaa
open Go.RowKit Go.ChangeShapes Go.WideShapes Go.ChangeAt Go.Joins Go.Deep

theorem okCell_of {P : Program} {W : World} {base : Nat} {t e : TypeId} {v : Value} (ht : P.underlying t = some (.slice e)) (h : Value.okWide P W .any base t v) : Cell.okWide P W .any base t v := by
  unfold Value.okWide at h
  rw [ht] at h
  exact h
theorem okCell_slice {P : Program} {W : World} {base : Nat} {t e : TypeId} {v : Value} (ht : P.underlying t = some (.slice e)) (h : Cell.okWide P W .any base t v) : ∀ a l c, v = .slice (some a) l c → a.block < W.heap.size := by
  intro a l c hv
  subst hv
  simp only [Cell.okWide, Cell.ok, ht] at h
  obtain ⟨-, -, -, -, row, cells, hs, -⟩ := h
  unfold World.shape? at hs
  split at hs
  · rename_i hh
    exact (Array.getElem?_eq_some_iff.1 hh).1
  · cases hs
theorem flat_one_get {α : Type} [Inhabited α] (en : α → Value) (xs : List α) (j : Nat) (u : Value) (h : (flat (fun x => [en x]) xs)[j]? = some u) : j < xs.length ∧ u = en (xs[j]?.getD default) := by
  have hl := flat_len (fun x => [en x]) 1 (fun _ => rfl) xs
  have hj : j < xs.length := by have := (List.getElem?_eq_some_iff.1 h).1; omega
  have hg := flat_get (fun x => [en x]) 1 (fun _ => rfl) xs j 0 hj (by omega)
  rw [Nat.mul_one, Nat.add_zero, h] at hg
  exact ⟨hj, Option.some.inj hg⟩
section
variable {H : Type} {enc : TypeId × Value → H} {w : World} {base : Nat} {spare : Nat → Bool} {held : Bool}
theorem open_ss {b0 : Nat} {v : Value} {d : DataW H} {p : List MemPlace} (hv : Value.okWide Try.prog w .any b0 32 v) (h : DataW.Trod enc Try.prog w base spare held 32 v d p) : ∃ ss : List ByteArray, RowAt enS w v ss ∧ ∀ s ∈ ss, s.size ≤ maxLen := by
  have hlt := okCell_slice Try.underlying32 (okCell_of Try.underlying32 hv)
  obtain ⟨b1, l1, c1, rfl⟩ := okWide_slice Try.underlying32 hv
  obtain ⟨fuel, h⟩ := h
  rcases open_strings Try.underlying32 Try.underlying9 (by kernel_rfl) h with ⟨hcs, -⟩ | ⟨a, len, cap, ss, hcs, hb, hl, hm, hn, -, hcell, hsz⟩
  · simp [Value.cells] at hcs
    obtain ⟨rfl, rfl, rfl⟩ := hcs
    exact ⟨[], .inl ⟨rfl, rfl⟩, fun s hs => by cases hs⟩
  · simp [Value.cells] at hcs
    obtain ⟨rfl, rfl, rfl⟩ := hcs
    have hln : l1 ≤ ss.length := by rw [hn]; split <;> omega
    have htl : (ss.take l1).length = l1 := by rw [List.length_take]; omega
    refine ⟨ss.take l1, .inr ⟨a, c1, by rw [htl], hlt a l1 c1 rfl, by rw [htl]; exact hl, hm, fun j u hu => ?_⟩, fun s hs => hsz s (List.mem_of_mem_take hs)⟩
    obtain ⟨hj, rfl⟩ := flat_one_get (fun s => Value.string s) _ j u hu
    rw [htl] at hj
    have := hcell j (by omega)
    rw [this, List.getElem?_take, if_pos hj, List.getElem?_eq_getElem (by omega)]
    simp [List.getD, show j < ss.length by omega]
theorem open_u8s {b0 : Nat} {v : Value} {d : DataW H} {p : List MemPlace} (hv : Value.okWide Try.prog w .any b0 33 v) (h : DataW.Trod enc Try.prog w base spare held 33 v d p) : ∃ zs : List Int, RowAt enB w v zs ∧ ∀ z ∈ zs, 0 ≤ z ∧ z ≤ 255 := by
  have hlt := okCell_slice Try.underlying33 (okCell_of Try.underlying33 hv)
  obtain ⟨b1, l1, c1, rfl⟩ := okWide_slice Try.underlying33 hv
  obtain ⟨fuel, h⟩ := h
  rcases open_ints Try.underlying33 Try.underlying5 (by kernel_rfl) h with ⟨hcs, -⟩ | ⟨a, len, cap, ss, hcs, hb, hl, hm, hn, -, hcell, hsz⟩
  · simp [Value.cells] at hcs
    obtain ⟨rfl, rfl, rfl⟩ := hcs
    exact ⟨[], .inl ⟨rfl, rfl⟩, fun s hs => by cases hs⟩
  · simp [Value.cells] at hcs
    obtain ⟨rfl, rfl, rfl⟩ := hcs
    have hln : l1 ≤ ss.length := by rw [hn]; split <;> omega
    have htl : (ss.take l1).length = l1 := by rw [List.length_take]; omega
    refine ⟨ss.take l1, .inr ⟨a, c1, by rw [htl], hlt a l1 c1 rfl, by rw [htl]; exact hl, hm, fun j u hu => ?_⟩, fun s hs => ?_⟩
    · obtain ⟨hj, rfl⟩ := flat_one_get (fun z => Value.int .u8 z) _ j u hu
      rw [htl] at hj
      have := hcell j (by omega)
      rw [this, List.getElem?_take, if_pos hj, List.getElem?_eq_getElem (by omega)]
      simp [List.getD, show j < ss.length by omega]
    · have := hsz s (List.mem_of_mem_take hs)
      simp [Lit.wf, IntKind.min, IntKind.max, IntKind.signed, IntKind.bits] at this
      omega
end
end Go.Proofs.Ythoohbmpbahkgaa
