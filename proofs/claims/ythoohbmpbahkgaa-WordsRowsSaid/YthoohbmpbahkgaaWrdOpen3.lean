/- An argument that is rows of rows of strings: opened. -/
import Derived.Test.YthoohbmpbahkgaaWrdOpen
import Derived.Deep.Slices
namespace Go.Proofs.Ythoohbmpbahkgaa
open Go.RowKit Go.ChangeShapes Go.WideShapes Go.ChangeAt Go.Joins Go.Deep

def StrsAt (W : World) (v : Value) (ss : List ByteArray) : Prop := ∃ p c, v = .slice p ss.length c ∧ ss.length ≤ maxLen ∧ ∀ k, k < ss.length → ∃ a : Addr, p = some a ∧ W.cell? (a.add k) = some (.string (ss[k]?.getD default)) ∧ (ss[k]?.getD default).size ≤ maxLen
theorem StrsAt.on {W W' : World} {v : Value} {ss : List ByteArray} (h : StrsAt W v ss) (hb : Below W.heap.size W W') : StrsAt W' v ss := by
  obtain ⟨p, c, h1, h2, h3⟩ := h
  refine ⟨p, c, h1, h2, fun k hk => ?_⟩
  obtain ⟨a, a1, a2, a3⟩ := h3 k hk
  exact ⟨a, a1, (hb.cell (p := a.add k) (World.block_lt_of_cell? W _ a2)).trans a2, a3⟩
def RowsS (W : World) (v : Value) (rss : List (List ByteArray)) : Prop := ∃ p c, v = .slice p rss.length c ∧ rss.length ≤ maxLen ∧ ∀ k, k < rss.length → ∃ (a : Addr) (q : Option Addr) (d : Nat), p = some a ∧ W.cell? (a.add k) = some (.slice q (rss[k]?.getD []).length d) ∧ StrsAt W (.slice q (rss[k]?.getD []).length d) (rss[k]?.getD [])
theorem RowsS.on {W W' : World} {v : Value} {rss : List (List ByteArray)} (h : RowsS W v rss) (hb : Below W.heap.size W W') : RowsS W' v rss := by
  obtain ⟨p, c, h1, h2, h3⟩ := h
  refine ⟨p, c, h1, h2, fun k hk => ?_⟩
  obtain ⟨a, q, d, a1, a2, a3⟩ := h3 k hk
  exact ⟨a, q, d, a1, (hb.cell (p := a.add k) (World.block_lt_of_cell? W _ a2)).trans a2, a3.on hb⟩
section
variable {H : Type} {enc : TypeId × Value → H} {w : World} {base : Nat} {spare : Nat → Bool} {held : Bool}
theorem strs_of {fuel : Nat} {v : Value} {x : DataW H × List MemPlace} (h : DataW.trod enc Try.prog w base spare held fuel 32 [v] = some x) : ∃ ss, StrsAt w v ss := by
  rcases open_strings Try.underlying32 Try.underlying9 (by kernel_rfl) h with ⟨hcs, -⟩ | ⟨a, len, cap, ss, hcs, hb, hl, hm, hn, -, hcell, hsz⟩
  · simp at hcs
    exact ⟨[], none, 0, hcs, Nat.zero_le _, fun k hk => by simp at hk⟩
  · simp at hcs
    have hln : len ≤ ss.length := by rw [hn]; split <;> omega
    have htl : (ss.take len).length = len := by rw [List.length_take]; omega
    refine ⟨ss.take len, some a, cap, by rw [htl]; exact hcs, by rw [htl]; omega, fun k hk => ⟨a, rfl, ?_, ?_⟩⟩
    · rw [htl] at hk
      have := hcell k (by omega)
      rw [this, List.getElem?_take, if_pos hk, List.getElem?_eq_getElem (by omega)]
      simp [List.getD, show k < ss.length by omega]
    · rw [htl] at hk
      rw [List.getElem?_take, if_pos hk, List.getElem?_eq_getElem (by omega)]
      exact hsz _ (List.getElem_mem _)
theorem open_sss {v : Value} {d : DataW H} {p : List MemPlace} {b0 : Nat} (hv : Value.okWide Try.prog w .any b0 53 v) (h : DataW.Trod enc Try.prog w base spare held 53 v d p) : ∃ rss : List (List ByteArray), RowsS w v rss := by
  obtain ⟨b1, l1, c1, rfl⟩ := okWide_slice Try.underlying53 hv
  obtain ⟨fuel, h⟩ := h
  rcases open_slice1 Try.underlying53 (by kernel_rfl) h with ⟨hcs, -⟩ | ⟨a, len, cap, m, n, V, D, Pl, hcs, hb, hl, hm, hmm, -, hx⟩
  · simp [Value.cells] at hcs
    obtain ⟨rfl, rfl, rfl⟩ := hcs
    exact ⟨[], none, 0, rfl, Nat.zero_le _, fun k hk => by simp at hk⟩
  · simp [Value.cells] at hcs
    obtain ⟨rfl, rfl, rfl⟩ := hcs
    have hlm : l1 ≤ m := by rw [hmm]; split <;> omega
    obtain ⟨f, hf⟩ := choose_lt (α := List ByteArray) (p := fun i ss => i < l1 → StrsAt w (V i) ss) (n := l1) (fun i hi => by
      obtain ⟨ss, hss⟩ := strs_of (hx i (by omega)).2
      exact ⟨ss, fun _ => hss⟩)
    refine ⟨(List.range l1).map f, some a, c1, by simp, by simp; omega, fun k hk => ?_⟩
    have hk' : k < l1 := by simpa using hk
    have hg : ((List.range l1).map f)[k]?.getD [] = f k := by simp [hk']
    obtain ⟨q, d, e1, e2, e3⟩ := hf k hk' hk'
    refine ⟨a, q, d, rfl, ?_, ?_⟩
    · rw [hg, ← e1]; exact (hx k (by omega)).1
    · rw [hg]; exact ⟨q, d, rfl, e2, e3⟩
end
end Go.Proofs.Ythoohbmpbahkgaa
