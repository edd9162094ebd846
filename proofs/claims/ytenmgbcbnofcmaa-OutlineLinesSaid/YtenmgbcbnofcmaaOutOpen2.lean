/- Arguments that are rows of points without their kind, of bools, of numbers: opened. -/
import Derived.Test.YtenmgbcbnofcmaaOutOpen
import Derived.Test.YtenmgbcbnofcmaaOutLines
namespace Go.Proofs.Ytenmgbcbnofcmaa
open Go.RowKit Go.ChangeShapes Go.WideShapes Go.ChangeAt Go.Joins Go.Deep

theorem okCell_of {P : Program} {W : World} {base : Nat} {t e : TypeId} {v : Value} (ht : P.underlying t = some (.slice e)) (h : Value.okWide P W .any base t v) : Cell.okWide P W .any base t v := by
  unfold Value.okWide at h
  rw [ht] at h
  exact h
section
variable {H : Type} {enc : TypeId × Value → H} {w : World} {base : Nat} {spare : Nat → Bool} {held : Bool}
theorem open_ts {b0 : Nat} {v : Value} {d : DataW H} {p : List MemPlace} (hv : Value.okWide Try.prog w .any b0 42 v) (h : DataW.Trod enc Try.prog w base spare held 42 v d p) : ∃ ts : List (Int × Int), TsAt w v ts := by
  have hlt := okCell_slice Try.underlying42 (okCell_of Try.underlying42 hv)
  obtain ⟨b1, l1, c1, rfl⟩ := okWide_slice Try.underlying42 hv
  obtain ⟨fuel, h⟩ := h
  rcases open_slice Try.underlying42 h with ⟨hcs, -⟩ | ⟨a, len, cap, m, n, D, Pl, hcs, hb, hl, hm, hmm, -, hx⟩
  · simp [Value.cells] at hcs
    obtain ⟨rfl, rfl, rfl⟩ := hcs
    exact ⟨[], .inl ⟨rfl, rfl⟩⟩
  · simp [Value.cells] at hcs
    obtain ⟨rfl, rfl, rfl⟩ := hcs
    have hlm : l1 ≤ m := by rw [hmm]; split <;> omega
    have hc3 : Try.prog.cellsOf 52 = 2 := by kernel_rfl
    have key : ∀ i, i < l1 → ∃ p : Int × Int, w.cell? (a.add (i * 2)) = some (.int .i64 p.1) ∧ w.cell? ⟨(a.add (i * 2)).block, (a.add (i * 2)).off + 1, none⟩ = some (.int .i64 p.2) := by
      intro i hi
      obtain ⟨cs, h1, h2⟩ := hx i (by omega)
      rw [hc3] at h1
      obtain ⟨-, hlen, hcell⟩ := World.cells?_some h1
      obtain ⟨xs, n', -, -, -, hxl, hf⟩ := DataW.trod_struct Try.underlying52 h2
      match cs, hlen with
      | [u0, u1], _ =>
        have g0 : DataW.trod enc Try.prog w base spare held n' 3 (([u0, u1].drop 0).take (Try.prog.cellsOf 3)) = xs[0]? := hf 0 _ rfl
        have g1 : DataW.trod enc Try.prog w base spare held n' 3 (([u0, u1].drop 1).take (Try.prog.cellsOf 3)) = xs[1]? := hf 1 _ rfl
        have xl : xs.length = 2 := hxl
        rw [List.getElem?_eq_getElem (by omega)] at g0 g1
        have e1 : Try.prog.cellsOf 3 = 1 := by kernel_rfl
        simp only [e1, List.drop_zero, List.drop_succ_cons, List.take_succ_cons, List.take_zero] at g0 g1
        obtain ⟨X, hX, -, -⟩ := DataW.trod_int Try.underlying3 g0
        obtain ⟨Y, hY, -, -⟩ := DataW.trod_int Try.underlying3 g1
        obtain rfl := (List.cons.inj hX).1
        obtain rfl := (List.cons.inj hY).1
        refine ⟨(X, Y), ?_, ?_⟩
        · have := hcell 0 (by omega)
          rwa [Addr.add_zero'] at this
        · have := hcell 1 (by omega)
          rwa [show (a.add (i * 2)).add 1 = ⟨(a.add (i * 2)).block, (a.add (i * 2)).off + 1, none⟩ from rfl] at this
    obtain ⟨f, hf⟩ := choose_lt key
    refine ⟨(List.range l1).map f, .inr ⟨a, c1, by simp, hlt a l1 c1 rfl, by simpa using hl, hm, fun i hi => ?_⟩⟩
    have hi : i < l1 := by simpa using hi
    rw [range_get _ _ _ _ hi]
    exact hf i hi
theorem open_bs {b0 : Nat} {v : Value} {d : DataW H} {p : List MemPlace} (hv : Value.okWide Try.prog w .any b0 43 v) (h : DataW.Trod enc Try.prog w base spare held 43 v d p) : ∃ bs : List Bool, BsAt w v bs := by
  have hlt := okCell_slice Try.underlying43 (okCell_of Try.underlying43 hv)
  obtain ⟨b1, l1, c1, rfl⟩ := okWide_slice Try.underlying43 hv
  obtain ⟨fuel, h⟩ := h
  rcases open_slice Try.underlying43 h with ⟨hcs, -⟩ | ⟨a, len, cap, m, n, D, Pl, hcs, hb, hl, hm, hmm, -, hx⟩
  · simp [Value.cells] at hcs
    obtain ⟨rfl, rfl, rfl⟩ := hcs
    exact ⟨[], .inl ⟨rfl, rfl⟩⟩
  · simp [Value.cells] at hcs
    obtain ⟨rfl, rfl, rfl⟩ := hcs
    have hlm : l1 ≤ m := by rw [hmm]; split <;> omega
    have hc3 : Try.prog.cellsOf 4 = 1 := by kernel_rfl
    have key : ∀ i, i < l1 → ∃ p : Bool, w.cell? (a.add i) = some (.bool p) := by
      intro i hi
      obtain ⟨cs, h1, h2⟩ := hx i (by omega)
      rw [hc3, Nat.mul_one] at h1
      obtain ⟨-, hlen, hcell⟩ := World.cells?_some h1
      obtain ⟨b, hb, -⟩ := DataW.trod_bool Try.underlying4 h2
      subst hb
      refine ⟨b, ?_⟩
      have := hcell 0 (by omega)
      rwa [Addr.add_zero'] at this
    obtain ⟨f, hf⟩ := choose_lt key
    refine ⟨(List.range l1).map f, .inr ⟨a, c1, by simp, hlt a l1 c1 rfl, by simpa using hl, hm, fun i hi => ?_⟩⟩
    have hi : i < l1 := by simpa using hi
    rw [range_get _ _ _ _ hi]
    exact hf i hi
theorem open_es {b0 : Nat} {v : Value} {d : DataW H} {p : List MemPlace} (hv : Value.okWide Try.prog w .any b0 23 v) (h : DataW.Trod enc Try.prog w base spare held 23 v d p) : ∃ es : List Int, EndsAt w v es := by
  have hlt := okCell_slice Try.underlying23 (okCell_of Try.underlying23 hv)
  obtain ⟨b1, l1, c1, rfl⟩ := okWide_slice Try.underlying23 hv
  obtain ⟨fuel, h⟩ := h
  obtain ⟨es, h1, -⟩ := open_endsW hlt (x := (d, p)) (fuel := fuel) h
  exact ⟨es, h1⟩
end
end Go.Proofs.Ytenmgbcbnofcmaa
