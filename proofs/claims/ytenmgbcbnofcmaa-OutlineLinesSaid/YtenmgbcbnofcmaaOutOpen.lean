/- Arguments that are outlines, or rows of points, bools, numbers: opened. -/
import Derived.Test.YtenmgbcbnofcmaaOutDrawn
import Derived.OpenShut
import Derived.ChangeShapes
import Derived.Lib.SmallJoins
import Derived.Deep.Slices
namespace Go.Proofs.Ytenmgbcbnofcmaa
open Go.RowKit Go.ChangeShapes Go.WideShapes Go.ChangeAt Go.Joins Go.Deep

theorem i64b {n : Int} (h : (Lit.int .i64 n).wf = true) : -9223372036854775808 ≤ n ∧ n ≤ 9223372036854775807 := by
  simp [Lit.wf, IntKind.min, IntKind.max, IntKind.signed, IntKind.bits] at h
  omega
theorem okCell_slice {P : Program} {W : World} {base : Nat} {t e : TypeId} {v : Value} (ht : P.underlying t = some (.slice e)) (h : Cell.okWide P W .any base t v) : ∀ a l c, v = .slice (some a) l c → a.block < W.heap.size := by
  intro a l c hv
  subst hv
  simp only [Cell.okWide, Cell.ok, ht] at h
  obtain ⟨-, -, -, -, row, cells, hs, -⟩ := h
  unfold World.shape? at hs
  split at hs
  · rename_i hh
    exact (Array.getElem?_eq_some_iff.1 hh).1
  · cases hs
/-- Numbers that an int can hold. -/
def I64 (n : Int) : Prop := -9223372036854775808 ≤ n ∧ n ≤ 9223372036854775807
def PnOk (p : Pn) : Prop := I64 p.x ∧ I64 p.y
section
variable {H : Type} {enc : TypeId × Value → H} {w : World} {base : Nat} {spare : Nat → Bool} {held : Bool}
theorem range_get {α : Type} (f : Nat → α) (n i : Nat) (d : α) (h : i < n) : ((List.range n).map f)[i]?.getD d = f i := by simp [h]
theorem open_ptsW {fuel : Nat} {v : Value} {x : DataW H × List MemPlace} (hlt : ∀ a l c, v = .slice (some a) l c → a.block < w.heap.size) (h : DataW.trod enc Try.prog w base spare held fuel 22 [v] = some x) : ∃ ps : List Pn, PtsAt w v ps ∧ ∀ p ∈ ps, PnOk p := by
  rcases open_slice Try.underlying22 h with ⟨hcs, -⟩ | ⟨a, len, cap, m, n, D, Pl, hcs, hb, hl, hm, hmm, -, hx⟩
  · simp only [List.cons.injEq, and_true] at hcs
    exact ⟨[], .inl ⟨hcs, rfl⟩, fun p hp => by cases hp⟩
  · simp only [List.cons.injEq, and_true] at hcs
    have hlm : len ≤ m := by rw [hmm]; split <;> omega
    have hc3 : Try.prog.cellsOf 33 = 3 := by kernel_rfl
    have key : ∀ i, i < len → ∃ p : Pn, (w.cell? (a.add (i * 3)) = some (.int .i64 p.x) ∧ w.cell? ⟨(a.add (i * 3)).block, (a.add (i * 3)).off + 1, none⟩ = some (.int .i64 p.y) ∧ w.cell? ⟨(a.add (i * 3)).block, (a.add (i * 3)).off + 2, none⟩ = some (.bool p.on)) ∧ PnOk p := by
      intro i hi
      obtain ⟨cs, h1, h2⟩ := hx i (by omega)
      rw [hc3] at h1
      obtain ⟨-, hlen, hcell⟩ := World.cells?_some h1
      obtain ⟨xs, n', -, -, -, hxl, hf⟩ := DataW.trod_struct Try.underlying33 h2
      match cs, hlen with
      | [u0, u1, u2], _ =>
        have g0 : DataW.trod enc Try.prog w base spare held n' 3 (([u0, u1, u2].drop 0).take (Try.prog.cellsOf 3)) = xs[0]? := hf 0 _ rfl
        have g1 : DataW.trod enc Try.prog w base spare held n' 3 (([u0, u1, u2].drop 1).take (Try.prog.cellsOf 3)) = xs[1]? := hf 1 _ rfl
        have g2 : DataW.trod enc Try.prog w base spare held n' 4 (([u0, u1, u2].drop 2).take (Try.prog.cellsOf 4)) = xs[2]? := hf 2 _ rfl
        have xl : xs.length = 3 := hxl
        rw [List.getElem?_eq_getElem (by omega)] at g0 g1 g2
        have e1 : Try.prog.cellsOf 3 = 1 := by kernel_rfl
        have e2 : Try.prog.cellsOf 4 = 1 := by kernel_rfl
        simp only [e1, e2, List.drop_zero, List.drop_succ_cons, List.take_succ_cons, List.take_zero] at g0 g1 g2
        obtain ⟨X, hX, -, wX⟩ := DataW.trod_int Try.underlying3 g0
        obtain ⟨Y, hY, -, wY⟩ := DataW.trod_int Try.underlying3 g1
        obtain ⟨O, hO, -⟩ := DataW.trod_bool Try.underlying4 g2
        obtain rfl := (List.cons.inj hX).1
        obtain rfl := (List.cons.inj hY).1
        obtain rfl := (List.cons.inj hO).1
        refine ⟨⟨X, Y, O⟩, ⟨?_, ?_, ?_⟩, i64b wX, i64b wY⟩
        · have := hcell 0 (by omega)
          rwa [Addr.add_zero'] at this
        · have := hcell 1 (by omega)
          rwa [show (a.add (i * 3)).add 1 = ⟨(a.add (i * 3)).block, (a.add (i * 3)).off + 1, none⟩ from rfl] at this
        · have := hcell 2 (by omega)
          rwa [show (a.add (i * 3)).add 2 = ⟨(a.add (i * 3)).block, (a.add (i * 3)).off + 2, none⟩ from rfl] at this
    obtain ⟨f, hf⟩ := choose_lt key
    refine ⟨(List.range len).map f, .inr ⟨a, cap, by simp [hcs], hlt a len cap hcs, by simpa using hl, hm, fun i hi => ?_⟩, fun p hp => ?_⟩
    · have hi : i < len := by simpa using hi
      rw [range_get _ _ _ _ hi]
      exact (hf i hi).1
    · obtain ⟨i, hi, rfl⟩ := List.mem_map.1 hp
      exact (hf i (List.mem_range.1 hi)).2
theorem open_endsW {fuel : Nat} {v : Value} {x : DataW H × List MemPlace} (hlt : ∀ a l c, v = .slice (some a) l c → a.block < w.heap.size) (h : DataW.trod enc Try.prog w base spare held fuel 23 [v] = some x) : ∃ es : List Int, EndsAt w v es ∧ ∀ e ∈ es, I64 e := by
  rcases open_ints Try.underlying23 Try.underlying3 (by kernel_rfl) h with ⟨hcs, -⟩ | ⟨a, len, cap, zs, hcs, -, hl, hm, hz, -, hcell, hwz⟩
  · simp only [List.cons.injEq, and_true] at hcs
    exact ⟨[], .inl ⟨hcs, rfl⟩, fun p hp => by cases hp⟩
  · simp only [List.cons.injEq, and_true] at hcs
    have hlz : len ≤ zs.length := by rw [hz]; split <;> omega
    refine ⟨zs.take len, .inr ⟨a, cap, by rw [hcs, List.length_take, Nat.min_eq_left hlz], hlt a len cap hcs, by rw [List.length_take]; omega, hm, fun i hi => ?_⟩, fun e he => i64b (hwz e (List.mem_of_mem_take he))⟩
    rw [List.length_take] at hi
    have := hcell i (by omega)
    rw [this, List.getElem?_take, if_pos (by omega)]
    simp [List.getD]
/-- An outline's numbers are such. -/
def OutOk (ps : List Pn) (es : List Int) : Prop := (∀ p ∈ ps, PnOk p) ∧ ∀ e ∈ es, I64 e
theorem open_outline {b0 : Nat} {v : Value} {d : DataW H} {p : List MemPlace} (hv : Value.okWide Try.prog w .any b0 25 v) (h : DataW.Trod enc Try.prog w base spare held 25 v d p) :
    ∃ ps es, OAt w v ps es ∧ OutOk ps es := by
  have hv2 := hv
  obtain ⟨v0, v1, y0, y1, n, rfl, -, -, h0, h1⟩ := open_agg2 Try.underlying25 (by kernel_rfl) (by kernel_rfl) hv h
  simp only [Value.okWide, Try.underlying25] at hv2
  obtain ⟨cs, hcs, -, ts, hts, -, hrow⟩ := hv2
  simp only [Value.agg.injEq] at hcs
  subst hcs
  have ht : Try.prog.cellTypes Try.prog.depth 25 = some [22, 23] := by kernel_rfl
  rw [ht] at hts
  cases hts
  obtain ⟨u0, k0, c0⟩ := hrow 0 v0 rfl
  obtain ⟨u1, k1, c1⟩ := hrow 1 v1 rfl
  cases k0
  cases k1
  obtain ⟨ps, q1, q2⟩ := open_ptsW (okCell_slice Try.underlying22 c0) h0
  obtain ⟨es, r1, r2⟩ := open_endsW (okCell_slice Try.underlying23 c1) h1
  exact ⟨ps, es, ⟨_, _, rfl, q1, r1⟩, q2, r2⟩
end
end Go.Proofs.Ytenmgbcbnofcmaa
