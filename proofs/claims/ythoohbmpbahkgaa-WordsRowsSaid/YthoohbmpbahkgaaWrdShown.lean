/- The laws' head: the document's examples. -/
import Derived.Test.YthoohbmpbahkgaaWrdSets
namespace Go.Proofs.Ythoohbmpbahkgaa
open Go.RowKit

def exS : ByteArray := ⟨#[97, 32, 91, 32, 98, 93, 32, 35, 32, 99, 10, 32, 100]⟩
def exW : List Wd := [⟨0, 0, ⟨#[120]⟩⟩, ⟨0, 0, ⟨#[91]⟩⟩, ⟨0, 0, ⟨#[121]⟩⟩, ⟨0, 0, ⟨#[64, 90]⟩⟩, ⟨0, 0, ⟨#[93]⟩⟩]
theorem exL : linesP exS = [[⟨1, 0, ⟨#[97]⟩⟩, ⟨1, 2, ⟨#[91]⟩⟩, ⟨1, 4, ⟨#[98, 93]⟩⟩], [⟨2, 1, ⟨#[100]⟩⟩]] := by decide +kernel
theorem exR : setsP exW = some [[⟨0, 0, ⟨#[120]⟩⟩], [⟨0, 0, ⟨#[121]⟩⟩, ⟨0, 0, ⟨#[64, 90]⟩⟩]] := by decide +kernel

/-- Rows of rows, opened. -/
theorem RowsR.open {α : Type} {en : α → List Value} {TS : TypeId} {W : World} {B : Nat} {v : Value} {rs : List (List α)} (h : RowsR en TS W B v rs) (hn : 0 < rs.length) :
    ∃ g c, v = .slice (some ⟨g, 0, none⟩) rs.length c ∧ B ≤ g ∧ g < W.heap.size ∧ ∀ i, i < rs.length → ∃ u, W.cell? ⟨g, i, none⟩ = some u ∧ RowAt en W u (rs[i]?.getD []) := by
  obtain ⟨vs, h1, h2, h3⟩ := h
  rcases own_form h1 with ⟨-, e2⟩ | ⟨g, c, e1, e2, e3, -⟩
  · omega
  · subst e1
    refine ⟨g, c, by rw [h2], e2, e3, fun i hi => ?_⟩
    obtain ⟨u, u1, u2, -⟩ := h3 i (by omega)
    exact ⟨u, (World.ownsRow.cellAt h1 i (by omega)).trans u1, u2⟩
theorem RowAt.open {α : Type} {en : α → List Value} {W : World} {v : Value} {xs : List α} (h : RowAt en W v xs) (hn : 0 < xs.length) :
    ∃ a c, v = .slice (some a) xs.length c ∧ a.block < W.heap.size ∧ ∀ j u, (flat en xs)[j]? = some u → W.cell? (a.add j) = some u := by
  rcases h with ⟨-, h0⟩ | ⟨a, c, h1, h2, h3, h4, h5⟩
  · rw [h0] at hn; simp at hn
  · exact ⟨a, c, h1, h2, h5⟩

set_option maxHeartbeats 4000000 in
set_option maxRecDepth 100000 in
theorem shown_any (w : World) : Calls Try.prog 12 #[] w fun e w' => e = .returned (.bool true) ∧ Below w.heap.size w w' := by
  have cL := lines_any exS w (by decide +kernel)
  rw [exL] at cL
  unfold exS at cL
  go_enter Try.func12, Try.ntmps12
  go_wp2_with ((with_reducible refine cL.mono ?_); rintro e w1 ⟨v, rfl, hL, hb1⟩; obtain ⟨g, c, rfl, hg1, hg2, hcell⟩ := hL.open (by decide); replace hcell := Lib.hid hcell; clear hL)
  have hz1 := hb1.size
  obtain ⟨O, hO⟩ : ∃ O, Obj.cells #[.int .i64 0, .int .i64 0, .string ⟨#[120]⟩, .int .i64 0, .int .i64 0, .string ⟨#[91]⟩, .int .i64 0, .int .i64 0, .string ⟨#[121]⟩, .int .i64 0, .int .i64 0, .string ⟨#[64, 90]⟩, .int .i64 0, .int .i64 0, .string ⟨#[93]⟩] 37 = O := ⟨_, rfl⟩
  have hat : RowAt enW (w1.alloc O) (.slice (some ⟨w1.heap.size, 0, none⟩) 5 5) exW := by
    refine .inr ⟨_, 5, rfl, by simp, by decide, by unfold maxLen; decide, fun j u hj => ?_⟩
    rw [← hO]
    exact World.news_of_block (heap_alloc_new w1 _) j u hj
  have cR := sets_any _ exW (w1.alloc O) hat (by decide)
  rw [exR] at cR
  rw [← hO] at cR
  refine cR.mono ?_
  rintro e w2 ⟨v2, rfl, hS, hb2⟩
  obtain ⟨g2, c2, rfl, hh1, hh2, hcell2⟩ := hS.open (by decide)
  have hz2 := hb2.size
  rw [hO] at hb2 hz2
  have hb3 : Below w1.heap.size w1 w2 := (balloc1 w1 O).trans (hb2.mono (by simp))
  obtain ⟨u0, m0, n0⟩ := hcell.out 0 (by decide)
  obtain ⟨u1, m1, n1⟩ := hcell.out 1 (by decide)
  replace n0 : RowAt enW w2 u0 [⟨1, 0, ⟨#[97]⟩⟩, ⟨1, 2, ⟨#[91]⟩⟩, ⟨1, 4, ⟨#[98, 93]⟩⟩] := n0.on hb3
  replace n1 : RowAt enW w2 u1 [⟨2, 1, ⟨#[100]⟩⟩] := n1.on hb3
  replace m0 := (hb3.cell (p := ⟨g, 0, none⟩) hg2).trans m0
  replace m1 := (hb3.cell (p := ⟨g, 1, none⟩) hg2).trans m1
  obtain ⟨t0, l0, o0⟩ := hcell2 0 (by decide)
  obtain ⟨t1, l1, o1⟩ := hcell2 1 (by decide)
  replace o0 : RowAt enW w2 t0 [⟨0, 0, ⟨#[120]⟩⟩] := o0
  replace o1 : RowAt enW w2 t1 [⟨0, 0, ⟨#[121]⟩⟩, ⟨0, 0, ⟨#[64, 90]⟩⟩] := o1
  obtain ⟨a0, d0, rfl, -, x0⟩ := n0.open (by decide)
  obtain ⟨a1, d1, rfl, -, x1⟩ := n1.open (by decide)
  obtain ⟨a2, d2, rfl, -, x2⟩ := o0.open (by decide)
  obtain ⟨a3, d3, rfl, -, x3⟩ := o1.open (by decide)
  have P : ∀ {a : Addr} {ws : List Wd}, (∀ j u, (flat enW ws)[j]? = some u → w2.cell? (a.add j) = some u) → ∀ j u, (flat enW ws)[j + 1]? = some u → w2.cell? ⟨a.block, a.off + (j + 1), none⟩ = some u := fun h j u hu => by
    have := h (j + 1) u hu
    unfold Addr.add at this
    rw [if_neg (by omega)] at this
    exact this
  have Q : ∀ {a : Addr} {ws : List Wd}, (∀ j u, (flat enW ws)[j]? = some u → w2.cell? (a.add j) = some u) → ∀ u, (flat enW ws)[0]? = some u → w2.cell? a = some u := fun h u hu => by
    have := h 0 u hu
    unfold Addr.add at this
    rw [if_pos rfl] at this
    exact this
  have p0 : w2.cell? ⟨a0.block, a0.off + 6, none⟩ = some (.int .i64 1) := P x0 5 _ rfl
  have p1 : w2.cell? ⟨a0.block, a0.off + 6 + 1, none⟩ = some (.int .i64 4) := P x0 6 _ rfl
  have p2 : w2.cell? ⟨a0.block, a0.off + 6 + 2, none⟩ = some (.string ⟨#[98, 93]⟩) := P x0 7 _ rfl
  have q0 : w2.cell? a1 = some (.int .i64 2) := Q x1 _ rfl
  have q1 : w2.cell? ⟨a1.block, a1.off + 1, none⟩ = some (.int .i64 1) := P x1 0 _ rfl
  have q2 : w2.cell? ⟨a1.block, a1.off + 2, none⟩ = some (.string ⟨#[100]⟩) := P x1 1 _ rfl
  have r2 : w2.cell? ⟨a2.block, a2.off + 2, none⟩ = some (.string ⟨#[120]⟩) := P x2 1 _ rfl
  have s2 : w2.cell? ⟨a3.block, a3.off + 3 + 2, none⟩ = some (.string ⟨#[64, 90]⟩) := P x3 4 _ rfl
  clear P Q
  simp only [List.length_cons, List.length_nil] at m0 m1 l0 l1
  have hB : Below w.heap.size w w2 := hb1.trans (hb3.mono hz1)
  clear x0 x1 x2 x3 n0 n1 o0 o1 hcell hcell2 hS hat cR cL hb2 hb3 hb1 hO
  go_wp2_with fail
  go_ret
  exact ⟨rfl, hB⟩
end Go.Proofs.Ythoohbmpbahkgaa
