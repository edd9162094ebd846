/- The program's Lines. -/
import Derived.Test.YthoohbmpbahkgaaWrdLine1
namespace Go.Proofs.Ythoohbmpbahkgaa
open Go.RowKit

theorem Ln.iter {n0 : Nat} {s : ByteArray} {num beg : Nat} {v : Value} {rs : List (List Wd)} {p : Nat} {W : World} (h : Ln n0 s num beg v rs p W) (p' : Nat) : Ln n0 s num beg v rs p' (W.iterAt (n0 + 4) s p') where
  c0 := (Lib.iterAt_other _ _ _ _ _ (by omega)).trans h.c0
  c1 := (Lib.iterAt_other _ _ _ _ _ (by omega)).trans h.c1
  c2 := (Lib.iterAt_other _ _ _ _ _ (by omega)).trans h.c2
  c3 := (Lib.iterAt_other _ _ _ _ _ (by omega)).trans h.c3
  it := Lib.iterAt_heap _ _ _ _ _ h.it
  row := by
    obtain ⟨vs, h1, h2, h3⟩ := h.row
    refine ⟨vs, own_same h1 fun g hg => Lib.iterAt_other _ _ _ _ _ (by have := own_lt h1 g hg; omega), h2, fun i hi => ?_⟩
    obtain ⟨u, u1, u2, u3⟩ := h3 i hi
    refine ⟨u, u1, ?_, u3⟩
    rcases u2 with u2 | ⟨a, c, e1, e2, e3, e4, e5⟩
    · exact .inl u2
    · have := (u3 a _ _ e1).1
      refine .inr ⟨a, c, e1, by simpa [World.iterAt] using e2, e3, e4, fun j x hj => ?_⟩
      rw [World.cell?_of_block (Lib.iterAt_other _ _ _ _ _ (by rw [add_blk]; omega))]
      exact e5 j x hj

/-- A call answers rows of words of its own. -/
def LinesR (rs : List (List Wd)) (w : World) (e : Ending) (w' : World) : Prop := ∃ v, e = .returned v ∧ RowsR enW 34 w' w.heap.size v rs ∧ Below w.heap.size w w'

set_option maxHeartbeats 4000000 in
theorem lines_any (s : ByteArray) (w : World) (hs : s.size ≤ 10000000) :
    Calls Try.prog 14 #[.string s] w (LinesR (linesP s) w) := by
  obtain ⟨W0, hW0⟩ : ∃ W0, ((((w.alloc (.cells #[.string s] 9)).alloc (.cells #[.slice none 0 0] 24)).alloc (.cells #[.int .i64 1] 3)).alloc (.cells #[.int .i64 0] 3)).iter s 0 = W0 := ⟨_, rfl⟩
  have hB0 : Below w.heap.size w W0 := by
    rw [← hW0]
    exact (((((Below.refl _ _).alloc (Nat.le_refl _) _).alloc (by simp) _).alloc (by simp; omega) _).alloc (by simp; omega) _).alloc (by simp; omega) _
  have hS0 : Ln w.heap.size s 1 0 (.slice none 0 0) [] 0 W0 := by
    rw [← hW0]
    refine ⟨?_, ?_, ?_, ?_, ?_, RowsR.nil _ _⟩ <;> simp only [iter_push, alloc_push, Array.getElem?_push, Array.size_push] <;> (try simp) <;> (repeat (rw [if_neg (by omega)]))
  go_enter Try.func14, Try.ntmps14
  go_wp2_with fail
  go_loopg [] s.size (fun gk wr => ∃ (p : Nat) (v : Value), p + gk = s.size ∧ Ln w.heap.size s (lnK s p).1 (lnK s p).2.1 v (lnK s p).2.2 p wr ∧ Below w.heap.size w wr)
  case atStart => exact ⟨0, .slice none 0 0, by omega, hS0, hB0⟩
  case round =>
    clear hS0 hB0 hW0
    obtain ⟨p, v, hp, hS, hb⟩ := hrel
    have hgw : Hid (p + gk = s.size) := Lib.hid hp
    have hps : p ≤ s.size := by omega
    clear hp
    obtain ⟨hl1, hl2, hl3⟩ := lnK_bd s p
    cases gk with
    | zero =>
      obtain rfl : p = s.size := by have := hgw.out; omega
      have hlt : ¬ s.size < s.size := by omega
      have hnx : ∀ ty, (Instr.next (.pointer (some ⟨w.heap.size + 1 + 1 + 1 + 1, 0, none⟩)) true ty).run Try.prog wr = _ := fun ty => Lib.run_next_end_at wr (w.heap.size + 1 + 1 + 1 + 1) s s.size ty hS.it hlt
      obtain ⟨x, hx⟩ : ∃ x, lnK s s.size = x := ⟨_, rfl⟩
      have hfin : linesP s = (endL s s.size x).2.2 := by rw [← hx]; rfl
      rw [hx] at hS hl1 hl2 hl3
      replace hx := Lib.hid hx
      replace hfin := Lib.hid hfin
      have cS := line1_any w.heap.size s x.1 x.2.1 v x.2.2 s.size s.size wr hS hs (by omega) (by omega) (by omega) (by omega)
      have k0 := cell_of_one hS.c0
      replace hS := Lib.hid hS
      go_wp2_with ((with_reducible refine cS.mono ?_); rintro e w1 ⟨rfl, ⟨v1, hS1⟩, hb1⟩; have j1 : w1.cell? ⟨w.heap.size + 1, 0, none⟩ = some v1 := cell_of_one hS1.c1; replace hS1 := Lib.hid hS1)
      have hrow := hS1.out.row.mono (show w.heap.size ≤ w.heap.size + 5 by omega)
      go_ret
      exact ⟨v1, rfl, by rw [hfin.out]; exact hrow, hb.trans hb1⟩
    | succ f =>
      have hlt : p < s.size := by have := hgw.out; omega
      have hnx : ∀ ty, (Instr.next (.pointer (some ⟨w.heap.size + 1 + 1 + 1 + 1, 0, none⟩)) true ty).run Try.prog wr = _ := fun ty => Lib.run_next_any_at wr (w.heap.size + 1 + 1 + 1 + 1) s p ty hS.it hlt
      have hlk := fun n => lnK_skip s p n
      have hl' := lnK_succ s p
      obtain ⟨x, hx⟩ : ∃ x, lnK s p = x := ⟨_, rfl⟩
      rw [hx] at hS hl1 hl2 hl3 hl'
      simp only [hx] at hlk
      replace hx := Lib.hid hx
      by_cases h7 : bt s p < 128
      · rw [dec_low s p h7] at hnx
        simp only at hnx
        have hS2 := hS.iter (p + 1)
        have hb2 : Below w.heap.size w (wr.iterAt (w.heap.size + 1 + 1 + 1 + 1) s (p + 1)) := Lib.below_iterAt hb (by omega) s (p + 1)
        obtain ⟨W, hW⟩ : ∃ W, wr.iterAt (w.heap.size + 1 + 1 + 1 + 1) s (p + 1) = W := ⟨_, rfl⟩
        rw [show wr.iterAt (w.heap.size + 4) s (p + 1) = W from hW] at hS2
        rw [hW] at hnx hb2
        replace hW := Lib.hid hW
        clear hS hlk
        have hWz := hS2.size
        by_cases h10 : bt s p = 10
        · rw [if_pos h10] at hl'
          rw [h10] at hnx
          have cS := line1_any w.heap.size s x.1 x.2.1 v x.2.2 (p + 1) p W hS2 hs (by omega) (by omega) (by omega) (by omega)
          have k0 := cell_of_one hS2.c0
          replace hS2 := Lib.hid hS2
          replace h10 := Lib.hid h10
          replace hl' := Lib.hid hl'
          go_wp2_with ((with_reducible refine cS.mono ?_); rintro e w1 ⟨rfl, ⟨v1, hS1⟩, hb1⟩; replace hS1 := Lib.hid hS1)
          go_roundg f
          case measure => omega
          case rel => exact ⟨p + 1, v1, by have := hgw.out; omega, by rw [hl'.out]; exact hS1.out, hb2.trans hb1⟩
        · have e10 : (((bt s p : Nat) : Int) == 10) = false := by simp; omega
          rw [if_neg h10] at hl'
          generalize ((bt s p : Nat) : Int) = y at *
          replace hS2 := Lib.hid hS2
          replace hl' := Lib.hid hl'
          go_wp2_with fail
          go_roundg f
          case measure => omega
          case rel => exact ⟨p + 1, v, by have := hgw.out; omega, by rw [hl'.out]; exact hS2.out, hb2⟩
      · obtain ⟨d1, d2, d3, d4⟩ := dec_high s p (by omega)
        replace d3 := d3 hlt
        obtain ⟨n, hn⟩ : ∃ n, (Utf8.decode s p).2 = n := ⟨_, rfl⟩
        rw [hn] at d2 d3 d4 hnx
        clear hl'
        have hl' := hlk n (fun j hj => by have := d4 j hj; omega)
        clear hlk d4
        have hS2 := hS.iter (p + n)
        have hb2 : Below w.heap.size w (wr.iterAt (w.heap.size + 1 + 1 + 1 + 1) s (p + n)) := Lib.below_iterAt hb (by omega) s (p + n)
        obtain ⟨W, hW⟩ : ∃ W, wr.iterAt (w.heap.size + 1 + 1 + 1 + 1) s (p + n) = W := ⟨_, rfl⟩
        rw [show wr.iterAt (w.heap.size + 4) s (p + n) = W from hW] at hS2
        rw [hW] at hnx hb2
        replace hW := Lib.hid hW
        have hWz := hS2.size
        clear hS
        obtain ⟨y, hy⟩ : ∃ y : Int, (((Utf8.decode s p).1 : Nat) : Int) = y := ⟨_, rfl⟩
        have hy1 : 128 ≤ y := by omega
        rw [hy] at hnx
        replace hy := Lib.hid hy
        replace hn := Lib.hid hn
        clear d1
        have e10 : (y == 10) = false := by simp; omega
        replace hS2 := Lib.hid hS2
        replace hl' := Lib.hid hl'
        go_wp2_with fail
        go_roundg (s.size - (p + n))
        case measure => have := hgw.out; omega
        case rel => exact ⟨p + n, v, by omega, by rw [hl'.out]; exact hS2.out, hb2⟩
end Go.Proofs.Ythoohbmpbahkgaa
