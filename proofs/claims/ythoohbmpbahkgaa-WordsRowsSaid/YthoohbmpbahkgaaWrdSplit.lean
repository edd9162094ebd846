/- The program's split: the words of a line. -/
import Derived.Test.YthoohbmpbahkgaaWrdSplit1
import Derived.Test.YthoohbmpbahkgaaWrdNumb
namespace Go.Proofs.Ythoohbmpbahkgaa
open Go.RowKit

theorem iter_push (w : World) (s : ByteArray) (p : Nat) : (w.iter s p).heap = w.heap.push (.stringIter s p) := rfl
theorem alloc_push (w : World) (o : Obj) : (w.alloc o).heap = w.heap.push o := rfl
theorem Sp.iter {n0 : Nat} {s : ByteArray} {num : Int} {ws : List Wd} {beg : Int} {v : Value} {r : ByteArray} {p : Nat} {W : World} (h : Sp n0 s num ws beg v r p W) (p' : Nat) : Sp n0 s num ws beg v r p' (W.iterAt (n0 + 4) r p') where
  c0 := (Lib.iterAt_other _ _ _ _ _ (by omega)).trans h.c0
  c1 := (Lib.iterAt_other _ _ _ _ _ (by omega)).trans h.c1
  c2 := (Lib.iterAt_other _ _ _ _ _ (by omega)).trans h.c2
  c3 := (Lib.iterAt_other _ _ _ _ _ (by omega)).trans h.c3
  it := Lib.iterAt_heap _ _ _ _ _ h.it
  row := own_same h.row fun g hg => Lib.iterAt_other _ _ _ _ _ (by have := own_lt h.row g hg; omega)
theorem Sp.setBeg {n0 : Nat} {s : ByteArray} {num : Int} {ws : List Wd} {beg : Int} {v : Value} {r : ByteArray} {p : Nat} {W : World} (h : Sp n0 s num ws beg v r p W) (b : Int) : Sp n0 s num ws b v r p (W.setCell ⟨n0 + 3, 0, none⟩ (.int .i64 b)) where
  c0 := (heap_other (by simp)).trans h.c0
  c1 := (heap_other (by simp)).trans h.c1
  c2 := (heap_other (by simp)).trans h.c2
  c3 := one_setCell h.c3
  it := (heap_other (by simp)).trans h.it
  row := ownsRow_setCell_other h.row (fun e => by have := own_lt h.row _ e; simp only at this; omega) _
theorem Sp.setLine {n0 : Nat} {s : ByteArray} {num : Int} {ws : List Wd} {beg : Int} {v : Value} {r : ByteArray} {p : Nat} {W : World} (h : Sp n0 s num ws beg v r p W) (s' : ByteArray) : Sp n0 s' num ws beg v r p (W.setCell ⟨n0, 0, none⟩ (.string s')) where
  c0 := one_setCell h.c0
  c1 := (heap_other (by simp)).trans h.c1
  c2 := (heap_other (by simp)).trans h.c2
  c3 := (heap_other (by simp)).trans h.c3
  it := (heap_other (by simp)).trans h.it
  row := ownsRow_setCell_other h.row (fun e => by have := own_lt h.row _ e; simp only at this; omega) _
theorem endW_cut (num : Int) (s : ByteArray) (b : Int) (k n : Nat) (ws : List Wd) (h : k ≤ n) : endW num (s.extract 0 n) b k ws = endW num s b k ws := by
  unfold endW
  rw [extract_of_cut _ _ _ _ h]

/-- A call answers a row of words of its own. -/
def WordsR (ws : List Wd) (w : World) (e : Ending) (w' : World) : Prop := ∃ v, e = .returned v ∧ OwnR enW 37 3 w' w.heap.size v ws ∧ Below w.heap.size w w'

set_option maxHeartbeats 4000000 in
theorem split_any (s : ByteArray) (num : Int) (w : World) (hs : s.size ≤ 10000000) :
    Calls Try.prog 28 #[.string s, .int .i64 num] w (WordsR (wordsP num s) w) := by
  obtain ⟨H, hH⟩ : ∃ H, hashAt s = H := ⟨_, rfl⟩
  have hHle := hashAt_le s
  rw [hH] at hHle
  have hR : WordsR (wordsP num s) w = WordsR (endW num s (begK s H) H (wsK num s H)) w := by rw [← hH]; rfl
  rw [hR]
  clear hR
  obtain ⟨W0, hW0⟩ : ∃ W0, ((((w.alloc (.cells #[.string s] 9)).alloc (.cells #[.int .i64 num] 3)).alloc (.cells #[.slice none 0 0] 34)).alloc (.cells #[.int .i64 (-1)] 3)).iter s 0 = W0 := ⟨_, rfl⟩
  have hB0 : Below w.heap.size w W0 := by
    rw [← hW0]
    exact (((((Below.refl _ _).alloc (Nat.le_refl _) _).alloc (by simp) _).alloc (by simp; omega) _).alloc (by simp; omega) _).alloc (by simp; omega) _
  have hS0 : Sp w.heap.size s num [] (-1) (.slice none 0 0) s 0 W0 := by
    rw [← hW0]
    refine ⟨?_, ?_, ?_, ?_, ?_, World.ownsRow_nil _ _ _ _⟩ <;> simp only [iter_push, alloc_push, Array.getElem?_push, Array.size_push] <;> (try simp) <;> (repeat (rw [if_neg (by omega)]))
  have hH0 := Lib.hid hH
  clear hH
  go_enter Try.func28, Try.ntmps28
  go_wp2_with fail
  go_step3
  go_wp2_with fail
  go_step3
  go_wp2_with fail
  go_loopg [] s.size (fun gk wr => ∃ (p : Nat) (v : Value), p + gk = s.size ∧ Hid (hashF s gk p = H) ∧ Sp w.heap.size s num (wsK num s p) (begK s p) v s p wr ∧ Below w.heap.size w wr)
  case atStart => exact ⟨0, .slice none 0 0, by omega, hH0, hS0, hB0⟩
  case round =>
    clear hS0 hB0 hH0
    obtain ⟨p, v, hp, hrel, hS, hb⟩ := hrel
    have hgw : Hid (p + gk = s.size) := Lib.hid hp
    have hps : p ≤ s.size := by omega
    clear hp
    have hbg := begK_ge s p
    have hwl := wsK_len num s p
    have hmx : s.size ≤ maxLen := by unfold maxLen; omega
    cases gk with
    | zero =>
      obtain rfl : p = s.size := by have := hgw.out; omega
      have hlt : ¬ s.size < s.size := by omega
      have hnx : ∀ ty, (Instr.next (.pointer (some ⟨w.heap.size + 1 + 1 + 1 + 1, 0, none⟩)) true ty).run Try.prog wr = _ := fun ty => Lib.run_next_end_at wr (w.heap.size + 1 + 1 + 1 + 1) s s.size ty hS.it hlt
      obtain rfl : s.size = H := hrel.out
      obtain ⟨bg, hbgd⟩ : ∃ bg, begK s s.size = bg := ⟨_, rfl⟩
      obtain ⟨ws, hwsd⟩ : ∃ ws, wsK num s s.size = ws := ⟨_, rfl⟩
      rw [hbgd] at hS hbg
      rw [hwsd] at hS hwl
      have cS := split1_any w.heap.size s num ws bg v s s.size s.size wr hS hmx (by omega) (by omega) (by omega)
      have k0 := cell_of_one hS.c0
      have hS := Lib.hid hS
      have hbgd := Lib.hid hbgd
      have hwsd := Lib.hid hwsd
      go_wp2_with ((with_reducible refine cS.mono ?_); rintro e w1 ⟨rfl, ⟨v1, hS1⟩, hb1⟩; have j2 : w1.cell? ⟨w.heap.size + 1 + 1, 0, none⟩ = some v1 := cell_of_one hS1.c2; have hS1 := Lib.hid hS1)
      have hfin := own_mono hS1.out.row (show w.heap.size ≤ w.heap.size + 5 by omega)
      rw [← hbgd.out, ← hwsd.out] at hfin
      rw [Exit.noGoto_ret]
      go_ret
      exact ⟨v1, rfl, hfin, hb.trans hb1⟩
    | succ f =>
      have hlt : p < s.size := by have := hgw.out; omega
      have hnx : ∀ ty, (Instr.next (.pointer (some ⟨w.heap.size + 1 + 1 + 1 + 1, 0, none⟩)) true ty).run Try.prog wr = _ := fun ty => Lib.run_next_any_at wr (w.heap.size + 1 + 1 + 1 + 1) s p ty hS.it hlt
      have hwk := fun n => wsK_skip num s p n
      have hbk := fun n => begK_skip s p n
      have hhk := fun n f => hashF_skip s f p n
      have hw1 := wsK_succ num s p
      have hb1' := begK_succ s p
      have hrel := hrel.out
      obtain ⟨bg, hbgd⟩ : ∃ bg, begK s p = bg := ⟨_, rfl⟩
      obtain ⟨ws, hwsd⟩ : ∃ ws, wsK num s p = ws := ⟨_, rfl⟩
      rw [hbgd] at hS hbg hb1' hw1
      rw [hwsd] at hS hwl hw1
      simp only [hbgd] at hbk
      simp only [hwsd] at hwk
      by_cases h7 : bt s p < 128
      · rw [dec_low s p h7] at hnx
        simp only at hnx
        have hS2 := hS.iter (p + 1)
        have hb2 : Below w.heap.size w (wr.iterAt (w.heap.size + 1 + 1 + 1 + 1) s (p + 1)) := Lib.below_iterAt hb (by omega) s (p + 1)
        obtain ⟨W, hW⟩ : ∃ W, wr.iterAt (w.heap.size + 1 + 1 + 1 + 1) s (p + 1) = W := ⟨_, rfl⟩
        rw [show wr.iterAt (w.heap.size + 4) s (p + 1) = W from hW] at hS2
        rw [hW] at hnx hb2
        have hW := Lib.hid hW
        clear hS hwk hbk hhk
        have hWz := hS2.size
        rw [hashF_succ] at hrel
        by_cases h35 : bt s p = 35
        · rw [if_pos h35] at hrel
          subst hrel
          rw [h35] at hnx
          have hS3 := hS2.setLine (s.extract 0 p)
          have hsz : (s.extract 0 p).size = p := by rw [ByteArray.size_extract]; omega
          have cS := split1_any w.heap.size (s.extract 0 p) num ws bg v s (p + 1) p _ hS3 (by rw [hsz]; omega) (by rw [hsz]; exact Nat.le_refl _) (by omega) (by omega)
          rw [endW_cut _ _ _ _ _ _ (Nat.le_refl _)] at cS
          have k0 := cell_of_one hS2.c0
          have f0 := free_of_one hS2.c0
          have k0' := cell_of_one hS3.c0
          have hb3 := hb2.setCell (p := ⟨w.heap.size, 0, none⟩) (by simp) (.string (s.extract 0 p))
          have hsz2 : ((s.extract 0 p).size : Int) = (p : Int) := by omega
          have hS2 := Lib.hid hS2
          have hS3 := Lib.hid hS3
          have hw1 := Lib.hid hw1
          have hb1' := Lib.hid hb1'
          have hbgd := Lib.hid hbgd
          have hwsd := Lib.hid hwsd
          have h35 := Lib.hid h35
          have hsz := Lib.hid hsz
          go_wp2_with ((with_reducible refine cS.mono ?_); rintro e w1 ⟨rfl, ⟨v1, hS1⟩, hb1⟩; have j2 : w1.cell? ⟨w.heap.size + 1 + 1, 0, none⟩ = some v1 := cell_of_one hS1.c2; have hS1 := Lib.hid hS1)
          have hfin := own_mono hS1.out.row (show w.heap.size ≤ w.heap.size + 5 by omega)
          rw [← hbgd.out, ← hwsd.out] at hfin
          rw [Exit.noGoto_ret]
          go_ret
          exact ⟨v1, rfl, hfin, hb3.trans hb1⟩
        · have e35 : (((bt s p : Nat) : Int) == 35) = false := by simp; omega
          rw [if_neg h35] at hrel
          have hrel := Lib.hid hrel
          by_cases hbl : blB (bt s p) = true
          · have cS := split1_any w.heap.size s num ws bg v s (p + 1) p W hS2 hmx hps (by omega) (by omega)
            have hS2 := Lib.hid hS2
            have hw1 := Lib.hid hw1
            have hb1' := Lib.hid hb1'
            have hbgd := Lib.hid hbgd
            have hwsd := Lib.hid hwsd
            have hbl2 : bt s p = 32 ∨ bt s p = 9 := by simpa [blB] using hbl
            have HBL := Lib.hid hbl
            clear hbl
            rcases hbl2 with h32 | h32
            all_goals
              rw [h32] at hnx e35
              have h32 := Lib.hid h32
              go_wp2_with ((with_reducible refine cS.mono ?_); rintro e w1 ⟨rfl, ⟨v1, hS1⟩, hb1⟩; have hS1 := Lib.hid hS1)
              go_roundg f
              case measure => omega
              case rel => exact ⟨p + 1, v1, by have := hgw.out; omega, hrel, by have h := hS1.out; rw [hw1.out, hb1'.out, if_pos HBL.out, if_pos HBL.out]; exact h, hb2.trans hb1⟩
          · have e32 : (((bt s p : Nat) : Int) == 32) = false := by have : ¬ bt s p = 32 := fun h => hbl (by rw [h]; rfl); simp; omega
            have e9 : (((bt s p : Nat) : Int) == 9) = false := by have : ¬ bt s p = 9 := fun h => hbl (by rw [h]; rfl); simp; omega
            rw [if_neg hbl] at hw1 hb1'
            generalize ((bt s p : Nat) : Int) = x at *
            have k3 : W.cell? ⟨w.heap.size + 1 + 1 + 1, 0, none⟩ = some (.int .i64 bg) := cell_of_one hS2.c3
            have f3 : W.frozen? ⟨w.heap.size + 1 + 1 + 1, 0, none⟩ = false := free_of_one hS2.c3
            have hw1 := Lib.hid hw1
            have hbgd := Lib.hid hbgd
            have hwsd := Lib.hid hwsd
            by_cases hn : bg = -1
            · rw [if_pos hn] at hb1'
              subst hn
              have hS3 := hS2.setBeg p
              have hS2 := Lib.hid hS2
              have hS3 := Lib.hid hS3
              have hb1' := Lib.hid hb1'
              go_wp2_with fail
              go_roundg f
              case measure => omega
              case rel => exact ⟨p + 1, v, by have := hgw.out; omega, hrel, by rw [hw1.out, hb1'.out]; exact hS3.out, hb2.setCell (by simp; omega) _⟩
            · rw [if_neg hn] at hb1'
              have hn2 : (bg == -1) = false := by simpa using hn
              have hS2 := Lib.hid hS2
              have hb1' := Lib.hid hb1'
              go_wp2_with fail
              go_roundg f
              case measure => omega
              case rel => exact ⟨p + 1, v, by have := hgw.out; omega, hrel, by rw [hw1.out, hb1'.out]; exact hS2.out, hb2⟩
      · obtain ⟨d1, d2, d3, d4⟩ := dec_high s p (by omega)
        have d3 := d3 hlt
        obtain ⟨n, hn⟩ : ∃ n, (Utf8.decode s p).2 = n := ⟨_, rfl⟩
        rw [hn] at d2 d3 d4 hnx
        have hnb : ∀ j, j < n → blB (bt s (p + j)) = false := fun j hj => by have := d4 j hj; simp only [blB, Bool.or_eq_false_iff, beq_eq_false_iff_ne]; omega
        clear hw1 hb1'
        have hw1 := hwk n hnb
        have hb1' := hbk n hnb d2
        have hh := hhk n (s.size - (p + n)) (fun j hj => by have := d4 j hj; omega)
        rw [show n + (s.size - (p + n)) = f + 1 by have := hgw.out; omega, hrel] at hh
        have hh := Lib.hid hh
        clear hwk hbk hhk hnb d4 hrel
        have hS2 := hS.iter (p + n)
        have hb2 : Below w.heap.size w (wr.iterAt (w.heap.size + 1 + 1 + 1 + 1) s (p + n)) := Lib.below_iterAt hb (by omega) s (p + n)
        obtain ⟨W, hW⟩ : ∃ W, wr.iterAt (w.heap.size + 1 + 1 + 1 + 1) s (p + n) = W := ⟨_, rfl⟩
        rw [show wr.iterAt (w.heap.size + 4) s (p + n) = W from hW] at hS2
        rw [hW] at hnx hb2
        have hW := Lib.hid hW
        have hWz := hS2.size
        clear hS
        obtain ⟨x, hx⟩ : ∃ x : Int, (((Utf8.decode s p).1 : Nat) : Int) = x := ⟨_, rfl⟩
        have hx1 : 128 ≤ x := by omega
        rw [hx] at hnx
        have hx := Lib.hid hx
        have hn := Lib.hid hn
        clear d1
        have e35 : (x == 35) = false := by simp; omega
        have e32 : (x == 32) = false := by simp; omega
        have e9 : (x == 9) = false := by simp; omega
        have k3 : W.cell? ⟨w.heap.size + 1 + 1 + 1, 0, none⟩ = some (.int .i64 bg) := cell_of_one hS2.c3
        have f3 : W.frozen? ⟨w.heap.size + 1 + 1 + 1, 0, none⟩ = false := free_of_one hS2.c3
        have hw1 := Lib.hid hw1
        have hbgd := Lib.hid hbgd
        have hwsd := Lib.hid hwsd
        by_cases hn' : bg = -1
        · rw [if_pos hn'] at hb1'
          subst hn'
          have hS3 := hS2.setBeg p
          have hS2 := Lib.hid hS2
          have hS3 := Lib.hid hS3
          have hb1' := Lib.hid hb1'
          go_wp2_with fail
          go_roundg (s.size - (p + n))
          case measure => have := hgw.out; omega
          case rel => exact ⟨p + n, v, by omega, hh.out.symm, by rw [hw1.out, hb1'.out]; exact hS3.out, hb2.setCell (by simp; omega) _⟩
        · rw [if_neg hn'] at hb1'
          have hn2 : (bg == -1) = false := by simpa using hn'
          have hS2 := Lib.hid hS2
          have hb1' := Lib.hid hb1'
          go_wp2_with fail
          go_roundg (s.size - (p + n))
          case measure => have := hgw.out; omega
          case rel => exact ⟨p + n, v, by omega, hh.out.symm, by rw [hw1.out, hb1'.out]; exact hS2.out, hb2⟩
end Go.Proofs.Ythoohbmpbahkgaa
