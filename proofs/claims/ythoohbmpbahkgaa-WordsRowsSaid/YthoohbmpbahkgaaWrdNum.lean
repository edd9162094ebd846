/- The program's digit, begins, follows, Name, digits, Number. -/
import Derived.Test.YthoohbmpbahkgaaWrdPlain
import Derived.Deep.LoopGhost
import Derived.IntWalk
namespace Go.Proofs.Ythoohbmpbahkgaa
open Go.RowKit

def digR (x : Int) : Bool := decide (48 ≤ x ∧ x ≤ 57)
def begR (x : Int) : Bool := decide ((65 ≤ x ∧ x ≤ 90) ∨ (97 ≤ x ∧ x ≤ 122) ∨ x = 95 ∨ x = 46)
def folR (x : Int) : Bool := decide ((48 ≤ x ∧ x ≤ 57) ∨ x = 45)

theorem digit_any (x : Int) (w : World) : Calls Try.prog 37 #[.int .i32 x] w fun e w' => e = .returned (.bool (digR x)) ∧ w = w' := by
  by_cases h1 : 48 ≤ x
  · by_cases h2 : x ≤ 57
    · rw [show digR x = true from decide_eq_true (by omega)]
      go_enter Try.func37, Try.ntmps37
      go_wp2_with fail
      go_ret
      exact ⟨rfl, rfl⟩
    · rw [show digR x = false from decide_eq_false (by omega)]
      go_enter Try.func37, Try.ntmps37
      go_wp2_with fail
      go_ret
      exact ⟨rfl, rfl⟩
  · rw [show digR x = false from decide_eq_false (by omega)]
    go_enter Try.func37, Try.ntmps37
    go_wp2_with fail
    go_ret
    exact ⟨rfl, rfl⟩
theorem follows_any (x : Int) (w : World) : Calls Try.prog 33 #[.int .i32 x] w fun e w' => e = .returned (.bool (folR x)) ∧ w = w' := by
  by_cases h1 : 48 ≤ x ∧ x ≤ 57
  · have hd := digit_any x w
    rw [show digR x = true from decide_eq_true (by omega)] at hd
    rw [show folR x = true from decide_eq_true (by omega)]
    go_enter Try.func33, Try.ntmps33
    go_wp2_with ((with_reducible refine hd.mono ?_); rintro e w1 ⟨rfl, rfl⟩)
    go_ret
    exact ⟨rfl, rfl⟩
  · have hd := digit_any x w
    rw [show digR x = false from decide_eq_false (by omega)] at hd
    by_cases h2 : x = 45
    · subst h2
      go_enter Try.func33, Try.ntmps33
      go_wp2_with ((with_reducible refine hd.mono ?_); rintro e w1 ⟨rfl, rfl⟩)
      go_ret
      exact ⟨rfl, rfl⟩
    · have h3 : (x == 45) = false := by simpa using h2
      rw [show folR x = false from decide_eq_false (by omega)]
      go_enter Try.func33, Try.ntmps33
      go_wp2_with ((with_reducible refine hd.mono ?_); rintro e w1 ⟨rfl, rfl⟩)
      go_ret
      exact ⟨rfl, rfl⟩
theorem begins_any (x : Int) (w : World) : Calls Try.prog 32 #[.int .i32 x] w fun e w' => e = .returned (.bool (begR x)) ∧ w = w' := by
  by_cases e1 : x = 95
  · subst e1
    go_enter Try.func32, Try.ntmps32
    go_wp2_with fail
    go_ret
    exact ⟨rfl, rfl⟩
  by_cases e2 : x = 46
  · subst e2
    go_enter Try.func32, Try.ntmps32
    go_wp2_with fail
    go_ret
    exact ⟨rfl, rfl⟩
  have e3 : (x == 95) = false := by simpa using e1
  have e4 : (x == 46) = false := by simpa using e2
  by_cases h1 : 65 ≤ x <;> by_cases h2 : x ≤ 90 <;> by_cases h3 : 97 ≤ x <;> by_cases h4 : x ≤ 122 <;> first | omega | skip
  all_goals
    first | rw [show begR x = true from decide_eq_true (by omega)] | rw [show begR x = false from decide_eq_false (by omega)]
    go_enter Try.func32, Try.ntmps32
    go_wp2_with fail
    go_ret
    exact ⟨rfl, rfl⟩

/-! Name. -/
def nmF (s : ByteArray) : Nat → Nat → Bool
  | 0, _ => true
  | f + 1, k => (begR (bt s k) || (!decide (k = 0) && folR (bt s k))) && nmF s f (k + 1)
def nameP (s : ByteArray) : Bool := !decide (s.size = 0) && (!decide (16 < s.size) && nmF s s.size 0)

/-- What a rune that is no byte by itself is not. -/
theorem begR_high {x : Int} (h : 128 ≤ x) : begR x = false := decide_eq_false (by omega)
theorem folR_high {x : Int} (h : 128 ≤ x) : folR x = false := decide_eq_false (by omega)
theorem digR_high {x : Int} (h : 128 ≤ x) : digR x = false := decide_eq_false (by omega)

/-- A call answers a bool, and makes memory at most. -/
def BoolR (b : Bool) (w : World) (e : Ending) (w' : World) : Prop := e = .returned (.bool b) ∧ Below w.heap.size w w'
def NumberR (x : Int × Bool) (w : World) (e : Ending) (w' : World) : Prop := e = .returned (.tuple #[.int .i64 x.1, .bool x.2]) ∧ Below w.heap.size w w'

theorem below_iter {w wr : World} (h : Below w.heap.size w wr) (s : ByteArray) (p : Nat) : Below w.heap.size w (wr.iterAt w.heap.size s p) := Lib.below_iterAt h (Nat.le_refl _) s p
set_option maxHeartbeats 1000000 in
theorem name_any (s : ByteArray) (w : World) (hs : s.size ≤ maxLen) : Calls Try.prog 19 #[.string s] w (BoolR (nameP s) w) := by
  unfold maxLen at hs
  by_cases h0 : s.size = 0
  · have e0 : ((s.size : Int) == 0) = true := by simp [h0]
    rw [show nameP s = false by simp [nameP, h0]]
    have h0 := Lib.hid h0
    go_enter Try.func19, Try.ntmps19
    go_wp2_with fail
    go_ret
    exact ⟨rfl, Below.refl _ _⟩
  have e0 : ((s.size : Int) == 0) = false := by simpa using h0
  by_cases h1 : 16 < s.size
  · rw [show nameP s = false by simp [nameP, h0, h1]]
    go_enter Try.func19, Try.ntmps19
    go_wp2_with fail
    go_ret
    exact ⟨rfl, Below.refl _ _⟩
  obtain ⟨R, hR⟩ : ∃ R, nmF s s.size 0 = R := ⟨_, rfl⟩
  rw [show nameP s = R by simp [nameP, h0, h1, hR]]
  have HR := Lib.hid hR
  clear hR
  have hb0 : Below w.heap.size w (w.iter s 0) := (Below.refl _ _).alloc (Nat.le_refl _) _
  have hi0 := World.iter_heap w s 0
  go_enter Try.func19, Try.ntmps19
  go_wp2_with fail
  go_loopg [] s.size (fun gk wr => ∃ p : Nat, p + gk = s.size ∧ Hid (nmF s gk p = R) ∧ wr.heap[w.heap.size]? = some (.stringIter s p) ∧ Below w.heap.size w wr)
  case atStart => exact ⟨0, by omega, HR, hi0, hb0⟩
  case round =>
    clear hi0 hb0 HR
    obtain ⟨p, hp, hrel, hit, hb⟩ := hrel
    have hp := Lib.hid hp
    cases gk with
    | zero =>
      have hlt : ¬ p < s.size := by have := hp.out; omega
      have hnx : ∀ ty, (Instr.next (.pointer (some ⟨w.heap.size, 0, none⟩)) true ty).run Try.prog wr = _ := fun ty => Lib.run_next_end_at wr w.heap.size s p ty hit hlt
      have hrel : R = true := hrel.out.symm
      subst hrel
      have hit := Lib.hid hit
      go_wp2_with fail
      go_ret
      exact ⟨rfl, hb⟩
    | succ f =>
      have hlt : p < s.size := by have := hp.out; omega
      have hnx : ∀ ty, (Instr.next (.pointer (some ⟨w.heap.size, 0, none⟩)) true ty).run Try.prog wr = _ := fun ty => Lib.run_next_any_at wr w.heap.size s p ty hit hlt
      have hrel := hrel.out
      unfold nmF at hrel
      by_cases h7 : bt s p < 128
      · rw [dec_low s p h7] at hnx
        simp only at hnx
        have hit2 := Lib.iterAt_heap wr w.heap.size s p (p + 1) hit
        have hb2 := below_iter hb s (p + 1)
        obtain ⟨W, hW⟩ : ∃ W, wr.iterAt w.heap.size s (p + 1) = W := ⟨_, rfl⟩
        rw [hW] at hnx hit2 hb2
        have c1 := begins_any (bt s p) W
        have c2 := follows_any (bt s p) W
        generalize ((bt s p : Nat) : Int) = x at *
        have hit := Lib.hid hit
        have hW := Lib.hid hW
        have hit2 := Lib.hid hit2
        cases hbr : begR x
        · rw [hbr] at hrel c1
          by_cases hz : p = 0
          · subst hz
            simp only [decide_true, Bool.not_true, Bool.false_and, Bool.or_false] at hrel
            subst hrel
            go_wp2_with ((with_reducible refine c1.mono ?_); rintro e w1 ⟨rfl, rfl⟩)
            go_ret
            exact ⟨rfl, hb2⟩
          · have hz2 : ((p : Int) == 0) = false := by simpa using hz
            rw [decide_eq_false hz] at hrel
            cases hfr : folR x
            · rw [hfr] at hrel c2
              simp only [Bool.not_false, Bool.and_false, Bool.or_false, Bool.false_and] at hrel
              subst hrel
              go_wp2_with (first | ((with_reducible refine c1.mono ?_); rintro e w1 ⟨rfl, rfl⟩) | ((with_reducible refine c2.mono ?_); rintro e w1 ⟨rfl, rfl⟩))
              go_ret
              exact ⟨rfl, hb2⟩
            · rw [hfr] at hrel c2
              simp only [Bool.not_false, Bool.and_true, Bool.or_true, Bool.true_and] at hrel
              have hrel := Lib.hid hrel
              go_wp2_with (first | ((with_reducible refine c1.mono ?_); rintro e w1 ⟨rfl, rfl⟩) | ((with_reducible refine c2.mono ?_); rintro e w1 ⟨rfl, rfl⟩))
              go_roundg f
              case measure => omega
              case rel => exact ⟨p + 1, by have := hp.out; omega, hrel, hit2.out, hb2⟩
        · rw [hbr] at hrel c1
          simp only [Bool.true_or, Bool.true_and] at hrel
          have hrel := Lib.hid hrel
          go_wp2_with ((with_reducible refine c1.mono ?_); rintro e w1 ⟨rfl, rfl⟩)
          go_roundg f
          case measure => omega
          case rel => exact ⟨p + 1, by have := hp.out; omega, hrel, hit2.out, hb2⟩
      · obtain ⟨d1, d2, d3, d4⟩ := dec_high s p (by omega)
        rw [begR_high (by omega), folR_high (by omega)] at hrel
        simp only [Bool.and_false, Bool.or_false, Bool.false_and] at hrel
        subst hrel
        have hb2 := below_iter hb s (p + (Utf8.decode s p).2)
        obtain ⟨W, hW⟩ : ∃ W, wr.iterAt w.heap.size s (p + (Utf8.decode s p).2) = W := ⟨_, rfl⟩
        rw [hW] at hnx hb2
        have hW := Lib.hid hW
        have hit := Lib.hid hit
        clear d2 d3 d4
        obtain ⟨x, hx⟩ : ∃ x : Int, (((Utf8.decode s p).1 : Nat) : Int) = x := ⟨_, rfl⟩
        have hx1 : 128 ≤ x := by omega
        rw [hx] at hnx
        have hx := Lib.hid hx
        clear d1
        have c1 := begins_any x W
        have c2 := follows_any x W
        rw [begR_high hx1] at c1
        rw [folR_high hx1] at c2
        by_cases hz : p = 0
        · subst hz
          go_wp2_with (first | ((with_reducible refine c1.mono ?_); rintro e w1 ⟨rfl, rfl⟩) | ((with_reducible refine c2.mono ?_); rintro e w1 ⟨rfl, rfl⟩))
          go_ret
          exact ⟨rfl, hb2⟩
        · have hz2 : ((p : Int) == 0) = false := by simpa using hz
          go_wp2_with (first | ((with_reducible refine c1.mono ?_); rintro e w1 ⟨rfl, rfl⟩) | ((with_reducible refine c2.mono ?_); rintro e w1 ⟨rfl, rfl⟩))
          go_ret
          exact ⟨rfl, hb2⟩
end Go.Proofs.Ythoohbmpbahkgaa
