/- The program's digits, Number. -/
import Derived.Test.YthoohbmpbahkgaaWrdNum
namespace Go.Proofs.Ythoohbmpbahkgaa
open Go.RowKit

def numF (s : ByteArray) : Nat → Nat → Nat → Option Nat
  | 0, _, n => some n
  | f + 1, k, n => if digR (bt s k) then numF s f (k + 1) (n * 10 + (bt s k - 48)) else none
def numX : Option Nat → Int × Bool
  | some n => (n, true)
  | none => (0, false)
def digitsP (s : ByteArray) : Int × Bool := if s.size = 0 ∨ 9 < s.size then (0, false) else numX (numF s s.size 0 0)
def numberP (s : ByteArray) : Int × Bool := if 0 < s.size ∧ bt s 0 = 45 then (-(digitsP (s.extract 1 s.size)).1, (digitsP (s.extract 1 s.size)).2) else digitsP s

theorem digR_iff (b : Nat) : digR b = true ↔ 48 ≤ b ∧ b ≤ 57 := by
  unfold digR
  rw [decide_eq_true_iff]
  omega
theorem ten_le (k : Nat) (h : k ≤ 8) : 10 ^ k ≤ 100000000 := Nat.pow_le_pow_right (by decide) h
theorem numF_lt (s : ByteArray) (f k n m : Nat) (h : numF s f k n = some m) (hn : n + 1 ≤ 10 ^ k) : m + 1 ≤ 10 ^ (k + f) := by
  induction f generalizing k n with
  | zero => simp only [numF, Option.some.injEq] at h; subst h; exact hn
  | succ f ih =>
    unfold numF at h
    split at h
    · rename_i hd
      have hd := (digR_iff _).1 hd
      have := ih (k + 1) _ h (by rw [Nat.pow_succ]; omega)
      rwa [show k + (f + 1) = k + 1 + f by omega]
    · cases h
theorem digitsP_bd (s : ByteArray) : 0 ≤ (digitsP s).1 ∧ (digitsP s).1 ≤ 999999999 := by
  unfold digitsP
  split
  · exact ⟨Int.le_refl _, by show (0 : Int) ≤ _; omega⟩
  · rename_i h
    cases hm : numF s s.size 0 0 with
    | some m =>
      have h1 := numF_lt s _ _ _ _ hm (by simp)
      have h2 : 10 ^ (0 + s.size) ≤ 10 ^ 9 := Nat.pow_le_pow_right (by decide) (by omega)
      have h3 : (10 : Nat) ^ 9 = 1000000000 := by decide
      refine ⟨by simp only [numX]; omega, by simp only [numX]; omega⟩
    | none => exact ⟨Int.le_refl _, by show (0 : Int) ≤ _; omega⟩

theorem wrap64_in {n : Int} (h1 : -9223372036854775808 ≤ n) (h2 : n ≤ 9223372036854775807) : wrap64 n = n := by unfold wrap64; omega
set_option maxHeartbeats 1000000 in
theorem digits_any (s : ByteArray) (w : World) (hs : s.size ≤ maxLen) : Calls Try.prog 30 #[.string s] w (NumberR (digitsP s) w) := by
  unfold maxLen at hs
  by_cases h0 : s.size = 0
  · have e0 : ((s.size : Int) == 0) = true := by simp [h0]
    rw [show digitsP s = (0, false) by simp [digitsP, h0]]
    have h0 := Lib.hid h0
    go_enter Try.func30, Try.ntmps30
    go_wp2_with fail
    go_ret2
    exact ⟨rfl, Below.refl _ _⟩
  have e0 : ((s.size : Int) == 0) = false := by simpa using h0
  by_cases h1 : 9 < s.size
  · rw [show digitsP s = (0, false) by simp [digitsP, h1]]
    go_enter Try.func30, Try.ntmps30
    go_wp2_with fail
    go_ret2
    exact ⟨rfl, Below.refl _ _⟩
  obtain ⟨R, hR⟩ : ∃ R, numF s s.size 0 0 = R := ⟨_, rfl⟩
  have hD : digitsP s = numX R := by rw [← hR]; simp [digitsP, h0, h1]
  rw [hD]
  clear hD
  have HR := Lib.hid hR
  clear hR
  have hb0 : Below w.heap.size w (w.iter s 0) := (Below.refl _ _).alloc (Nat.le_refl _) _
  have hi0 := World.iter_heap w s 0
  go_enter Try.func30, Try.ntmps30
  go_wp2_with fail
  go_loopg [4] s.size (fun gk v wr => ∃ p n : Nat, p + gk = s.size ∧ v = .int .i64 n ∧ Hid (numF s gk p n = R) ∧ Hid (n + 1 ≤ 10 ^ p) ∧ wr.heap[w.heap.size]? = some (.stringIter s p) ∧ Below w.heap.size w wr)
  case atStart => exact ⟨0, 0, by omega, rfl, HR, Lib.hid (by decide), hi0, hb0⟩
  case round =>
    clear hi0 hb0 HR
    obtain ⟨p, n, hp, rfl, hrel, hpow, hit, hb⟩ := hrel
    have hp := Lib.hid hp
    cases gk with
    | zero =>
      have hlt : ¬ p < s.size := by have := hp.out; omega
      have hnx : ∀ ty, (Instr.next (.pointer (some ⟨w.heap.size, 0, none⟩)) true ty).run Try.prog wr = _ := fun ty => Lib.run_next_end_at wr w.heap.size s p ty hit hlt
      have hrel : R = some n := hrel.out.symm
      subst hrel
      have hit := Lib.hid hit
      go_wp2_with fail
      go_ret2
      exact ⟨rfl, hb⟩
    | succ f =>
      have hlt : p < s.size := by have := hp.out; omega
      have hnx : ∀ ty, (Instr.next (.pointer (some ⟨w.heap.size, 0, none⟩)) true ty).run Try.prog wr = _ := fun ty => Lib.run_next_any_at wr w.heap.size s p ty hit hlt
      have hrel := hrel.out
      unfold numF at hrel
      by_cases h7 : bt s p < 128
      · rw [dec_low s p h7] at hnx
        simp only at hnx
        have hit2 := Lib.iterAt_heap wr w.heap.size s p (p + 1) hit
        have hb2 := below_iter hb s (p + 1)
        obtain ⟨W, hW⟩ : ∃ W, wr.iterAt w.heap.size s (p + 1) = W := ⟨_, rfl⟩
        rw [hW] at hnx hit2 hb2
        have c1 := digit_any (bt s p) W
        have hit := Lib.hid hit
        have hW := Lib.hid hW
        have hit2 := Lib.hid hit2
        cases hbr : digR (bt s p)
        · rw [hbr] at hrel c1
          simp only [Bool.false_eq_true, if_false] at hrel
          subst hrel
          clear hbr
          generalize ((bt s p : Nat) : Int) = x at *
          go_wp2_with ((with_reducible refine c1.mono ?_); rintro e w1 ⟨rfl, rfl⟩)
          go_ret2
          exact ⟨rfl, hb2⟩
        · have hd := (digR_iff _).1 hbr
          rw [hbr] at hrel c1
          simp only [if_true] at hrel
          have hrel := Lib.hid hrel
          have hpw := ten_le p (by omega)
          have hn : n ≤ 99999999 := by have := hpow.out; omega
          have hpow2 : Hid (n * 10 + (bt s p - 48) + 1 ≤ 10 ^ (p + 1)) := Lib.hid (by have := hpow.out; rw [Nat.pow_succ]; omega)
          clear hbr hpw
          have q1 : IntKind.i32.wrap ((bt s p : Int) - 48) = (bt s p : Int) - 48 := by rw [IntKind.wrap_i32]; omega
          go_wp2_with ((with_reducible refine c1.mono ?_); rintro e w1 ⟨rfl, rfl⟩)
          go_roundg f
          case measure => omega
          case rel => exact ⟨p + 1, n * 10 + (bt s p - 48), by have := hp.out; omega, by first | go_num | (congr 1; omega), hrel, hpow2, hit2.out, hb2⟩
      · obtain ⟨d1, d2, d3, d4⟩ := dec_high s p (by omega)
        rw [digR_high (by omega)] at hrel
        simp only [Bool.false_eq_true, if_false] at hrel
        subst hrel
        have hb2 := below_iter hb s (p + (Utf8.decode s p).2)
        obtain ⟨W, hW⟩ : ∃ W, wr.iterAt w.heap.size s (p + (Utf8.decode s p).2) = W := ⟨_, rfl⟩
        rw [hW] at hnx hb2
        have hW := Lib.hid hW
        have hit := Lib.hid hit
        clear d2 d3 d4
        obtain ⟨x, hx⟩ : ∃ x : Int, (((Utf8.decode s p).1 : Nat) : Int) = x := ⟨_, rfl⟩
        have hx1 : 128 ≤ x := by omega
        rw [hx] at hnx
        have hx := Lib.hid hx
        clear d1
        have c1 := digit_any x W
        rw [digR_high hx1] at c1
        go_wp2_with ((with_reducible refine c1.mono ?_); rintro e w1 ⟨rfl, rfl⟩)
        go_ret2
        exact ⟨rfl, hb2⟩

set_option maxHeartbeats 1000000 in
theorem number_any (s : ByteArray) (w : World) (hs : s.size ≤ maxLen) : Calls Try.prog 17 #[.string s] w (NumberR (numberP s) w) := by
  have hsz : (s.extract 1 s.size).size ≤ maxLen := by rw [ByteArray.size_extract]; omega
  unfold maxLen at hs
  by_cases h0 : 0 < s.size
  · have hg := bt_get s 0 h0
    by_cases h1 : bt s 0 = 45
    · have c1 := digits_any (s.extract 1 s.size) w hsz
      have hD : numberP s = (-(digitsP (s.extract 1 s.size)).1, (digitsP (s.extract 1 s.size)).2) := by unfold numberP; rw [if_pos ⟨h0, h1⟩]
      rw [hD]
      have hbd := digitsP_bd (s.extract 1 s.size)
      generalize digitsP (s.extract 1 s.size) = d at *
      obtain ⟨n, ok⟩ := d
      simp only at hbd
      obtain ⟨b1, b2⟩ := hbd
      rw [h1] at hg
      have q1 : IntKind.i64.wrap (-n) = -n := IntWalk.i64_in _ (by omega)
      clear hD
      have h1 := Lib.hid h1
      go_enter Try.func17, Try.ntmps17
      go_wp2_with ((with_reducible refine c1.mono ?_); rintro e w1 ⟨rfl, hb⟩)
      go_ret2
      exact ⟨rfl, hb⟩
    · have c1 := digits_any s w (by unfold maxLen; exact hs)
      rw [show numberP s = digitsP s by unfold numberP; rw [if_neg (fun h => h1 h.2)]]
      generalize digitsP s = d at *
      obtain ⟨n, ok⟩ := d
      have hb := bt_lt s 0
      have h2 : ((bt s 0 : Int) == 45) = false := by simp; omega
      go_enter Try.func17, Try.ntmps17
      go_wp2_with ((with_reducible refine c1.mono ?_); rintro e w1 ⟨rfl, hb⟩)
      go_ret2
      exact ⟨rfl, hb⟩
  · have c1 := digits_any s w (by unfold maxLen; exact hs)
    rw [show numberP s = digitsP s by unfold numberP; rw [if_neg (fun h => h0 h.1)]]
    generalize digitsP s = d at *
    obtain ⟨n, ok⟩ := d
    go_enter Try.func17, Try.ntmps17
    go_wp2_with ((with_reducible refine c1.mono ?_); rintro e w1 ⟨rfl, hb⟩)
    go_ret2
    exact ⟨rfl, hb⟩
end Go.Proofs.Ythoohbmpbahkgaa
