/- The contracts of the reference's Right and Make. -/
import Derived.Test.YtnbloflgggndiaaRefRight
namespace Go.Proofs.Ytnbloflgggndiaa
open Go.RowKit Rf Rt

theorem Rt.num_le2 (n d : Int) (hd : d ≠ 0) : (Rat.divInt n d).num.natAbs ≤ n.natAbs ∧ (Rat.divInt n d).den ≤ d.natAbs := by
  rw [Rat.num_divInt, Rat.den_divInt, if_neg hd]
  constructor
  · refine Nat.le_trans (Int.natAbs_ediv_le_natAbs _ _) ?_
    rw [Int.natAbs_mul]
    rcases Int.lt_trichotomy d 0 with h | h | h
    · rw [Int.sign_eq_neg_one_of_neg h]; simp
    · exact absurd h hd
    · rw [Int.sign_eq_one_of_pos h]; simp
  · exact Nat.div_le_self _ _
/-- A ratio is what is told of its numbers, just where it may be. -/
theorem Rt.right_plain (N D : Int) (hd : 0 < D) (hn : N ≠ -9223372036854775808) : ((Rat.divInt N D).num == N && ((Rat.divInt N D).den : Int) == D) = mayB N D := by
  rw [Bool.eq_iff_iff, Bool.and_eq_true, beq_iff_eq, beq_iff_eq, mayB_iff]
  constructor
  · rintro ⟨h1, h2⟩
    refine ⟨hd, hn, ?_⟩
    have := (Rat.divInt N D).reduced
    rw [h1] at this
    have h3 : (Rat.divInt N D).den = D.natAbs := by omega
    rw [h3] at this
    exact this
  · rintro ⟨_, _, h3⟩
    have hm : mayB N D = true := (mayB_iff _ _).2 ⟨hd, hn, h3⟩
    obtain ⟨q, hq⟩ := rawO_is hm
    obtain ⟨a, b, _⟩ := rawO_some hq
    unfold rawO at hq
    rw [if_pos hm] at hq
    obtain rfl : Rat.divInt N D = q := by simpa using hq
    exact ⟨a, b⟩

theorem right_any (N D : Int) (w : World) (h1 : Is64 N D) : Calls Try.prog 33 #[.agg #[.int .i64 N, .int .i64 D]] w (BoolIs (mayB N D) w) := by
  by_cases hd : 0 < D
  · by_cases hn : N = -9223372036854775808
    · have : mayB N D = false := by
        cases h : mayB N D
        · rfl
        · exact absurd hn ((mayB_iff _ _).1 h).2.1
      rw [this, hn]
      exact right_min D w hd
    · rw [← right_plain N D hd hn]
      have hl := num_le2 N D (by omega)
      have hf : fitsQ (Rat.divInt N D) = true := by
        have := h1.n1
        have := h1.n2
        have := h1.d2
        simp [fitsQ]
        omega
      obtain ⟨a, b, c⟩ := numO_cut_yes hf
      refine right_walk N D _ _ w h1 hd (by simpa using hn) (Lib.hid fun W x y hx hy => ?_)
      have hN : N.natAbs < 65536 ^ 99 := Nat.lt_of_le_of_lt (m := 9223372036854775808) (by have := h1.n1; have := h1.n2; omega) (by decide)
      have hD : D.natAbs < 65536 ^ 99 := Nat.lt_of_le_of_lt (m := 9223372036854775808) (by have := h1.d1; have := h1.d2; omega) (by decide)
      have h := rtoldE hx hy hN hD
      unfold RatO makeO at h
      rw [if_neg (by omega), a, b, c] at h
      exact h
  · have : mayB N D = false := by
      cases h : mayB N D
      · rfl
      · exact absurd ((mayB_iff _ _).1 h).1 hd
    rw [this]
    exact right_low N D w (by omega)

set_option maxHeartbeats 1000000 in
theorem make_walk (n d N D : Int) (b : Bool) (w : World) (h1 : Is64 n d) (HT : Hid (∀ W x y, NumE n W x → NumE d W y → Calls Try.prog 26 #[x, y] W (RatIs N D b W))) :
    Calls Try.prog 9 #[.int .i64 n, .int .i64 d] w (RatIs N D b w) := by
  have F1 := R1.first w 0 0 24
  go_enter Try.func9, Try.ntmps9
  go_wp2_with fail
  refine (rof_any _ n h1.n1 h1.n2).mono ?_
  rintro e w1 ⟨x, rfl, hx, hb1⟩
  have F2 := F1.next hb1
  go_wp2_with fail
  refine (rof_any _ d h1.d1 h1.d2).mono ?_
  rintro e w2 ⟨y, rfl, hy, hb2⟩
  have F3 := F2.next hb2
  go_wp2_with fail
  refine (HT.out _ x y ⟨_, hx.on hb2 (Nat.le_refl _)⟩ ⟨_, hy⟩).mono ?_
  rintro e w3 ⟨rfl, hb3⟩
  have F4 := F3.next hb3
  clear F1 F2 F3 hx hy
  have hf : ∀ o, w3.frozen? ⟨w.heap.size, o, none⟩ = false := fun o => by
    have z2 := hb2.size
    have z1 := hb1.size
    simp at z1
    rw [hb3.frozen (by simp; omega), hb2.frozen (by simp; omega), hb1.frozen (by simp)]
    simp [go_sem]
  have hb : Below w.heap.size w (((w3.setCell ⟨w.heap.size, 0, none⟩ (.int .i64 N)).setCell ⟨w.heap.size, 1, none⟩ (.int .i64 D)).alloc (.cells #[.int .i64 N, .int .i64 D] 24)) := by
    have hz := F4.size
    exact ((F4.bel.setCell (p := ⟨w.heap.size, 0, none⟩) (by simp) _).setCell (p := ⟨w.heap.size, 1, none⟩) (by simp) _).alloc (by simp; omega) _
  obtain ⟨-, hz, k1, k2⟩ := id F4
  have hz' : w.heap.size < w3.heap.size := by omega
  clear F4 hb1 hb2 hb3
  go_wp2_with fail
  refine bodyPost_ret (v := .tuple #[.agg #[.int .i64 N, .int .i64 D], .bool b]) (by simp [results, Try.results9, go_sem, k1, k2, hz']) rfl ⟨rfl, ?_⟩
  exact hb
theorem rmake_any (n d : Int) (w : World) (h1 : Is64 n d) : Calls Try.prog 9 #[.int .i64 n, .int .i64 d] w (RatO (cutQ (makeO n d)) w) := by
  refine make_walk n d _ _ _ w h1 (Lib.hid fun W x y hx hy => ?_)
  exact rtoldE hx hy (Nat.lt_of_le_of_lt (m := 9223372036854775808) (by have := h1.n1; have := h1.n2; omega) (by decide)) (Nat.lt_of_le_of_lt (m := 9223372036854775808) (by have := h1.d1; have := h1.d2; omega) (by decide))
end Go.Proofs.Ytnbloflgggndiaa
